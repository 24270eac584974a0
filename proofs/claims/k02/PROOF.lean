import PyProof.Rows.All
import PySem.Challenge.RW_triedagain_k02_parts_exchanged
import Wide.All
import OpenK.AllK
import Wide.FinOn
import HandS.ForMost
import HandS.IsInst
import HandS.Conv
import HandS.TupAny
import HandS.FStr
import HandS.Zip
import HandS.Defaults
import HandS.HeadHook3
import KE.GoesZip
import KE.GoesMore
import PyProof.ReprRoads
import HandS.Exc
import HandS.TryMany
import HandS.ExcOwn
import HandS.ExcIs
import HandS.CallSlots
import HandS.ExcInit
import HandS.ExcField
import HandS.DictComp
import Lean
import HandS.Head0
import HandS.Head1
import HandS.Head2
import HandS.HeadEnd
set_option Elab.async false
set_option linter.all false
set_option maxRecDepth 100000
set_option maxHeartbeats 2000000
/-! DL: a layer of readings over plain data (PyData): the heap is split into what never changes (G), lists that a def owns, and the law's own drawing state. -/
namespace DL
open PySem PySem.Spec PyProof.Rows L2

abbrev D := PyData
def keyD : Key → D
  | .inl i => .int i
  | .inr x => .str x

mutual
/-- the value v stands for the datum d in the heap H -/
inductive Rp (K : PySem.W.Frag) (H : Hp) : V → D → Prop
  | non : Rp K H .non .none
  | bl (b : Bool) : Rp K H (.bl b) (.bool b)
  | int (i : Int) : Rp K H (.int i) (.int i)
  | str (x : Str) : Rp K H (.str x) (.str x)
  | lst {a : Addr} {xs : List V} {ds : List D} : Rd H a (.lst xs) → Rps K H xs ds → Rp K H (.ref a) (.list ds)
  | tup {a : Addr} {xs : List V} {ds : List D} : SqT K H a xs → Rps K H xs ds → Rp K H (.ref a) (.tuple ds)
  | dic {a : Addr} {kvs : List (Key × V)} {ds : List (D × D)} : Rd H a (.dK kvs) → RpKv K H kvs ds → Rp K H (.ref a) (.dict ds)
inductive Rps (K : PySem.W.Frag) (H : Hp) : List V → List D → Prop
  | nil : Rps K H [] []
  | cons {v : V} {vs : List V} {d : D} {ds : List D} : Rp K H v d → Rps K H vs ds → Rps K H (v :: vs) (d :: ds)
inductive RpKv (K : PySem.W.Frag) (H : Hp) : List (Key × V) → List (D × D) → Prop
  | nil : RpKv K H [] []
  | cons {k : Key} {v : V} {vs : List (Key × V)} {d : D} {ds : List (D × D)} : Rp K H v d → RpKv K H vs ds → RpKv K H ((k, v) :: vs) ((keyD k, d) :: ds)
end

def Ex (H H' : Hp) : Prop := ∀ a o, H a = some o → H' a = some o
theorem Ex.refl (H : Hp) : Ex H H := fun _ _ h => h
theorem Ex.trans {H H1 H2 : Hp} (a : Ex H H1) (b : Ex H1 H2) : Ex H H2 := fun x o h => b x o (a x o h)
theorem Ex.new {H : Hp} {p : Addr} {o : HO} (h : H p = none) : Ex H (upd H p o) := fun a u e => by
  rw [upd_ne (ne_of_none e h)]
  exact e
theorem Ex.free {H H' : Hp} {p : Addr} (e : Ex H H') (h : H' p = none) : H p = none := by
  cases h1 : H p with
  | none => rfl
  | some o =>
    rw [e p o h1] at h
    cases h
theorem Ex.rd {H H' : Hp} {a : Addr} {u : HO} (e : Ex H H') (h : Rd H a u) : Rd H' a u := by
  rcases h with h | ⟨o, h⟩
  · exact Or.inl (e a _ h)
  · exact Or.inr ⟨o, e a _ h⟩
theorem Ex.sqL {K : PySem.W.Frag} {H H' : Hp} {a : Addr} {xs : List V} (e : Ex H H') (h : SqL K H a xs) : SqL K H' a xs := by
  rcases h with h | h
  · exact Or.inl (e.rd h)
  · exact Or.inr h
theorem Ex.sqT {K : PySem.W.Frag} {H H' : Hp} {a : Addr} {xs : List V} (e : Ex H H') (h : SqT K H a xs) : SqT K H' a xs := by
  rcases h with h | h
  · exact Or.inl (e.rd h)
  · exact Or.inr h

section
variable {K : PySem.W.Frag} {H H' : Hp}
mutual
theorem Rp.mono (e : Ex H H') : ∀ {d : D} {v : V}, Rp K H v d → Rp K H' v d
  | .none, _, h => by cases h; exact .non
  | .bool b, _, h => by cases h; exact .bl b
  | .int i, _, h => by cases h; exact .int i
  | .str x, _, h => by cases h; exact .str x
  | .list ds, _, h => by
    cases h with
    | lst hs ha => exact .lst (e.rd hs) (Rps.mono e ha)
  | .tuple ds, _, h => by
    cases h with
    | tup hs ha => exact .tup (e.sqT hs) (Rps.mono e ha)
  | .dict ds, _, h => by
    cases h with
    | dic hs ha => exact .dic (e.rd hs) (RpKv.mono e ha)
theorem Rps.mono (e : Ex H H') : ∀ {ds : List D} {vs : List V}, Rps K H vs ds → Rps K H' vs ds
  | [], _, h => by cases h; exact .nil
  | d :: ds, _, h => by
    cases h with
    | cons h1 h2 => exact .cons (Rp.mono e h1) (Rps.mono e h2)
theorem RpKv.mono (e : Ex H H') : ∀ {ds : List (D × D)} {vs : List (Key × V)}, RpKv K H vs ds → RpKv K H' vs ds
  | [], _, h => by cases h; exact .nil
  | (_, d) :: ds, _, h => by
    cases h with
    | cons h1 h2 => exact .cons (Rp.mono e h1) (RpKv.mono e h2)
end
end

section
variable {K : PySem.W.Frag} {H : Hp}
theorem Rps.length : ∀ {vs : List V} {ds : List D}, Rps K H vs ds → vs.length = ds.length
  | _, _, .nil => rfl
  | _, _, .cons _ h => congrArg (· + 1) (Rps.length h)
theorem Rps.append : ∀ {vs ws : List V} {ds es : List D}, Rps K H vs ds → Rps K H ws es → Rps K H (vs ++ ws) (ds ++ es)
  | _, _, _, _, .nil, h => h
  | _, _, _, _, .cons a b, h => .cons a (Rps.append b h)
theorem Rps.get : ∀ {vs : List V} {ds : List D} {i : Nat} {d : D}, Rps K H vs ds → ds[i]? = some d → ∃ v, vs[i]? = some v ∧ Rp K H v d
  | _, _, _, _, .nil, e => by simp at e
  | _, _, 0, _, .cons a b, e => by simp at e; subst e; exact ⟨_, rfl, a⟩
  | _, _, i + 1, d, .cons a b, e => by
    obtain ⟨v, h1, h2⟩ := Rps.get (i := i) (d := d) b (by simpa using e)
    exact ⟨v, by simpa using h1, h2⟩
theorem Rps.getV : ∀ {vs : List V} {ds : List D} {i : Nat} {v : V}, Rps K H vs ds → vs[i]? = some v → ∃ d, ds[i]? = some d ∧ Rp K H v d
  | _, _, _, _, .nil, e => by simp at e
  | _, _, 0, _, .cons a b, e => by simp at e; subst e; exact ⟨_, rfl, a⟩
  | _, _, i + 1, v, .cons a b, e => by
    obtain ⟨d, h1, h2⟩ := Rps.getV (i := i) (v := v) b (by simpa using e)
    exact ⟨d, by simpa using h1, h2⟩
theorem Rps.take : ∀ {vs : List V} {ds : List D} (n : Nat), Rps K H vs ds → Rps K H (vs.take n) (ds.take n)
  | _, _, 0, _ => .nil
  | _, _, _ + 1, .nil => .nil
  | _, _, n + 1, .cons a b => .cons a (Rps.take n b)
theorem Rps.drop : ∀ {vs : List V} {ds : List D} (n : Nat), Rps K H vs ds → Rps K H (vs.drop n) (ds.drop n)
  | _, _, 0, h => h
  | _, _, _ + 1, .nil => .nil
  | _, _, n + 1, .cons _ b => Rps.drop n b
theorem Rps.set {v : V} {d : D} (r : Rp K H v d) : ∀ {vs : List V} {ds : List D} (i : Nat), Rps K H vs ds → Rps K H (vs.set i v) (ds.set i d)
  | _, _, _, .nil => .nil
  | _, _, 0, .cons _ b => .cons r b
  | _, _, i + 1, .cons a b => .cons a (Rps.set r i b)
theorem Rps.rep {v : V} {d : D} (r : Rp K H v d) : ∀ n : Nat, Rps K H (List.replicate n v) (List.replicate n d)
  | 0 => .nil
  | n + 1 => .cons r (Rps.rep r n)
theorem Rps.flat {vs : List V} {ds : List D} (r : Rps K H vs ds) : ∀ n : Nat, Rps K H (List.replicate n vs).flatten (List.replicate n ds).flatten
  | 0 => .nil
  | n + 1 => by
    rw [List.replicate_succ, List.replicate_succ, List.flatten_cons, List.flatten_cons]
    exact r.append (Rps.flat r n)
theorem Rps.strs : ∀ xs : List Str, Rps K H (xs.map V.str) (xs.map PyData.str)
  | [] => .nil
  | x :: xs => .cons (.str x) (Rps.strs xs)
end

/-! ### the law's drawing state: the bag's list and its two lists, the rooms -/
structure Zn where
  bags : List (Addr × Addr × Addr)
  rooms : List Addr
  ap : ∀ r ∈ rooms, ∀ t ∈ bags, r ≠ t.1 ∧ r ≠ t.2.1 ∧ r ≠ t.2.2
  one : ∀ t ∈ bags, ∀ u ∈ bags, t = u
def Zn.F (z : Zn) (a : Addr) : Prop := (∃ t ∈ z.bags, a = t.1 ∨ a = t.2.1 ∨ a = t.2.2) ∨ a ∈ z.rooms
structure BagOk (H : Hp) (b c g : Addr) : Prop where
  at_ : ∃ (i j : Int) (cs : List Int) (gs : List Bool), H b = some (.lst [.ref c, .ref g, .int i, .int j]) ∧ H c = some (.lst (cs.map V.int)) ∧ H g = some (.lst (gs.map V.bl)) ∧ cs.length = gs.length ∧ cs.length ≤ 63
  n1 : b ≠ c
  n2 : b ≠ g
  n3 : c ≠ g
/-- G never changes, the drawing state is well made, what stood at the entry (H0, G0) stands but for the drawing state -/
structure Ok (z : Zn) (H0 G0 G H : Hp) : Prop where
  sub : Ex G H
  bag : ∀ t ∈ z.bags, BagOk H t.1 t.2.1 t.2.2
  room : ∀ r ∈ z.rooms, ∃ n : Int, H r = some (.lst [.int n])
  dis : ∀ a, z.F a → G a = none
  keep : ∀ a o, ¬ z.F a → H0 a = some o → H a = some o
  old : ∀ a o, H0 a = some o → G0 a = none → G a = none
  grow : Ex G0 G
/-- a datum, the bag, a room, or a list of one's own -/
inductive DV where
  | d (x : D) | bag | room | own (xs : List D) | ref (a : Addr) | err (a : Addr) (d : Option Addr) (fs : List (Str × D))
def RV (K : PySem.W.Frag) (z : Zn) (H0 G H : Hp) (v : V) : DV → Prop
  | .d x => Rp K G v x
  | .bag => ∃ t ∈ z.bags, v = .ref t.1
  | .room => ∃ r ∈ z.rooms, v = .ref r
  | .own xs => ∃ p vs, v = .ref p ∧ H p = some (.lst vs) ∧ G p = none ∧ ¬ z.F p ∧ H0 p = none ∧ Rps K G vs xs
  | .ref a => v = .ref a
  | .err a d fs => v = .ref a ∧ ((fs = [] ∧ d = none) ∨ (fs ≠ [] ∧ ∃ dd vs, d = some dd ∧ G dd = some (.xd vs) ∧ vs.map (·.1) = fs.map (·.1) ∧ Rps K G (vs.map (·.2)) (fs.map (·.2))))
abbrev Ro := List (Option DV)
structure SO (K : PySem.W.Frag) (z : Zn) (H0 G0 : Hp) (ρ : Ro) (σ : L2.St) (G H : Hp) : Prop where
  ok : Ok z H0 G0 G H
  len : ρ.length = σ.length
  slot : ∀ (i : Nat) (x : DV), ρ[i]? = some (some x) → ∃ v, σ[i]? = some (some v) ∧ RV K z H0 G H v x
  apart : ∀ (i j : Nat) (xs ys : List D) (p : Addr), ρ[i]? = some (some (.own xs)) → ρ[j]? = some (some (.own ys)) → σ[i]? = some (some (.ref p)) → σ[j]? = some (some (.ref p)) → i = j

theorem Zn.F_alloc {z : Zn} {H0 G0 G H : Hp} (ok : Ok z H0 G0 G H) {a : Addr} (h : z.F a) : ∃ o, H a = some o := by
  rcases h with ⟨t, ht, h⟩ | h
  · obtain ⟨i, j, cs, gs, h1, h2, h3, _⟩ := (ok.bag t ht).at_
    rcases h with rfl | rfl | rfl
    · exact ⟨_, h1⟩
    · exact ⟨_, h2⟩
    · exact ⟨_, h3⟩
  · obtain ⟨n, e⟩ := ok.room a h
    exact ⟨_, e⟩
/-- the drawing state leans on its own addresses alone -/
theorem BagOk.same {H H' : Hp} {t : Addr × Addr × Addr} (h : BagOk H t.1 t.2.1 t.2.2) (e : ∀ a, (a = t.1 ∨ a = t.2.1 ∨ a = t.2.2) → H' a = H a) : BagOk H' t.1 t.2.1 t.2.2 := by
  obtain ⟨⟨i, j, cs, gs, h1, h2, h3, h4, h5⟩, n1, n2, n3⟩ := h
  exact ⟨⟨i, j, cs, gs, (e _ (.inl rfl)).trans h1, (e _ (.inr (.inl rfl))).trans h2, (e _ (.inr (.inr rfl))).trans h3, h4, h5⟩, n1, n2, n3⟩

section
variable {K : PySem.W.Frag} {z : Zn} {H0 G0 G H : Hp} {ρ : Ro} {σ : L2.St}
theorem RV.mono {G' H' : Hp} (eg : Ex G G') {v : V} : ∀ {x : DV}, RV K z H0 G H v x → (∀ xs, x ≠ .own xs) → RV K z H0 G' H' v x
  | .d x, h, _ => Rp.mono eg h
  | .bag, h, _ => h
  | .room, h, _ => h
  | .ref _, h, _ => h
  | .err _ _ _, ⟨h1, h2⟩, _ => ⟨h1, h2.imp id fun ⟨n, dd, vs, e1, e2, e3, e4⟩ => ⟨n, dd, vs, e1, eg _ _ e2, e3, Rps.mono eg e4⟩⟩
  | .own xs, _, n => absurd rfl (n xs)
/-- a new object that nobody owns and that never changes -/
theorem Ok.new (ok : Ok z H0 G0 G H) {p : Addr} {o : HO} (h : H p = none) : Ok z H0 G0 (upd G p o) (upd H p o) := by
  have nF : ∀ a, z.F a → a ≠ p := fun a ha e => by
    obtain ⟨u, hu⟩ := Zn.F_alloc ok ha
    rw [e, h] at hu
    cases hu
  refine ⟨fun a u e => ?_, fun t ht => (ok.bag t ht).same fun a ha => upd_ne (nF a (.inl ⟨t, ht, ha⟩)), fun r hr => ?_, fun a ha => ?_, fun a u n e => ?_, fun a u e e2 => ?_, fun a u e => ?_⟩
  · by_cases hp : a = p
    · subst hp
      rw [upd_same] at e ⊢
      exact e
    · rw [upd_ne hp] at e ⊢
      exact ok.sub a u e
  · obtain ⟨n, e⟩ := ok.room r hr
    exact ⟨n, by rw [upd_ne (nF r (.inr hr))]; exact e⟩
  · rw [upd_ne (nF a ha)]
    exact ok.dis a ha
  · have e2 := ok.keep a u n e
    rw [upd_ne (ne_of_none e2 h)]
    exact e2
  · by_cases hp : a = p
    · subst hp
      by_cases hF : z.F a
      · exact absurd rfl (nF a hF)
      · rw [ok.keep a u hF e] at h
        cases h
    · rw [upd_ne hp]
      exact ok.old a u e e2
  · have e2 := ok.grow a u e
    rw [upd_ne (ne_of_none (ok.sub a u e2) h)]
    exact e2
/-- a new object that is laid aside (not told) -/
theorem Ok.newOwn (ok : Ok z H0 G0 G H) {p : Addr} {o : HO} (h : H p = none) : Ok z H0 G0 G (upd H p o) := by
  have nF : ∀ a, z.F a → a ≠ p := fun a ha e => by
    obtain ⟨u, hu⟩ := Zn.F_alloc ok ha
    rw [e, h] at hu
    cases hu
  refine ⟨fun a u e => ?_, fun t ht => (ok.bag t ht).same fun a ha => upd_ne (nF a (.inl ⟨t, ht, ha⟩)), fun r hr => ?_, ok.dis, fun a u n e => ?_, ok.old, ok.grow⟩
  · have e2 := ok.sub a u e
    rw [upd_ne (ne_of_none e2 h)]
    exact e2
  · obtain ⟨n, e⟩ := ok.room r hr
    exact ⟨n, by rw [upd_ne (nF r (.inr hr))]; exact e⟩
  · have e2 := ok.keep a u n e
    rw [upd_ne (ne_of_none e2 h)]
    exact e2
theorem SO.new (so : SO K z H0 G0 ρ σ G H) {p : Addr} {o : HO} (h : H p = none) : SO K z H0 G0 ρ σ (upd G p o) (upd H p o) := by
  have gp : G p = none := so.ok.sub.free h
  refine ⟨so.ok.new h, so.len, fun i x e => ?_, so.apart⟩
  obtain ⟨v, e1, r⟩ := so.slot i x e
  refine ⟨v, e1, ?_⟩
  cases x with
  | own xs =>
    obtain ⟨q, vs, rfl, h1, h2, h3, h4, h5⟩ := r
    have hq : q ≠ p := ne_of_none h1 h
    exact ⟨q, vs, rfl, by rw [upd_ne hq]; exact h1, by rw [upd_ne hq]; exact h2, h3, h4, Rps.mono (Ex.new gp) h5⟩
  | _ => exact RV.mono (Ex.new gp) r (fun _ z => nomatch z)
theorem SO.newOwn (so : SO K z H0 G0 ρ σ G H) {p : Addr} {o : HO} (h : H p = none) : SO K z H0 G0 ρ σ G (upd H p o) := by
  refine ⟨so.ok.newOwn h, so.len, fun i x e => ?_, so.apart⟩
  obtain ⟨v, e1, r⟩ := so.slot i x e
  refine ⟨v, e1, ?_⟩
  cases x with
  | own xs =>
    obtain ⟨q, vs, rfl, h1, h2, h3, h4, h5⟩ := r
    have hq : q ≠ p := ne_of_none h1 h
    exact ⟨q, vs, rfl, by rw [upd_ne hq]; exact h1, h2, h3, h4, h5⟩
  | d _ => exact r
  | bag => exact r
  | room => exact r
  | ref _ => exact r
  | err _ _ _ => exact r
/-- a slot gets a value that is not owned -/
theorem SO.set (so : SO K z H0 G0 ρ σ G H) {i : Nat} {v : V} {x : DV} (r : RV K z H0 G H v x) (hx : ∀ xs, x ≠ .own xs) : SO K z H0 G0 (ρ.set i (some x)) (σ.set i (some v)) G H := by
  refine ⟨so.ok, by simpa using so.len, fun j y e => ?_, fun j k xs ys p e1 e2 e3 e4 => ?_⟩
  · by_cases hj : i = j
    · subst hj
      have hl : i < ρ.length := by
        have := List.getElem?_eq_some_iff.mp e
        obtain ⟨h, _⟩ := this
        simpa using h
      rw [List.getElem?_set_self hl] at e
      cases e
      exact ⟨v, by rw [List.getElem?_set_self (so.len ▸ hl)], r⟩
    · rw [List.getElem?_set_ne hj] at e
      obtain ⟨w, e1, r1⟩ := so.slot j y e
      exact ⟨w, by rw [List.getElem?_set_ne hj]; exact e1, r1⟩
  · have go : ∀ {j : Nat} {xs : List D}, (ρ.set i (some x))[j]? = some (some (.own xs)) → i ≠ j := fun {j xs} e z => by
      subst z
      have hl : i < ρ.length := by
        obtain ⟨h, _⟩ := List.getElem?_eq_some_iff.mp e
        simpa using h
      rw [List.getElem?_set_self hl] at e
      cases e
      exact hx xs rfl
    have hj := go e1
    have hk := go e2
    rw [List.getElem?_set_ne hj] at e1 e3
    rw [List.getElem?_set_ne hk] at e2 e4
    exact so.apart j k xs ys p e1 e2 e3 e4
/-- a slot gets a new list of its own -/
theorem SO.setOwn (so : SO K z H0 G0 ρ σ G H) {i : Nat} {p : Addr} {vs : List V} {xs : List D} (h : H p = none) (r : Rps K G vs xs) : SO K z H0 G0 (ρ.set i (some (.own xs))) (σ.set i (some (.ref p))) G (upd H p (.lst vs)) := by
  have so2 := so.newOwn (o := .lst vs) h
  have nF : ¬ z.F p := fun hF => by
    obtain ⟨u, hu⟩ := Zn.F_alloc so.ok hF
    rw [h] at hu
    cases hu
  have h0 : H0 p = none := by
    cases e : H0 p with
    | none => rfl
    | some o =>
      rw [so.ok.keep p o nF e] at h
      cases h
  have old : ∀ {j : Nat} {ys : List D}, ρ[j]? = some (some (.own ys)) → σ[j]? = some (some (.ref p)) → False := fun {j ys} e1 e2 => by
    obtain ⟨v, e3, q, ws, rfl, h1, _⟩ := so.slot j _ e1
    rw [e2] at e3
    cases e3
    rw [h] at h1
    cases h1
  refine ⟨so2.ok, by simpa using so.len, fun j y e => ?_, fun j k as bs q e1 e2 e3 e4 => ?_⟩
  · by_cases hj : i = j
    · subst hj
      have hl : i < ρ.length := by
        obtain ⟨h, _⟩ := List.getElem?_eq_some_iff.mp e
        simpa using h
      rw [List.getElem?_set_self hl] at e
      cases e
      exact ⟨.ref p, by rw [List.getElem?_set_self (so.len ▸ hl)], p, vs, rfl, upd_same, so.ok.sub.free h, nF, h0, r⟩
    · rw [List.getElem?_set_ne hj] at e
      obtain ⟨w, e1, r1⟩ := so2.slot j y e
      exact ⟨w, by rw [List.getElem?_set_ne hj]; exact e1, r1⟩
  · have at_i : ∀ {j : Nat} {as : List D}, (ρ.set i (some (.own xs)))[j]? = some (some (.own as)) → (σ.set i (some (.ref p)))[j]? = some (some (.ref q)) → (i = j ∧ q = p) ∨ (i ≠ j ∧ ρ[j]? = some (some (.own as)) ∧ σ[j]? = some (some (.ref q))) := fun {j as} e1 e2 => by
      by_cases hj : i = j
      · subst hj
        have hl : i < ρ.length := by
          obtain ⟨h, _⟩ := List.getElem?_eq_some_iff.mp e1
          simpa using h
        rw [List.getElem?_set_self (so.len ▸ hl)] at e2
        cases e2
        exact .inl ⟨rfl, rfl⟩
      · rw [List.getElem?_set_ne hj] at e1 e2
        exact .inr ⟨hj, e1, e2⟩
    rcases at_i e1 e3 with ⟨rfl, rfl⟩ | ⟨n1, a1, a2⟩
    · rcases at_i e2 e4 with ⟨rfl, _⟩ | ⟨n2, b1, b2⟩
      · rfl
      · exact (old b1 b2).elim
    · rcases at_i e2 e4 with ⟨rfl, rfl⟩ | ⟨n2, b1, b2⟩
      · exact (old a1 a2).elim
      · exact so.apart j k as bs q a1 b1 a2 b2
/-- an owned list is written -/
theorem SO.putOwn (so : SO K z H0 G0 ρ σ G H) {i : Nat} {p : Addr} {vs : List V} {xs ys : List D} (e : ρ[i]? = some (some (.own xs))) (e2 : σ[i]? = some (some (.ref p))) (r : Rps K G vs ys) :
    SO K z H0 G0 (ρ.set i (some (.own ys))) σ G (upd H p (.lst vs)) := by
  obtain ⟨v, e3, q, ws, rfl, h1, h2, h3, h4, h5⟩ := so.slot i _ e
  rw [e2] at e3
  cases e3
  have hi : i < ρ.length := (List.getElem?_eq_some_iff.mp e).1
  have nG : ∀ a u, G a = some u → a ≠ p := fun a u ea z => by
    subst z
    rw [h2] at ea
    cases ea
  have nF : ∀ a, z.F a → a ≠ p := fun a ha z => by
    subst z
    exact h3 ha
  refine ⟨⟨fun a u ea => by rw [upd_ne (nG a u ea)]; exact so.ok.sub a u ea, fun t ht => (so.ok.bag t ht).same fun a ha => upd_ne (nF a (.inl ⟨t, ht, ha⟩)), fun r hr => ?_, so.ok.dis, fun a u n ea => ?_, so.ok.old, so.ok.grow⟩, by simpa using so.len, fun j y ej => ?_, fun j k as bs q e1 e2' e3' e4 => ?_⟩
  · obtain ⟨n, er⟩ := so.ok.room r hr
    exact ⟨n, by rw [upd_ne (nF r (.inr hr))]; exact er⟩
  · have hne : a ≠ p := fun z => by
      subst z
      rw [h4] at ea
      cases ea
    rw [upd_ne hne]
    exact so.ok.keep a u n ea
  · by_cases hj : i = j
    · subst hj
      rw [List.getElem?_set_self hi] at ej
      cases ej
      exact ⟨.ref p, e2, p, vs, rfl, upd_same, h2, h3, h4, r⟩
    · rw [List.getElem?_set_ne hj] at ej
      obtain ⟨w, e1, r1⟩ := so.slot j y ej
      refine ⟨w, e1, ?_⟩
      cases y with
      | own zs =>
        obtain ⟨q, us, rfl, g1, g2, g3, g4, g5⟩ := r1
        have hq : q ≠ p := fun z => by
          subst z
          exact hj (so.apart i j _ _ _ e ej e2 e1)
        exact ⟨q, us, rfl, by rw [upd_ne hq]; exact g1, g2, g3, g4, g5⟩
      | d _ => exact r1
      | bag => exact r1
      | room => exact r1
      | ref _ => exact r1
      | err _ _ _ => exact r1
  · have back : ∀ {j : Nat} {as : List D}, (ρ.set i (some (.own ys)))[j]? = some (some (.own as)) → ∃ cs, ρ[j]? = some (some (.own cs)) := fun {j as} ea => by
      by_cases hj : i = j
      · subst hj
        exact ⟨_, e⟩
      · rw [List.getElem?_set_ne hj] at ea
        exact ⟨_, ea⟩
    obtain ⟨_, b1⟩ := back e1
    obtain ⟨_, b2⟩ := back e2'
    exact so.apart j k _ _ q b1 b2 e3' e4
/-- an owned list becomes a datum that never changes -/
theorem SO.freeze (so : SO K z H0 G0 ρ σ G H) {i : Nat} {xs : List D} (e : ρ[i]? = some (some (.own xs))) : ∃ G', Ex G G' ∧ SO K z H0 G0 (ρ.set i (some (.d (.list xs)))) σ G' H := by
  obtain ⟨v, e3, p, vs, rfl, h1, h2, h3, h4, h5⟩ := so.slot i _ e
  have hi : i < ρ.length := (List.getElem?_eq_some_iff.mp e).1
  have ex : Ex G (upd G p (.lst vs)) := Ex.new h2
  refine ⟨upd G p (.lst vs), ex, ⟨⟨fun a u ea => ?_, so.ok.bag, so.ok.room, fun a ha => ?_, so.ok.keep, fun a u ea e0 => ?_, so.ok.grow.trans ex⟩, by simpa using so.len, fun j y ej => ?_, fun j k as bs q e1 e2' e3' e4 => ?_⟩⟩
  · by_cases hp : a = p
    · subst hp
      rw [upd_same] at ea
      cases ea
      exact h1
    · rw [upd_ne hp] at ea
      exact so.ok.sub a u ea
  · have hne : a ≠ p := fun z => by
      subst z
      exact h3 ha
    rw [upd_ne hne]
    exact so.ok.dis a ha
  · have hne : a ≠ p := fun z => by
      subst z
      rw [h4] at ea
      cases ea
    rw [upd_ne hne]
    exact so.ok.old a u ea e0
  · by_cases hj : i = j
    · subst hj
      rw [List.getElem?_set_self hi] at ej
      cases ej
      exact ⟨.ref p, e3, Rp.lst (.inl upd_same) (Rps.mono ex h5)⟩
    · rw [List.getElem?_set_ne hj] at ej
      obtain ⟨w, e1, r1⟩ := so.slot j y ej
      refine ⟨w, e1, ?_⟩
      cases y with
      | own zs =>
        obtain ⟨q, us, rfl, g1, g2, g3, g4, g5⟩ := r1
        have hq : q ≠ p := fun z => by
          subst z
          exact hj (so.apart i j _ _ _ e ej e3 e1)
        exact ⟨q, us, rfl, g1, by rw [upd_ne hq]; exact g2, g3, g4, Rps.mono ex g5⟩
      | _ => exact RV.mono ex r1 (fun _ z => nomatch z)
  · have back : ∀ {j : Nat} {as : List D}, (ρ.set i (some (.d (.list xs))))[j]? = some (some (.own as)) → ∃ cs, ρ[j]? = some (some (.own cs)) := fun {j as} ea => by
      by_cases hj : i = j
      · subst hj
        exact ⟨_, e⟩
      · rw [List.getElem?_set_ne hj] at ea
        exact ⟨_, ea⟩
    obtain ⟨_, b1⟩ := back e1
    obtain ⟨_, b2⟩ := back e2'
    exact so.apart j k _ _ q b1 b2 e3' e4
end
end DL

set_option Elab.async false
set_option linter.all false
set_option maxRecDepth 100000
set_option maxHeartbeats 2000000
namespace DL
open PySem PySem.Spec PyProof.Rows L2

/-- nothing but the drawing state is changed -/
def Kp (z : Zn) (H H' : Hp) : Prop := ∀ a o, ¬ z.F a → H a = some o → H' a = some o
structure Go (z : Zn) (G H G' H' : Hp) : Prop where
  ex : Ex G G'
  kp : Kp z H H'
  nw : ∀ a o, ¬ z.F a → H a = some o → G a = none → G' a = none
theorem Go.refl (z : Zn) (G H : Hp) : Go z G H G H := ⟨Ex.refl G, fun _ _ _ h => h, fun _ _ _ _ h => h⟩
theorem Go.trans {z : Zn} {G H G1 H1 G2 H2 : Hp} (a : Go z G H G1 H1) (b : Go z G1 H1 G2 H2) : Go z G H G2 H2 :=
  ⟨a.ex.trans b.ex, fun c o n h => b.kp c o n (a.kp c o n h), fun c o n h g => b.nw c o n (a.kp c o n h) (a.nw c o n h g)⟩
theorem Kp.new {z : Zn} {H : Hp} {p : Addr} {o : HO} (h : H p = none) : Kp z H (upd H p o) := fun a u _ e => by
  rw [upd_ne (ne_of_none e h)]
  exact e
theorem Go.new {z : Zn} {G H : Hp} {p : Addr} {o : HO} (g : G p = none) (h : H p = none) : Go z G H (upd G p o) (upd H p o) :=
  ⟨Ex.new g, Kp.new h, fun a u _ e g' => by
    rw [upd_ne (ne_of_none e h)]
    exact g'⟩

theorem RV.go {K : PySem.W.Frag} {z : Zn} {H0 G H G' H' : Hp} (e : Go z G H G' H') {v : V} : ∀ {x : DV}, RV K z H0 G H v x → RV K z H0 G' H' v x
  | .d x, h => Rp.mono e.ex h
  | .bag, h => h
  | .room, h => h
  | .ref _, h => h
  | .err _ _ _, ⟨h1, h2⟩ => ⟨h1, h2.imp id fun ⟨n, dd, vs, e1, e2, e3, e4⟩ => ⟨n, dd, vs, e1, e.ex _ _ e2, e3, Rps.mono e.ex e4⟩⟩
  | .own xs, ⟨p, vs, e0, h1, h2, h3, h4, h5⟩ => ⟨p, vs, e0, e.kp p _ h3 h1, e.nw p _ h3 h1 h2, h3, h4, Rps.mono e.ex h5⟩

/-! ### exceptions as data -/
structure XD where
  C : Addr
  fs : List (Str × D)
def XR (K : PySem.W.Frag) (G H : Hp) (c : Value) (d : Option Addr) (x : XD) : Prop :=
  c = .ref x.C ∧ ((x.fs = [] ∧ d = none) ∨ (x.fs ≠ [] ∧ ∃ dd vs, d = some dd ∧ G dd = some (.xd vs) ∧ vs.map (·.1) = x.fs.map (·.1) ∧ Rps K G (vs.map (·.2)) (x.fs.map (·.2))))
abbrev DW := XD → Ro → Prop
/-- what is wanted of an exception -/
def Wh (K : PySem.W.Frag) (z : Zn) (H0 G0 : Hp) (W : WX) (G : Hp) (Wd : DW) : Prop :=
  ∀ x ρ', Wd x ρ' → ∀ c d σ' G' H', Ex G G' → SO K z H0 G0 ρ' σ' G' H' → XR K G' H' c d x → W c d σ' H'
theorem Wh.mono {K : PySem.W.Frag} {z : Zn} {H0 G0 G G1 : Hp} {W : WX} {Wd : DW} (h : Wh K z H0 G0 W G Wd) (e : Ex G G1) : Wh K z H0 G0 W G1 Wd :=
  fun x ρ' hx c d σ' G' H' e' so xr => h x ρ' hx c d σ' G' H' (e.trans e') so xr

/-! ### readings over data -/
abbrev DE := DW → Ro → (DV → Prop) → Prop
abbrev DT := DW → Ro → (Bool → Prop) → Prop
abbrev DA := DW → Ro → (List DV → Prop) → Prop
structure DEnds where
  nx : Ro → Prop
  rt : DV → Prop
  bk : Ro → Prop
  ct : Ro → Prop
  ex : DW
abbrev DS := DEnds → Ro → Prop

section
variable (K : PySem.W.Frag) (W : WX)
def lE (t : DE) : TE := fun σ H Q => ∃ z H0 G0 G ρ Wd, ∃ Qd : DV → Prop, SO K z H0 G0 ρ σ G H ∧ t Wd ρ Qd ∧
  (∀ x, Qd x → ∀ v G' H', Go z G H G' H' → SO K z H0 G0 ρ σ G' H' → RV K z H0 G' H' v x → Q v H') ∧ Wh K z H0 G0 W G Wd
def lT (t : DT) : TT := fun σ H Q => ∃ z H0 G0 G ρ Wd, ∃ Qd : Bool → Prop, SO K z H0 G0 ρ σ G H ∧ t Wd ρ Qd ∧
  (∀ x, Qd x → ∀ G' H', Go z G H G' H' → SO K z H0 G0 ρ σ G' H' → Q x H') ∧ Wh K z H0 G0 W G Wd
inductive RVs (z : Zn) (H0 G H : Hp) : List V → List DV → Prop
  | nil : RVs z H0 G H [] []
  | cons {v : V} {vs : List V} {x : DV} {xs : List DV} : RV K z H0 G H v x → (∀ ys, x ≠ .own ys) → RVs z H0 G H vs xs → RVs z H0 G H (v :: vs) (x :: xs)
def lA (t : DA) : TA := fun σ H Q => ∃ z H0 G0 G ρ Wd, ∃ Qd : List DV → Prop, SO K z H0 G0 ρ σ G H ∧ t Wd ρ Qd ∧
  (∀ x, Qd x → ∀ v G' H', Go z G H G' H' → SO K z H0 G0 ρ σ G' H' → RVs K z H0 G' H' v x → Q v H') ∧ Wh K z H0 G0 W G Wd
def lS (t : DS) : TS := fun E σ H => ∃ z H0 G0 G ρ, ∃ ED : DEnds, SO K z H0 G0 ρ σ G H ∧ t ED ρ ∧
  (∀ ρ', ED.nx ρ' → ∀ σ' G' H', Ex G G' → SO K z H0 G0 ρ' σ' G' H' → E.nx σ' H') ∧
  (∀ x, ED.rt x → ∀ v ρ' σ' G' H', Ex G G' → SO K z H0 G0 ρ' σ' G' H' → RV K z H0 G' H' v x → E.rt v H') ∧
  (∀ ρ', ED.bk ρ' → ∀ σ' G' H', Ex G G' → SO K z H0 G0 ρ' σ' G' H' → E.bk σ' H') ∧
  (∀ ρ', ED.ct ρ' → ∀ σ' G' H', Ex G G' → SO K z H0 G0 ρ' σ' G' H' → E.ct σ' H') ∧ Wh K z H0 G0 W G ED.ex
end
theorem RVs.mono {K : PySem.W.Frag} {z : Zn} {H0 G H G' H' : Hp} (e : Ex G G') : ∀ {vs : List V} {xs : List DV}, RVs K z H0 G H vs xs → RVs K z H0 G' H' vs xs
  | _, _, .nil => .nil
  | _, _, .cons r n h => .cons (r.mono e n) n (RVs.mono e h)
theorem RVs.length {K : PySem.W.Frag} {z : Zn} {H0 G H : Hp} : ∀ {vs : List V} {xs : List DV}, RVs K z H0 G H vs xs → vs.length = xs.length
  | _, _, .nil => rfl
  | _, _, .cons _ _ h => congrArg (· + 1) (RVs.length h)

theorem _root_.L2.PE.imp {X : Cx} {e : Expr} {t t' : TE} (h : PE X e t) (f : ∀ σ H Q, t' σ H Q → t σ H Q) : PE X e t' := ⟨fun pins s σ H Q I q => h.run pins s σ H Q I (f σ H Q q)⟩
theorem _root_.L2.PT.imp {X : Cx} {e : Expr} {t t' : TT} (h : PT X e t) (f : ∀ σ H Q, t' σ H Q → t σ H Q) : PT X e t' := ⟨fun pins s σ H Q I q => h.run pins s σ H Q I (f σ H Q q)⟩
theorem _root_.L2.PW.imp {X : Cx} {e : Expr} {t t' : TT} (h : PW X e t) (f : ∀ σ H Q, t' σ H Q → t σ H Q) : PW X e t' := ⟨fun w pins s σ H Q I q => h.run w pins s σ H Q I (f σ H Q q)⟩
theorem _root_.L2.PA.imp {X : Cx} {es : List Expr} {t t' : TA} (h : PA X es t) (f : ∀ σ H Q, t' σ H Q → t σ H Q) : PA X es t' := ⟨fun pos pins s σ H Q I q => h.run pos pins s σ H Q I (f σ H Q q)⟩
theorem _root_.L2.PS.imp {X : Cx} {st : Stmt} {t t' : TS} (h : PS X st t) (f : ∀ E σ H, t' E σ H → t E σ H) : PS X st t' := ⟨fun pins s σ H E I q => h.run pins s σ H E I (f E σ H q)⟩
theorem _root_.L2.PSs.imp {X : Cx} {st : List Stmt} {t t' : TS} (h : PSs X st t) (f : ∀ E σ H, t' E σ H → t E σ H) : PSs X st t' := ⟨fun pins s σ H E I q => h.run pins s σ H E I (f E σ H q)⟩

section
variable {X : Cx} {W : WX} {e a b c : Expr} {es : List Expr} {pos : Pos}
/-! ### names, constants -/
def nown : DV → Prop
  | .own _ => False
  | .err _ _ _ => False
  | _ => True
theorem nown.ne {x : DV} (h : nown x) : ∀ ys, x ≠ .own ys := fun ys e => by subst e; exact h
def get : Ro → Nat → Option DV
  | [], _ => none
  | x :: _, 0 => x
  | _ :: r, n + 1 => get r n
theorem get_eq : ∀ {ρ : Ro} {i : Nat} {x : DV}, get ρ i = some x → ρ[i]? = some (some x)
  | [], _, _, h => by cases h
  | y :: r, 0, x, h => by
    have e : y = some x := h
    simp [e]
  | y :: r, n + 1, x, h => by
    have q := get_eq (ρ := r) (i := n) (x := x) h
    simpa using q
def put : Ro → Nat → DV → Ro
  | [], _, _ => []
  | _ :: r, 0, x => some x :: r
  | y :: r, n + 1, x => y :: put r n x
theorem put_eq : ∀ (ρ : Ro) (i : Nat) (x : DV), put ρ i x = ρ.set i (some x)
  | [], _, _ => rfl
  | _ :: _, 0, _ => rfl
  | y :: r, n + 1, x => by
    show y :: put r n x = y :: r.set n (some x)
    rw [put_eq r n x]
def dVar (i : Nat) : DE := fun _ ρ Q => match get ρ i with
  | some x => Q x
  | none => False
theorem dVar_of {i : Nat} {Wd : DW} {ρ : Ro} {Q : DV → Prop} (h : dVar i Wd ρ Q) : ∃ x, ρ[i]? = some (some x) ∧ Q x := by
  unfold dVar at h
  cases e : get ρ i with
  | none =>
    rw [e] at h
    exact h.elim
  | some x =>
    rw [e] at h
    exact ⟨_, get_eq e, h⟩
theorem lE_var {i : Nat} {σ : L2.St} {H : Hp} {Q : VK} (h : lE X.K W (dVar i) σ H Q) : tVar i σ H Q := by
  obtain ⟨z, H0, G0, G, ρ, Wd, Qd, so, h, k, _⟩ := h
  obtain ⟨x, e, q⟩ := dVar_of h
  obtain ⟨v, e2, r⟩ := so.slot i x e
  exact ⟨v, e2, k x q v G H (Go.refl z G H) so r⟩
theorem dv (i : Nat) {x : Str} (hN : X.N[i]? = some x := by rfl) (hv : Vis X.env.scope x := by first | exact Or.inl rfl | exact Or.inr (Or.inl rfl) | exact Or.inr (Or.inr rfl)) (hd : (x == ("__debug__" : Str)) = false := by decide)
    (hcd : (x == ("__classdict__" : Str)) = false := by decide) : PE X (.Name x pos) (lE X.K W (dVar i)) := (pe_var hN hv hd hcd).imp fun _ _ _ h => lE_var h
def dC (x : D) : DE := fun _ _ Q => Q (.d x)
theorem lE_c {v : V} {x : D} (r : ∀ G, Rp X.K G v x) {σ : L2.St} {H : Hp} {Q : VK} (h : lE X.K W (dC x) σ H Q) : tC v σ H Q := by
  obtain ⟨z, H0, G0, G, ρ, Wd, Qd, so, h, k, _⟩ := h
  exact k _ h v G H (Go.refl z G H) so (r G)
theorem de_int {i j} : PE X (.Constant (.int i) j pos) (lE X.K W (dC (.int i))) := pe_int.imp fun _ _ _ h => lE_c (fun _ => .int i) h
theorem de_bl {b j} : PE X (.Constant (.bool b) j pos) (lE X.K W (dC (.bool b))) := pe_bl.imp fun _ _ _ h => lE_c (fun _ => .bl b) h
theorem de_non {j} : PE X (.Constant .none j pos) (lE X.K W (dC .none)) := pe_non.imp fun _ _ _ h => lE_c (fun _ => .non) h
theorem de_str {x j} : PE X (.Constant (.str x) j pos) (lE X.K W (dC (.str x))) := pe_str.imp fun _ _ _ h => lE_c (fun _ => .str x) h
/-- a constant of the module -/
theorem de_glob {x : Str} {v : V} {u : Value} {y : D} (hg : Gl X x) (hm : X.mg x = some u) (r : RelV v u) (ry : ∀ G, Rp X.K G v y) (hd : (x == ("__debug__" : Str)) = false := by decide) : PE X (.Name x pos) (lE X.K W (dC y)) :=
  (pe_glob hg hm r hd).imp fun _ _ _ h => lE_c ry h

/-! ### one after the other -/
/-- the end of a reading of one part: what follows, at the new heaps -/
theorem lE_in {t : DE} {u : DV → DE} {σ : L2.St} {H : Hp} {Q : VK} {te : TE} {k : V → Hp → Prop}
    (h : lE X.K W (fun Wd ρ R => t Wd ρ fun x => u x Wd ρ R) σ H Q) (ht : ∀ Q', lE X.K W t σ H Q' → te σ H Q')
    (hk : ∀ x v z H0 G0 G ρ Wd Qd H1, SO X.K z H0 G0 ρ σ G H1 → RV X.K z H0 G H1 v x → u x Wd ρ Qd → (∀ y, Qd y → ∀ w G' H', Go z G H1 G' H' → SO X.K z H0 G0 ρ σ G' H' → RV X.K z H0 G' H' w y → Q w H') → Wh X.K z H0 G0 W G Wd → k v H1) : te σ H k := by
  obtain ⟨z, H0, G0, G, ρ, Wd, Qd, so, h, q, w⟩ := h
  refine ht k ⟨z, H0, G0, G, ρ, Wd, fun x => u x Wd ρ Qd, so, h, fun x hx v G' H' e so' r => ?_, w⟩
  exact hk x v z H0 G0 G' ρ Wd Qd H' so' r hx (fun y hy w' G2 H2 e2 so2 r2 => q y hy w' G2 H2 (e.trans e2) so2 r2) (w.mono e.ex)
/-- an operation on two data -/
def dOp (r : DV → DV → (DV → Prop) → Prop) (ta tb : DE) : DE := fun Wd ρ Q => ta Wd ρ fun x => tb Wd ρ fun y => r x y Q
/-- the operation by values does what the operation on data says -/
def Op2 (K : PySem.W.Frag) (r : DV → DV → (DV → Prop) → Prop) (s : R2) : Prop :=
  ∀ {z : Zn} {H0 G0 G H : Hp} {ρ : Ro} {σ : L2.St} {x y : DV} {v w : V} {Qd : DV → Prop} {Q : VK}, SO K z H0 G0 ρ σ G H → RV K z H0 G H v x → RV K z H0 G H w y → r x y Qd →
    (∀ y, Qd y → ∀ u G' H', Go z G H G' H' → SO K z H0 G0 ρ σ G' H' → RV K z H0 G' H' u y → Q u H') → s v w H Q
theorem lE_op {r : DV → DV → (DV → Prop) → Prop} {s : R2} {ta tb : DE} {σ : L2.St} {H : Hp} {Q : VK} (hs : Op2 X.K r s) (h : lE X.K W (dOp r ta tb) σ H Q) : tOp s (lE X.K W ta) (lE X.K W tb) σ H Q := by
  obtain ⟨z, H0, G0, G, ρ, Wd, Qd, so, h, q, w⟩ := h
  refine ⟨z, H0, G0, G, ρ, Wd, _, so, h, fun x hx v G1 H1 e1 so1 r1 => ?_, w⟩
  refine ⟨z, H0, G0, G1, ρ, Wd, _, so1, hx, fun y hy u G2 H2 e2 so2 r2 => ?_, w.mono e1.ex⟩
  exact hs so2 (r1.go e2) r2 hy fun y hy u G' H' e so' r' => q y hy u G' H' (e1.trans (e2.trans e)) so' r'
def dUn (r : DV → (DV → Prop) → Prop) (ta : DE) : DE := fun Wd ρ Q => ta Wd ρ fun x => r x Q
def Op1 (K : PySem.W.Frag) (r : DV → (DV → Prop) → Prop) (s : V → Hp → VK → Prop) : Prop :=
  ∀ {z : Zn} {H0 G0 G H : Hp} {ρ : Ro} {σ : L2.St} {x : DV} {v : V} {Qd : DV → Prop} {Q : VK}, SO K z H0 G0 ρ σ G H → RV K z H0 G H v x → r x Qd →
    (∀ y, Qd y → ∀ u G' H', Go z G H G' H' → SO K z H0 G0 ρ σ G' H' → RV K z H0 G' H' u y → Q u H') → s v H Q
theorem lE_un {r : DV → (DV → Prop) → Prop} {s : V → Hp → VK → Prop} {ta : DE} {σ : L2.St} {H : Hp} {Q : VK} (hs : Op1 X.K r s) (h : lE X.K W (dUn r ta) σ H Q) : tUn s (lE X.K W ta) σ H Q := by
  obtain ⟨z, H0, G0, G, ρ, Wd, Qd, so, h, q, w⟩ := h
  refine ⟨z, H0, G0, G, ρ, Wd, _, so, h, fun x hx v G1 H1 e1 so1 r1 => ?_, w⟩
  exact hs so1 r1 hx fun y hy u G' H' e so' r' => q y hy u G' H' (e1.trans e) so' r'

/-! ### arguments -/
def dNil : DA := fun _ _ Q => Q []
def dCons (te : DE) (t : DA) : DA := fun Wd ρ Q => te Wd ρ fun x => t Wd ρ fun xs => nown x ∧ Q (x :: xs)
theorem da_nil : PA X [] (lA X.K W dNil) := pa_nil.imp fun σ H Q h => by
  obtain ⟨z, H0, G0, G, ρ, Wd, Qd, so, h, q, w⟩ := h
  exact q _ h [] G H (Go.refl z G H) so .nil
theorem da_cons {te : DE} {t : DA} (ha : PE X e (lE X.K W te)) (hr : PA X es (lA X.K W t)) (hs : starEach (e :: es) X.env = (false, eval e X.env) :: starEach es X.env := by rfl) : PA X (e :: es) (lA X.K W (dCons te t)) := (pa_cons ha hr hs).imp fun σ H Q h => by
  obtain ⟨z, H0, G0, G, ρ, Wd, Qd, so, h, q, w⟩ := h
  refine ⟨z, H0, G0, G, ρ, Wd, _, so, h, fun x hx v G1 H1 e1 so1 r1 => ?_, w⟩
  refine ⟨z, H0, G0, G1, ρ, Wd, _, so1, hx, fun xs hxs vs G2 H2 e2 so2 r2 => ?_, w.mono e1.ex⟩
  exact q _ hxs.2 _ G2 H2 (e1.trans e2) so2 (.cons (r1.mono e2.ex hxs.1.ne) hxs.1.ne r2)

/-! ### tests -/
def bv : DV → (Bool → Prop) → Prop
  | .d (.bool b), Q => Q b
  | _, _ => False
theorem bv_of {K : PySem.W.Frag} {z : Zn} {H0 G H : Hp} {v : V} {x : DV} {Q : Bool → Prop} (h : bv x Q) (r : RV K z H0 G H v x) : ∃ b, x = .d (.bool b) ∧ v = .bl b ∧ Q b := by
  cases x with
  | d y =>
    cases y with
    | bool b =>
      cases r
      exact ⟨b, rfl, rfl, h⟩
    | _ => exact h.elim
  | _ => exact h.elim
/-- a value that is True or False, as a test -/
def dB (t : DE) : DT := fun Wd ρ Q => t Wd ρ fun x => bv x Q
theorem dt_val {t : DE} (h : PE X e (lE X.K W t)) (he : ∀ whole, isTrue e X.env whole = (do let v ← whole; standAt e.pos; holding [v] (truthy v)) := by intro _; rfl) : PT X e (lT X.K W (dB t)) := (pt_val h he).imp fun σ H Q h => by
  obtain ⟨z, H0, G0, G, ρ, Wd, Qd, so, h, q, w⟩ := h
  refine ⟨z, H0, G0, G, ρ, Wd, _, so, h, fun x hx v G1 H1 e1 so1 r1 => ?_, w⟩
  obtain ⟨b, _, rfl, hb⟩ := bv_of hx r1
  exact ⟨b, rfl, q b hb G1 H1 e1 so1⟩
/-- a comparison as a test -/
theorem dt_cmp {op : CmpOp} {r : DV → DV → (DV → Prop) → Prop} {s : R2} {ta tb : DE} (ho : OpR X (compareOp op) s) (hs : Op2 X.K r s) (hn : ∀ x y Q, r x y Q → nown x) (ha : PE X a (lE X.K W ta)) (hb : PE X b (lE X.K W tb)) (hm : behindInMarks op b = false) :
    PT X (.Compare a [op] [b] pos) (lT X.K W (dB (dOp r ta tb))) := (pt_cmpR ho ha hb hm).imp fun σ H Q h => by
  obtain ⟨z, H0, G0, G, ρ, Wd, Qd, so, h, q, w⟩ := h
  refine lE_op (X := X) (W := W) hs ⟨z, H0, G0, G, ρ, Wd, _, so, h, fun x hx v G1 H1 e1 so1 r1 => ?_, w⟩
  obtain ⟨b, _, rfl, hb⟩ := bv_of hx r1
  exact ⟨b, rfl, q b hb G1 H1 e1 so1⟩
theorem de_cmp {op : CmpOp} {r : DV → DV → (DV → Prop) → Prop} {s : R2} {ta tb : DE} (ho : OpR X (compareOp op) s) (hs : Op2 X.K r s) (hn : ∀ x y Q, r x y Q → nown x) (ha : PE X a (lE X.K W ta)) (hb : PE X b (lE X.K W tb)) (hm : behindInMarks op b = false) :
    PE X (.Compare a [op] [b] pos) (lE X.K W (dOp r ta tb)) := (pe_cmpR ho ha hb hm).imp fun σ H Q h => lE_op hs h
theorem de_bin {op : Operator} {r : DV → DV → (DV → Prop) → Prop} {s : R2} {ta tb : DE} (ho : OpR X (binaryOp op) s) (hs : Op2 X.K r s) (hn : ∀ x y Q, r x y Q → nown x) (ha : PE X a (lE X.K W ta)) (hb : PE X b (lE X.K W tb)) :
    PE X (.BinOp a op b pos) (lE X.K W (dOp r ta tb)) := (pe_op ho ha hb).imp fun σ H Q h => lE_op hs h
theorem de_un {op : UnaryOp} {r : DV → (DV → Prop) → Prop} {s : V → Hp → VK → Prop} {ta : DE} (ho : UnR X (unaryOp op) s) (hs : Op1 X.K r s) (ha : PE X a (lE X.K W ta)) : PE X (.UnaryOp op a pos) (lE X.K W (dUn r ta)) := (pe_un ho ha).imp fun σ H Q h => lE_un hs h

def dAnd (t u : DT) : DT := fun Wd ρ Q => t Wd ρ fun c => if c = true then u Wd ρ Q else Q false
def dOr (t u : DT) : DT := fun Wd ρ Q => t Wd ρ fun c => if c = true then Q true else u Wd ρ Q
def dNot (t : DT) : DT := fun Wd ρ Q => t Wd ρ fun c => Q (!c)
variable {rest : List Expr}
theorem dw_and1 {t : DT} (ha : PT X a (lT X.K W t)) : PW X (.BoolOp .And [a] pos) (lT X.K W t) := pw_and1 ha
theorem dw_or1 {t : DT} (ha : PT X a (lT X.K W t)) : PW X (.BoolOp .Or [a] pos) (lT X.K W t) := pw_or1 ha
theorem dw_and {t u : DT} (ha : PT X a (lT X.K W t)) (hb : PW X (.BoolOp .And (b :: rest) pos) (lT X.K W u)) : PW X (.BoolOp .And (a :: b :: rest) pos) (lT X.K W (dAnd t u)) := (pw_and ha hb).imp fun σ H Q h => by
  obtain ⟨z, H0, G0, G, ρ, Wd, Qd, so, h, q, w⟩ := h
  refine ⟨z, H0, G0, G, ρ, Wd, _, so, h, fun c hc G1 H1 e1 so1 => ?_, w⟩
  cases c with
  | true => exact ⟨z, H0, G0, G1, ρ, Wd, Qd, so1, hc, fun y hy G' H' e so' => q y hy G' H' (e1.trans e) so', w.mono e1.ex⟩
  | false => exact q false hc G1 H1 e1 so1
theorem dw_or {t u : DT} (ha : PT X a (lT X.K W t)) (hb : PW X (.BoolOp .Or (b :: rest) pos) (lT X.K W u)) : PW X (.BoolOp .Or (a :: b :: rest) pos) (lT X.K W (dOr t u)) := (pw_or ha hb).imp fun σ H Q h => by
  obtain ⟨z, H0, G0, G, ρ, Wd, Qd, so, h, q, w⟩ := h
  refine ⟨z, H0, G0, G, ρ, Wd, _, so, h, fun c hc G1 H1 e1 so1 => ?_, w⟩
  cases c with
  | true => exact q true hc G1 H1 e1 so1
  | false => exact ⟨z, H0, G0, G1, ρ, Wd, Qd, so1, hc, fun y hy G' H' e so' => q y hy G' H' (e1.trans e) so', w.mono e1.ex⟩
theorem dt_not {t : DT} (ha : PT X a (lT X.K W t)) : PT X (.UnaryOp .Not a pos) (lT X.K W (dNot t)) := (pt_not ha).imp fun σ H Q h => by
  obtain ⟨z, H0, G0, G, ρ, Wd, Qd, so, h, q, w⟩ := h
  exact ⟨z, H0, G0, G, ρ, Wd, _, so, h, fun c hc G1 H1 e1 so1 => q _ hc G1 H1 e1 so1, w⟩
/-- .. as values -/
def dAndV (ta tb : DE) : DE := fun Wd ρ Q => ta Wd ρ fun x => bv x fun c => if c = true then tb Wd ρ Q else Q (.d (.bool false))
def dOrV (ta tb : DE) : DE := fun Wd ρ Q => ta Wd ρ fun x => bv x fun c => if c = true then Q (.d (.bool true)) else tb Wd ρ Q
def dNotV (ta : DE) : DE := fun Wd ρ Q => ta Wd ρ fun x => bv x fun c => Q (.d (.bool (!c)))
theorem de_one {op} {t : DE} (h : PE X a (lE X.K W t)) : PE X (.BoolOp op [a] pos) (lE X.K W t) := pe_one h
theorem de_and {ta tb : DE} (ha : PE X a (lE X.K W ta)) (hb : PE X (.BoolOp .And (b :: rest) pos) (lE X.K W tb)) : PE X (.BoolOp .And (a :: b :: rest) pos) (lE X.K W (dAndV ta tb)) := (pe_and ha hb).imp fun σ H Q h => by
  obtain ⟨z, H0, G0, G, ρ, Wd, Qd, so, h, q, w⟩ := h
  refine ⟨z, H0, G0, G, ρ, Wd, _, so, h, fun x hx v G1 H1 e1 so1 r1 => ?_, w⟩
  obtain ⟨c, _, rfl, hc⟩ := bv_of hx r1
  refine ⟨c, rfl, ?_⟩
  cases c with
  | true => exact ⟨z, H0, G0, G1, ρ, Wd, Qd, so1, hc, fun y hy w' G' H' e so' r' => q y hy w' G' H' (e1.trans e) so' r', w.mono e1.ex⟩
  | false => exact q _ hc _ G1 H1 e1 so1 (.bl false)
theorem de_or {ta tb : DE} (ha : PE X a (lE X.K W ta)) (hb : PE X (.BoolOp .Or (b :: rest) pos) (lE X.K W tb)) : PE X (.BoolOp .Or (a :: b :: rest) pos) (lE X.K W (dOrV ta tb)) := (pe_or ha hb).imp fun σ H Q h => by
  obtain ⟨z, H0, G0, G, ρ, Wd, Qd, so, h, q, w⟩ := h
  refine ⟨z, H0, G0, G, ρ, Wd, _, so, h, fun x hx v G1 H1 e1 so1 r1 => ?_, w⟩
  obtain ⟨c, _, rfl, hc⟩ := bv_of hx r1
  refine ⟨c, rfl, ?_⟩
  cases c with
  | true => exact q _ hc _ G1 H1 e1 so1 (.bl true)
  | false => exact ⟨z, H0, G0, G1, ρ, Wd, Qd, so1, hc, fun y hy w' G' H' e so' r' => q y hy w' G' H' (e1.trans e) so' r', w.mono e1.ex⟩
theorem de_not {ta : DE} (ha : PE X a (lE X.K W ta)) : PE X (.UnaryOp .Not a pos) (lE X.K W (dNotV ta)) := (pe_not ha).imp fun σ H Q h => by
  obtain ⟨z, H0, G0, G, ρ, Wd, Qd, so, h, q, w⟩ := h
  refine ⟨z, H0, G0, G, ρ, Wd, _, so, h, fun x hx v G1 H1 e1 so1 r1 => ?_, w⟩
  obtain ⟨c, _, rfl, hc⟩ := bv_of hx r1
  exact ⟨c, rfl, q _ hc _ G1 H1 e1 so1 (.bl _)⟩
def dIfE (t : DT) (ta tb : DE) : DE := fun Wd ρ Q => t Wd ρ fun c => if c = true then ta Wd ρ Q else tb Wd ρ Q
theorem de_if {t : DT} {ta tb : DE} (hc : PT X c (lT X.K W t)) (ha : PE X a (lE X.K W ta)) (hb : PE X b (lE X.K W tb)) : PE X (.IfExp c a b pos) (lE X.K W (dIfE t ta tb)) := (pe_ifExp hc ha hb).imp fun σ H Q h => by
  obtain ⟨z, H0, G0, G, ρ, Wd, Qd, so, h, q, w⟩ := h
  refine ⟨z, H0, G0, G, ρ, Wd, _, so, h, fun c hc G1 H1 e1 so1 => ?_, w⟩
  cases c with
  | true => exact ⟨z, H0, G0, G1, ρ, Wd, Qd, so1, hc, fun y hy w' G' H' e so' r' => q y hy w' G' H' (e1.trans e) so' r', w.mono e1.ex⟩
  | false => exact ⟨z, H0, G0, G1, ρ, Wd, Qd, so1, hc, fun y hy w' G' H' e so' r' => q y hy w' G' H' (e1.trans e) so' r', w.mono e1.ex⟩
end

/-! ### statements -/
section
variable {X : Cx} {W : WX} {e : Expr} {st : Stmt} {rest : List Stmt} {pos : Pos}
def sNext : DS := fun E ρ => E.nx ρ
def sSeq (t u : DS) : DS := fun E ρ => t { E with nx := u E } ρ
theorem dss_nil : PSs X [] (lS X.K W sNext) := pss_nil.imp fun E σ H h => by
  obtain ⟨z, H0, G0, G, ρ, ED, so, h, q, _⟩ := h
  exact q _ h σ G H (Ex.refl G) so
theorem dss_cons {t u : DS} (h1 : PS X st (lS X.K W t)) (h2 : PSs X rest (lS X.K W u)) : PSs X (st :: rest) (lS X.K W (sSeq t u)) := (pss_cons h1 h2).imp fun E σ H h => by
  obtain ⟨z, H0, G0, G, ρ, ED, so, h, q1, q2, q3, q4, w⟩ := h
  refine ⟨z, H0, G0, G, ρ, { ED with nx := u ED }, so, h, fun ρ' hn σ' G' H' e so' => ?_, q2, q3, q4, w⟩
  exact ⟨z, H0, G0, G', ρ', ED, so', hn, fun ρ2 hn σ2 G2 H2 e2 so2 => q1 ρ2 hn σ2 G2 H2 (e.trans e2) so2, fun x hx v ρ2 σ2 G2 H2 e2 so2 r2 => q2 x hx v ρ2 σ2 G2 H2 (e.trans e2) so2 r2,
    fun ρ2 hn σ2 G2 H2 e2 so2 => q3 ρ2 hn σ2 G2 H2 (e.trans e2) so2, fun ρ2 hn σ2 G2 H2 e2 so2 => q4 ρ2 hn σ2 G2 H2 (e.trans e2) so2, w.mono e⟩
theorem dss_one {t : DS} (h1 : PS X st (lS X.K W t)) : PSs X [st] (lS X.K W t) := pss_one h1
theorem ds_pass : PS X (.Pass pos) (lS X.K W sNext) := ps_pass.imp fun E σ H h => by
  obtain ⟨z, H0, G0, G, ρ, ED, so, h, q, _⟩ := h
  exact q _ h σ G H (Ex.refl G) so
def sBrk : DS := fun E ρ => E.bk ρ
def sCnt : DS := fun E ρ => E.ct ρ
theorem ds_break : PS X (.Break pos) (lS X.K W sBrk) := ps_break.imp fun E σ H h => by
  obtain ⟨z, H0, G0, G, ρ, ED, so, h, _, _, q, _⟩ := h
  exact q _ h σ G H (Ex.refl G) so
theorem ds_cont : PS X (.Continue pos) (lS X.K W sCnt) := ps_continue.imp fun E σ H h => by
  obtain ⟨z, H0, G0, G, ρ, ED, so, h, _, _, _, q, _⟩ := h
  exact q _ h σ G H (Ex.refl G) so
def sRet (te : DE) : DS := fun E ρ => te E.ex ρ fun x => E.rt x
theorem ds_ret {te : DE} (he : PE X e (lE X.K W te)) : PS X (.Return (some e) pos) (lS X.K W (sRet te)) := (ps_ret he).imp fun E σ H h => by
  obtain ⟨z, H0, G0, G, ρ, ED, so, h, _, q, _, _, w⟩ := h
  exact ⟨z, H0, G0, G, ρ, ED.ex, _, so, h, fun x hx v G' H' e so' r => q x hx v ρ σ G' H' e.ex so' r, w⟩
def sRetN : DS := fun E _ => E.rt (.d .none)
theorem ds_retN : PS X (.Return none pos) (lS X.K W sRetN) := ps_retN.imp fun E σ H h => by
  obtain ⟨z, H0, G0, G, ρ, ED, so, h, _, q, _, _, w⟩ := h
  exact q _ h .non ρ σ G H (Ex.refl G) so .non
def sDrop (te : DE) : DS := fun E ρ => te E.ex ρ fun _ => E.nx ρ
theorem ds_expr {te : DE} (he : PE X e (lE X.K W te)) (hs : swapsWith e none pos.line X.env = pure false := by rfl) : PS X (.Expr e pos) (lS X.K W (sDrop te)) := (ps_expr he hs).imp fun E σ H h => by
  obtain ⟨z, H0, G0, G, ρ, ED, so, h, q, _, _, _, w⟩ := h
  exact ⟨z, H0, G0, G, ρ, ED.ex, _, so, h, fun x hx v G' H' e so' r => q ρ hx σ G' H' e.ex so', w⟩
def sIf (c : DT) (t u : DS) : DS := fun E ρ => c E.ex ρ fun b => if b = true then t E ρ else u E ρ
theorem ds_if {c : Expr} {a b : List Stmt} {tc : DT} {t u : DS} (hc : PT X c (lT X.K W tc)) (ha : PSs X a (lS X.K W t)) (hb : PSs X b (lS X.K W u)) : PS X (.If c a b pos) (lS X.K W (sIf tc t u)) := (ps_if hc ha hb).imp fun E σ H h => by
  obtain ⟨z, H0, G0, G, ρ, ED, so, h, q1, q2, q3, q4, w⟩ := h
  refine ⟨z, H0, G0, G, ρ, ED.ex, _, so, h, fun b hb G' H' e so' => ?_, w⟩
  have go : ∀ t' : DS, t' ED ρ → lS X.K W t' E σ H' := fun t' ht => ⟨z, H0, G0, G', ρ, ED, so', ht, fun ρ2 hn σ2 G2 H2 e2 so2 => q1 ρ2 hn σ2 G2 H2 (e.ex.trans e2) so2, fun x hx v ρ2 σ2 G2 H2 e2 so2 r2 => q2 x hx v ρ2 σ2 G2 H2 (e.ex.trans e2) so2 r2,
    fun ρ2 hn σ2 G2 H2 e2 so2 => q3 ρ2 hn σ2 G2 H2 (e.ex.trans e2) so2, fun ρ2 hn σ2 G2 H2 e2 so2 => q4 ρ2 hn σ2 G2 H2 (e.ex.trans e2) so2, w.mono e.ex⟩
  cases b with
  | true => exact go t hb
  | false => exact go u hb
/-- x = e -/
def sSet (i : Nat) (te : DE) : DS := fun E ρ => te E.ex ρ fun x => nown x ∧ E.nx (put ρ i x)
theorem ds_set {te : DE} {i : Nat} {x : Str} {pos' : Pos} (hN : X.N.Nodup) (hi : X.N[i]? = some x) (hx : Loc X.env.scope x) (he : PE X e (lE X.K W te)) (hs : swapsWith e (some (.Name x pos')) pos.line X.env = pure false := by rfl) (hf : X.fn x = true ∨ X.env.scope.names.lookup x = some .local := by first | exact .inl rfl | exact .inr rfl | assumption) :
    PS X (.Assign [.Name x pos'] e pos) (lS X.K W (sSet i te)) := (ps_set hN hi hx he hs hf).imp fun E σ H h => by
  obtain ⟨z, H0, G0, G, ρ, ED, so, h, q, _, _, _, w⟩ := h
  refine ⟨z, H0, G0, G, ρ, ED.ex, _, so, h, fun x hx v G' H' e so' r => ?_, w⟩
  exact q _ hx.2 _ G' H' e.ex (by rw [put_eq]; exact so'.set r hx.1.ne)
end
end DL

set_option Elab.async false
set_option linter.all false
set_option maxRecDepth 100000
set_option maxHeartbeats 2000000
namespace DL
open PySem PySem.Spec PyProof.Rows L2

section
variable {K : PySem.W.Frag} {z : Zn} {H0 G0 G H : Hp} {ρ : Ro} {σ : L2.St}
/-- a new list, a new tuple of data -/
theorem new_lst {Q : VK} {Qd : DV → Prop} {vs : List V} {ds : List D} (so : SO K z H0 G0 ρ σ G H) (r : Rps K G vs ds) (hq : Qd (.d (.list ds)))
    (q : ∀ y, Qd y → ∀ u G' H', Go z G H G' H' → SO K z H0 G0 ρ σ G' H' → RV K z H0 G' H' u y → Q u H') {p : Addr} (hp : H p = none) : Q (.ref p) (upd H p (.lst vs)) :=
  q _ hq _ _ _ (Go.new (so.ok.sub.free hp) hp) (so.new hp) (Rp.lst (.inl upd_same) (Rps.mono (Ex.new (so.ok.sub.free hp)) r))
theorem new_tup {Q : VK} {Qd : DV → Prop} {vs : List V} {ds : List D} (so : SO K z H0 G0 ρ σ G H) (r : Rps K G vs ds) (hq : Qd (.d (.tuple ds)))
    (q : ∀ y, Qd y → ∀ u G' H', Go z G H G' H' → SO K z H0 G0 ρ σ G' H' → RV K z H0 G' H' u y → Q u H') {p : Addr} (hp : H p = none) : Q (.ref p) (upd H p (.tup vs)) :=
  q _ hq _ _ _ (Go.new (so.ok.sub.free hp) hp) (so.new hp) (Rp.tup (.inl (.inl upd_same)) (Rps.mono (Ex.new (so.ok.sub.free hp)) r))
theorem same_d {Q : VK} {Qd : DV → Prop} {v : V} {d : D} (so : SO K z H0 G0 ρ σ G H) (r : Rp K G v d) (hq : Qd (.d d))
    (q : ∀ y, Qd y → ∀ u G' H', Go z G H G' H' → SO K z H0 G0 ρ σ G' H' → RV K z H0 G' H' u y → Q u H') : Q v H :=
  q _ hq v G H (Go.refl z G H) so r
theorem rp_list {v : V} {ds : List D} (r : Rp K G v (.list ds)) : ∃ a xs, v = .ref a ∧ Rd G a (.lst xs) ∧ Rps K G xs ds := by
  cases r with
  | lst h1 h2 => exact ⟨_, _, rfl, h1, h2⟩
theorem rp_tuple {v : V} {ds : List D} (r : Rp K G v (.tuple ds)) : ∃ a xs, v = .ref a ∧ SqT K G a xs ∧ Rps K G xs ds := by
  cases r with
  | tup h1 h2 => exact ⟨_, _, rfl, h1, h2⟩
theorem rp_dict {v : V} {ds : List (D × D)} (r : Rp K G v (.dict ds)) : ∃ a kvs, v = .ref a ∧ Rd G a (.dK kvs) ∧ RpKv K G kvs ds := by
  cases r with
  | dic h1 h2 => exact ⟨_, _, rfl, h1, h2⟩
theorem rp_int {v : V} {i : Int} (r : Rp K G v (.int i)) : v = .int i := by cases r; rfl
theorem rp_str {v : V} {x : Str} (r : Rp K G v (.str x)) : v = .str x := by cases r; rfl
theorem rp_bool {v : V} {b : Bool} (r : Rp K G v (.bool b)) : v = .bl b := by cases r; rfl
theorem rp_none {v : V} (r : Rp K G v .none) : v = .non := by cases r; rfl
end

/-! ### arithmetic, + -/
section
variable {X : Cx}
/-- list + list, both read -/
def rCatL : R2 := fun x y H Q => ∃ l b xs zs, x = .ref l ∧ y = .ref b ∧ Rd H l (.lst xs) ∧ Rd H b (.lst zs) ∧ xs.length + zs.length ≤ sizeLine ∧ ∀ p, H p = none → Q (.ref p) (upd H p (.lst (xs ++ zs)))
theorem op_catL : OpR X (binaryOp .Add) rCatL := by
  intro pins s σ H x y v u Q I rx ry h
  obtain ⟨l, b, xs, zs, rfl, rfl, hH, hB, hz, q⟩ := h
  cases rx
  cases ry
  obtain ⟨z, its, n, r, e⟩ := hH.ok I.hok
  obtain ⟨z2, its2, n2, r2, e2⟩ := hB.ok I.hok
  have hl := r.length
  have hl2 := r2.length
  refine PySem.P.add_list e e2 ?_ (by rw [List.size_toArray, List.size_toArray]; omega)
  have ea : its.toArray ++ its2.toArray = (its ++ its2).toArray := by simp
  rw [ea]
  exact ⟨.ref _, _, I.lnew (t' := s.toks) (r.append r2) (by rw [List.length_append]; omega), rfl, q _ I.fresh⟩
end
def oAdd : DV → DV → (DV → Prop) → Prop
  | .d (.int i), .d (.int j), Q => Q (.d (.int (i + j)))
  | .d (.str a), .d (.str b), Q => a.length + b.length ≤ sizeLine ∧ Q (.d (.str (a ++ b)))
  | .d (.list a), .d (.list b), Q => a.length + b.length ≤ sizeLine ∧ Q (.d (.list (a ++ b)))
  | .d (.tuple a), .d (.tuple b), Q => a.length + b.length ≤ sizeLine ∧ Q (.d (.tuple (a ++ b)))
  | _, _, _ => False
theorem nown_d {d : D} : nown (.d d) := trivial
/-- what a rule of two data asks of its left one -/
theorem oAdd_n : ∀ x y Q, oAdd x y Q → nown x := fun x y Q h => by
  unfold oAdd at h
  split at h <;> first | exact nown_d | exact h.elim
def sAdd (K : PySem.W.Frag) : R2 := fun x y H Q => rI0 (fun i j => .int (i + j)) x y H Q ∨ (∃ i j, x = .str i ∧ y = .str j ∧ i.length + j.length ≤ sizeLine ∧ Q (.str (i ++ j)) H) ∨ rCatL x y H Q ∨ rCatA K x y H Q
theorem opAdd {X : Cx} : OpR X (binaryOp .Add) (sAdd X.K) := op_add.or (op_add_str.or (op_catL.or op_catA))
theorem op2Add {K : PySem.W.Frag} : Op2 K oAdd (sAdd K) := by
  intro z H0 G0 G H ρ σ x y v w Qd Q so rx ry h q
  unfold oAdd at h
  split at h
  · obtain rfl := rp_int rx
    obtain rfl := rp_int ry
    exact .inl ⟨_, _, rfl, rfl, same_d so (.int _) h q⟩
  · obtain rfl := rp_str rx
    obtain rfl := rp_str ry
    exact .inr (.inl ⟨_, _, rfl, rfl, h.1, same_d so (.str _) h.2 q⟩)
  · obtain ⟨a, xs, rfl, h1, r1⟩ := rp_list rx
    obtain ⟨b, ys, rfl, h2, r2⟩ := rp_list ry
    refine .inr (.inr (.inl ⟨a, b, xs, ys, rfl, rfl, so.ok.sub.rd h1, so.ok.sub.rd h2, by rw [r1.length, r2.length]; exact h.1, fun p hp => new_lst so (r1.append r2) h.2 q hp⟩))
  · obtain ⟨a, xs, rfl, h1, r1⟩ := rp_tuple rx
    obtain ⟨b, ys, rfl, h2, r2⟩ := rp_tuple ry
    refine .inr (.inr (.inr ⟨a, b, xs, ys, rfl, rfl, so.ok.sub.sqT h1, so.ok.sub.sqT h2, by rw [r1.length, r2.length]; exact h.1, fun e => ?_, fun e1 e2 => ?_, fun e1 e2 p hp => new_tup so (r1.append r2) h.2 q hp⟩))
    · subst e
      cases r1
      exact same_d so ry h.2 q
    · subst e2
      cases r2
      have h2 := h.2
      rw [List.append_nil] at h2
      exact same_d so rx h2 q
  · exact h.elim
section
variable {X : Cx} {W : WX} {a b : Expr} {ta tb : DE} {pos : Pos}
theorem de_add (ha : PE X a (lE X.K W ta)) (hb : PE X b (lE X.K W tb)) : PE X (.BinOp a .Add b pos) (lE X.K W (dOp oAdd ta tb)) := de_bin opAdd op2Add oAdd_n ha hb
end
/-- two ints under C -/
def oI (C : Int → Int → Prop) (g : Int → Int → Int) : DV → DV → (DV → Prop) → Prop
  | .d (.int i), .d (.int j), Q => C i j ∧ Q (.d (.int (g i j)))
  | _, _, _ => False
def oI0 (g : Int → Int → Int) : DV → DV → (DV → Prop) → Prop
  | .d (.int i), .d (.int j), Q => Q (.d (.int (g i j)))
  | _, _, _ => False
def oIB (g : Int → Int → Bool) : DV → DV → (DV → Prop) → Prop
  | .d (.int i), .d (.int j), Q => Q (.d (.bool (g i j)))
  | _, _, _ => False
theorem oI_n {C : Int → Int → Prop} {g : Int → Int → Int} : ∀ x y Q, oI C g x y Q → nown x := fun x y Q h => by
  unfold oI at h
  split at h <;> first | exact nown_d | exact h.elim
theorem oI0_n {g : Int → Int → Int} : ∀ x y Q, oI0 g x y Q → nown x := fun x y Q h => by
  unfold oI0 at h
  split at h <;> first | exact nown_d | exact h.elim
theorem op2I {K : PySem.W.Frag} {C : Int → Int → Prop} {g : Int → Int → Int} : Op2 K (oI C g) (rI C fun i j => .int (g i j)) := by
  intro z H0 G0 G H ρ σ x y v w Qd Q so rx ry h q
  unfold oI at h
  split at h
  · obtain rfl := rp_int rx
    obtain rfl := rp_int ry
    exact ⟨_, _, rfl, rfl, h.1, same_d so (.int _) h.2 q⟩
  · exact h.elim
theorem op2I0 {K : PySem.W.Frag} {g : Int → Int → Int} : Op2 K (oI0 g) (rI0 fun i j => .int (g i j)) := by
  intro z H0 G0 G H ρ σ x y v w Qd Q so rx ry h q
  unfold oI0 at h
  split at h
  · obtain rfl := rp_int rx
    obtain rfl := rp_int ry
    exact ⟨_, _, rfl, rfl, same_d so (.int _) h q⟩
  · exact h.elim
abbrev oSub := oI0 fun i j => i - j
abbrev oMod := oI (fun _ j => 0 < j) fun i j => i % j
abbrev oFdiv := oI CDiv fun i j => i / j
abbrev oPow := oI CPow fun i j => i ^ j.toNat
section
variable {X : Cx} {W : WX} {a b : Expr} {ta tb : DE} {pos : Pos}
theorem de_sub (ha : PE X a (lE X.K W ta)) (hb : PE X b (lE X.K W tb)) : PE X (.BinOp a .Sub b pos) (lE X.K W (dOp oSub ta tb)) := de_bin op_sub op2I0 oI0_n ha hb
theorem de_mod (ha : PE X a (lE X.K W ta)) (hb : PE X b (lE X.K W tb)) : PE X (.BinOp a .Mod b pos) (lE X.K W (dOp oMod ta tb)) := de_bin op_mod op2I oI_n ha hb
theorem de_fdiv (ha : PE X a (lE X.K W ta)) (hb : PE X b (lE X.K W tb)) : PE X (.BinOp a .FloorDiv b pos) (lE X.K W (dOp oFdiv ta tb)) := de_bin op_fdiv op2I oI_n ha hb
theorem de_pow (ha : PE X a (lE X.K W ta)) (hb : PE X b (lE X.K W tb)) : PE X (.BinOp a .Pow b pos) (lE X.K W (dOp oPow ta tb)) := de_bin op_pow op2I oI_n ha hb
def oNeg : DV → (DV → Prop) → Prop
  | .d (.int i), Q => Q (.d (.int (-i)))
  | _, _ => False
theorem op1Neg {K : PySem.W.Frag} : Op1 K oNeg (rU fun i => .int (-i)) := by
  intro z H0 G0 G H ρ σ x v Qd Q so rx h q
  unfold oNeg at h
  split at h
  · obtain rfl := rp_int rx
    exact ⟨_, rfl, same_d so (.int _) h q⟩
  · exact h.elim
theorem de_neg (ha : PE X a (lE X.K W ta)) : PE X (.UnaryOp .USub a pos) (lE X.K W (dUn oNeg ta)) := de_un un_neg op1Neg ha
end

/-! ### * -/
def repS (x : Str) (n : Nat) : Str := ⟨(List.replicate n x.cps).foldl (· ++ ·) #[]⟩
def oMul : DV → DV → (DV → Prop) → Prop
  | .d (.int i), .d (.int j), Q => CMul i j ∧ Q (.d (.int (i * j)))
  | .d (.str a), .d (.int j), Q => (0 ≤ j ∧ j ≤ 1000 ∧ a.length ≤ 1000) ∧ Q (.d (.str (repS a j.toNat)))
  | .d (.list a), .d (.int j), Q => (0 ≤ j ∧ j ≤ 1000 ∧ a.length ≤ 1000) ∧ Q (.d (.list (List.replicate j.toNat a).flatten))
  | _, _, _ => False
theorem oMul_n : ∀ x y Q, oMul x y Q → nown x := fun x y Q h => by
  unfold oMul at h
  split at h <;> first | exact nown_d | exact h.elim
def rRepL : R2 := fun x y H Q => ∃ l k xs, x = .ref l ∧ y = .int k ∧ Rd H l (.lst xs) ∧ -(2 ^ 63) ≤ k ∧ k < 2 ^ 63 ∧ xs.length * k.toNat ≤ sizeLine ∧
  ∀ p, H p = none → Q (.ref p) (upd H p (.lst (List.replicate k.toNat xs).flatten))
theorem op_repL {X : Cx} : OpR X (binaryOp .Mult) rRepL := by
  intro pins s σ H x y v u Q I rx ry h
  obtain ⟨l, k, xs, rfl, rfl, hH, h1, h2, hz, q⟩ := h
  cases rx
  obtain ⟨t, rfl⟩ := ry
  obtain ⟨z, its, n, r, e⟩ := hH.ok I.hok
  have hl := r.length
  have hlen : its.toArray.size * k.toNat ≤ sizeLine := by rw [List.size_toArray, ← hl]; exact hz
  have hcap : ¬ its.toArray.size * k.toNat > (2 ^ 63 - 1) / 8 := by
    have : (sizeLine : Nat) ≤ (2 ^ 63 - 1) / 8 := by decide
    omega
  have hfit : ¬ (!Builtin.List.listFitsIndex k) = true := by
    rw [fitsIndex_both h1 h2]
    exact Bool.false_ne_true
  have hlong : ¬ Builtin.List.listTooLong (its.toArray.size * k.toNat) = true := by
    rw [notLongL hlen]
    exact Bool.false_ne_true
  have hnew : List.foldl (fun x1 x2 => x1 ++ x2) #[] (List.replicate (if its.toArray.isEmpty = true then 0 else k.toNat) its.toArray) = (List.replicate k.toNat its).flatten.toArray := by
    have f0 : ∀ m : Nat, List.foldl (fun x1 x2 => x1 ++ x2) #[] (List.replicate m its.toArray) = (List.replicate m its).flatten.toArray := fun m => by
      have := foldl_rep its m []
      rw [List.nil_append] at this
      exact this
    rw [f0]
    cases its with
    | nil => simp
    | cons a r' => rw [if_neg (by simp)]
  refine wpAny_binaryOp_repeat_ref (T := "list") (U := "int") (by decide) ⟨_, e, rfl⟩ (fun s' => typeIs_int s' k t) noFill_list_mul F.fills_int_mul F.slot_int_rmul repeat_list F.slot_int_index.lookup
    (call_meets F.slot_int_rmul (typeIs_int s k t) F.entry_int_rmul (F.args_int_rmul_2 _ _) (int___rmul___int_list k t l its.toArray n)
      ⟨e, rfl, ⟨_, e, rfl⟩, call_meets F.slot_list_mul ⟨_, e, rfl⟩ F.entry_list_mul (F.args_list_mul_2 _ _) (AutoListH.list___mul___list_int_3 l its.toArray n k t hfit hcap hlong) ⟨e, ?_⟩⟩)
  rw [hnew]
  exact ⟨.ref _, _, I.lnew (t' := s.toks) (r.rep k.toNat) (by rw [PyProof.Rows.lm_len_rep_flat, Nat.mul_comm]; exact hz), rfl, q _ I.fresh⟩
theorem foldl_app_size : ∀ (l : List (Array Nat)) (acc : Array Nat), (l.foldl (· ++ ·) acc).size = acc.size + (l.map (·.size)).sum
  | [], acc => by simp
  | a :: l, acc => by
    rw [List.foldl_cons, foldl_app_size l, Array.size_append, List.map_cons, List.sum_cons]
    omega
theorem repS_length (x : Str) (n : Nat) : (repS x n).length = n * x.length := by
  show ((List.replicate n x.cps).foldl (· ++ ·) #[]).size = _
  rw [foldl_app_size]
  simp [Str.length]
def rRepS : R2 := fun x y H Q => ∃ (a : Str) (k : Int), x = .str a ∧ y = .int k ∧ 0 ≤ k ∧ k ≤ 1000 ∧ a.length ≤ 1000 ∧ Q (.str (repS a k.toNat)) H
theorem op_repS {X : Cx} : OpR X (binaryOp .Mult) rRepS := by
  intro pins s σ H x y v u Q I rx ry h
  obtain ⟨a, k, rfl, rfl, h1, h2, h3, q⟩ := h
  obtain ⟨t, rfl⟩ := rx
  obtain ⟨t', rfl⟩ := ry
  have hs : sizeLine = 16777216 := sizeLine_eq
  have hm : a.length * k.toNat ≤ 1000 * 1000 := Nat.mul_le_mul h3 (by omega)
  refine PySem.P.mul_str ?_ (fun _ _ => ?_) (fun _ _ => ?_) ?_
  · have e1 : decide (k < -(2 ^ 63 : Int)) = false := decide_eq_false (by omega)
    have e2 : decide (k ≥ 2 ^ 63) = false := decide_eq_false (by omega)
    rw [e1, e2]
    rfl
  · intro hgt
    have hk : 0 < k := by omega
    have h4 : (2 ^ 63 - 1 : Int) / 1000 ≤ (2 ^ 63 - 1) / k := by
      apply Int.le_ediv_of_mul_le hk
      have h5 : (2 ^ 63 - 1 : Int) / 1000 * k ≤ (2 ^ 63 - 1 : Int) / 1000 * 1000 := Int.mul_le_mul_of_nonneg_left h2 (by decide)
      have h6 : (2 ^ 63 - 1 : Int) / 1000 * 1000 ≤ 2 ^ 63 - 1 := by decide
      omega
    have h7 : (1000 : Int) ≤ (2 ^ 63 - 1 : Int) / 1000 := by decide
    omega
  · unfold PySem.Builtin.Str.tooLong
    exact decide_eq_false (by omega)
  · by_cases c1 : k < 1
    · rw [if_pos c1]
      have ek : k.toNat = 0 := by omega
      rw [ek] at q
      exact ⟨by decide, ⟨.str _, H, I.tok _, ⟨_, rfl⟩, q⟩⟩
    · rw [if_neg c1]
      by_cases c2 : (k == 1 || a.length == 0) = true
      · rw [if_pos c2]
        have ea : repS a k.toNat = a := by
          rw [Bool.or_eq_true] at c2
          rcases c2 with c2 | c2
          · have ek : k.toNat = 1 := by
              have := eq_of_beq c2
              omega
            rw [ek]
            unfold repS
            simp
          · have e0 : a.cps.size = 0 := eq_of_beq c2
            have e1 : a.cps = #[] := Array.eq_empty_of_size_eq_zero e0
            have e2 : ∀ n, (List.replicate n (#[] : Array Nat)).foldl (· ++ ·) #[] = #[] := fun n => by
              induction n with
              | zero => rfl
              | succ n ih => rw [List.replicate_succ, List.foldl_cons]; simpa using ih
            obtain ⟨c⟩ := a
            simp only at e1
            subst e1
            unfold repS
            simp only
            rw [e2]
        rw [ea] at q
        exact ⟨.str a, H, I, ⟨t, rfl⟩, q⟩
      · rw [if_neg c2]
        refine ⟨?_, ⟨.str _, H, I.tok _, ⟨_, rfl⟩, q⟩⟩
        have := repS_length a k.toNat
        show (repS a k.toNat).length ≤ sizeLine
        rw [this, Nat.mul_comm]
        omega
def sMul : R2 := fun x y H Q => rI CMul (fun i j => .int (i * j)) x y H Q ∨ rRepS x y H Q ∨ rRepL x y H Q
theorem opMul {X : Cx} : OpR X (binaryOp .Mult) sMul := op_mul.or (op_repS.or op_repL)
theorem op2Mul {K : PySem.W.Frag} : Op2 K oMul sMul := by
  intro z H0 G0 G H ρ σ x y v w Qd Q so rx ry h q
  unfold oMul at h
  have hs : sizeLine = 16777216 := sizeLine_eq
  split at h
  · obtain rfl := rp_int rx
    obtain rfl := rp_int ry
    exact .inl ⟨_, _, rfl, rfl, h.1, same_d so (.int _) h.2 q⟩
  · obtain rfl := rp_str rx
    obtain rfl := rp_int ry
    exact .inr (.inl ⟨_, _, rfl, rfl, h.1.1, h.1.2.1, h.1.2.2, same_d so (.str _) h.2 q⟩)
  · obtain ⟨a, xs, rfl, h1, r1⟩ := rp_list rx
    obtain rfl := rp_int ry
    rename_i ds j
    obtain ⟨⟨g1, g2, g3⟩, h⟩ := h
    have hl := r1.length
    have hm : xs.length * j.toNat ≤ 1000 * 1000 := Nat.mul_le_mul (by omega) (by omega)
    exact .inr (.inr ⟨a, j, xs, rfl, rfl, so.ok.sub.rd h1, by omega, by omega, by omega, fun p hp => new_lst so (r1.flat _) h q hp⟩)
  · exact h.elim
section
variable {X : Cx} {W : WX} {a b : Expr} {ta tb : DE} {pos : Pos}
theorem de_mul (ha : PE X a (lE X.K W ta)) (hb : PE X b (lE X.K W tb)) : PE X (.BinOp a .Mult b pos) (lE X.K W (dOp oMul ta tb)) := de_bin opMul op2Mul oMul_n ha hb
end
end DL

set_option Elab.async false
set_option linter.all false
set_option maxRecDepth 100000
set_option maxHeartbeats 2000000
namespace DL
open PySem PySem.Spec PyProof.Rows L2

/-! ### flat data -/
def flatD : D → Bool
  | .none => true
  | .bool _ => true
  | .int _ => true
  | .str _ => true
  | _ => false
def vF : D → V
  | .bool b => .bl b
  | .int i => .int i
  | .str x => .str x
  | _ => .non
def eqF : D → D → Bool
  | .none, .none => true
  | .bool a, .bool b => a == b
  | .bool a, .int b => (if a then 1 else 0) == b
  | .int a, .bool b => a == (if b then 1 else 0)
  | .int a, .int b => a == b
  | .str a, .str b => a == b
  | _, _ => false
theorem rp_flat {K : PySem.W.Frag} {G : Hp} {v : V} {d : D} (r : Rp K G v d) (f : flatD d = true) : v = vF d := by
  cases d with
  | none => exact rp_none r
  | bool b => exact rp_bool r
  | int i => exact rp_int r
  | str x => exact rp_str r
  | _ => cases f
theorem flat_v {d : D} (f : flatD d = true) : flatV (vF d) = true := by cases d <;> first | rfl | cases f
theorem eq_vF {a b : D} (fa : flatD a = true) (fb : flatD b = true) : eqV (vF a) (vF b) = eqF a b := by
  cases a <;> cases b <;> first | rfl | exact absurd fa Bool.false_ne_true | exact absurd fb Bool.false_ne_true
theorem flat_all {K : PySem.W.Frag} {G : Hp} : ∀ {vs : List V} {ds : List D}, Rps K G vs ds → ds.all flatD = true → vs = ds.map vF
  | _, _, .nil, _ => rfl
  | _, _, .cons r h, f => by
    rw [List.all_cons, Bool.and_eq_true] at f
    rw [List.map_cons, rp_flat r f.1, flat_all h f.2]
def inD (x : D) (xs : List D) : Bool := xs.any fun y => eqF y x
theorem inV_map {x : D} (fx : flatD x = true) : ∀ {xs : List D}, xs.all flatD = true → inV (vF x) (xs.map vF) = inD x xs
  | [], _ => rfl
  | y :: ys, f => by
    rw [List.all_cons, Bool.and_eq_true] at f
    have h := inV_map fx f.2
    unfold inV inD at *
    rw [List.map_cons, List.any_cons, List.any_cons, eq_vF f.1 fx, h]
theorem flat_map_all : ∀ {xs : List D}, xs.all flatD = true → (xs.map vF).all flatV = true
  | [], _ => rfl
  | y :: ys, f => by
    rw [List.all_cons, Bool.and_eq_true] at f
    rw [List.map_cons, List.all_cons, flat_v f.1, flat_map_all f.2] <;> rfl

/-! ### == and != -/
def scalD : D → D → Bool
  | .none, .none => true
  | .none, .int _ => true
  | .int _, .none => true
  | .none, .bool _ => true
  | .bool _, .none => true
  | .none, .str _ => true
  | .str _, .none => true
  | .int _, .int _ => true
  | .bool _, .bool _ => true
  | .str _, .str _ => true
  | .int _, .str _ => true
  | .str _, .int _ => true
  | .bool _, .str _ => true
  | .str _, .bool _ => true
  | _, _ => false
theorem scal_flat {a b : D} (h : scalD a b = true) : flatD a = true ∧ flatD b = true := by
  cases a <;> cases b <;> first | exact ⟨rfl, rfl⟩ | cases h
theorem scal_v {a b : D} (h : scalD a b = true) : scal (vF a) (vF b) = true := by
  cases a <;> cases b <;> first | rfl | cases h
theorem scal_eq {a b : D} (h : scalD a b = true) : decide (vF a = vF b) = eqF a b := by
  cases a <;> cases b <;> first
    | exact absurd h Bool.false_ne_true
    | exact dec_bl
    | exact dec_int
    | exact dec_str
    | rfl
mutual
theorem rp_dp {K : PySem.W.Frag} {H : Hp} : ∀ (d : D) {v : V}, Rp K H v d → d.canLay0 = true → Dp K H v d
  | .none, _, r, _ => by cases r; exact .non
  | .bool b, _, r, _ => by cases r; exact .bl b
  | .int i, _, r, _ => by cases r; exact .int i
  | .str x, _, r, _ => by cases r; exact .str x
  | .list ds, _, r, h => by
    cases r with
    | lst h1 h2 => exact .lst (.inl h1) (rps_dp ds h2 (by simpa only [PyData.canLay0] using h))
  | .tuple ds, _, r, h => by
    cases r with
    | tup h1 h2 => exact .tup h1 (rps_dp ds h2 (by simpa only [PyData.canLay0] using h))
  | .dict ds, _, r, h => by
    simp only [PyData.canLay0] at h
    cases h
theorem rps_dp {K : PySem.W.Frag} {H : Hp} : ∀ (ds : List D) {vs : List V}, Rps K H vs ds → PyData.canLayAll0 ds = true → DpAll K H vs ds
  | [], _, r, _ => by cases r; exact .nil
  | d :: ds, _, r, h => by
    simp only [PyData.canLayAll0, Bool.and_eq_true] at h
    cases r with
    | cons r1 r2 => exact .cons (rp_dp d r1 h.1) (rps_dp ds r2 h.2)
end
/-- turned about, or not -/
def ng : Bool → Bool → Bool
  | true, b => !b
  | false, b => b
theorem bne_true (b : Bool) : ng true b = !b := rfl
theorem bne_false (b : Bool) : ng false b = b := rfl
def oEq (neg : Bool) : DV → DV → (DV → Prop) → Prop
  | .d a, .d b, Q => match scalD a b with
    | true => Q (.d (.bool (ng neg (eqF a b))))
    | false => (SeqAt.shaped a = true ∧ SeqAt.shaped b = true) ∧ Q (.d (.bool (ng neg (PyData.eqv a b))))
  | _, _, _ => False
theorem oEq_n {neg : Bool} : ∀ x y Q, oEq neg x y Q → nown x := fun x y Q h => by
  unfold oEq at h
  split at h <;> first | exact nown_d | exact h.elim
def sEq (K : PySem.W.Frag) : R2 := fun x y H Q => rEq x y H Q ∨ rEqD K x y H Q
def sNe (K : PySem.W.Frag) : R2 := fun x y H Q => rNe x y H Q ∨ rNeD K x y H Q
theorem opEq {X : Cx} (hu : X.A.units + 64 < cLine) : OpR X (compareOp .Eq) (sEq X.K) := op_eq.or (op_eqD hu)
theorem opNe {X : Cx} (hu : X.A.units + 64 < cLine) : OpR X (compareOp .NotEq) (sNe X.K) := op_ne.or (op_neD hu)
theorem op2Eq {K : PySem.W.Frag} : Op2 K (oEq false) (sEq K) := by
  intro z H0 G0 G H ρ σ x y v w Qd Q so rx ry h q
  unfold oEq at h
  split at h
  · rename_i a b
    cases c : scalD a b with
    | true =>
      simp only [c, bne_false] at h
      obtain ⟨f1, f2⟩ := scal_flat c
      obtain rfl := rp_flat rx f1
      obtain rfl := rp_flat ry f2
      exact .inl ⟨scal_v c, by rw [scal_eq c]; exact same_d so (.bl _) h q⟩
    | false =>
      simp only [c, bne_false] at h
      obtain ⟨⟨h1, h2⟩, h⟩ := h
      have rx' := Rp.mono so.ok.sub rx
      have ry' := Rp.mono so.ok.sub ry
      exact .inr ⟨a, b, rp_dp a rx' (SeqAt.canLay_of_shaped h1), rp_dp b ry' (SeqAt.canLay_of_shaped h2), h1, h2, same_d so (.bl _) h q⟩
  · exact h.elim
theorem op2Ne {K : PySem.W.Frag} : Op2 K (oEq true) (sNe K) := by
  intro z H0 G0 G H ρ σ x y v w Qd Q so rx ry h q
  unfold oEq at h
  split at h
  · rename_i a b
    cases c : scalD a b with
    | true =>
      simp only [c, bne_true] at h
      obtain ⟨f1, f2⟩ := scal_flat c
      obtain rfl := rp_flat rx f1
      obtain rfl := rp_flat ry f2
      exact .inl ⟨scal_v c, by rw [scal_eq c]; exact same_d so (.bl _) h q⟩
    | false =>
      simp only [c, bne_true] at h
      obtain ⟨⟨h1, h2⟩, h⟩ := h
      have rx' := Rp.mono so.ok.sub rx
      have ry' := Rp.mono so.ok.sub ry
      exact .inr ⟨a, b, rp_dp a rx' (SeqAt.canLay_of_shaped h1), rp_dp b ry' (SeqAt.canLay_of_shaped h2), h1, h2, same_d so (.bl _) h q⟩
  · exact h.elim
/-! ### order: ints, texts -/
def ltS (a b : Str) : Bool := decide (a.cps.toList < b.cps.toList)
def oLt : DV → DV → (DV → Prop) → Prop
  | .d (.int i), .d (.int j), Q => Q (.d (.bool (decide (i < j))))
  | .d (.str a), .d (.str b), Q => Q (.d (.bool (ltS a b)))
  | _, _, _ => False
def oLe : DV → DV → (DV → Prop) → Prop
  | .d (.int i), .d (.int j), Q => Q (.d (.bool (decide (i ≤ j))))
  | .d (.str a), .d (.str b), Q => Q (.d (.bool (!ltS b a)))
  | _, _, _ => False
def oGt : DV → DV → (DV → Prop) → Prop
  | .d (.int i), .d (.int j), Q => Q (.d (.bool (decide (j < i))))
  | .d (.str a), .d (.str b), Q => Q (.d (.bool (ltS b a)))
  | _, _, _ => False
def oGe : DV → DV → (DV → Prop) → Prop
  | .d (.int i), .d (.int j), Q => Q (.d (.bool (decide (j ≤ i))))
  | .d (.str a), .d (.str b), Q => Q (.d (.bool (!ltS a b)))
  | _, _, _ => False
theorem oLt_n : ∀ x y Q, oLt x y Q → nown x := fun x y Q h => by
  unfold oLt at h
  split at h <;> first | exact nown_d | exact h.elim
theorem oLe_n : ∀ x y Q, oLe x y Q → nown x := fun x y Q h => by
  unfold oLe at h
  split at h <;> first | exact nown_d | exact h.elim
theorem oGt_n : ∀ x y Q, oGt x y Q → nown x := fun x y Q h => by
  unfold oGt at h
  split at h <;> first | exact nown_d | exact h.elim
theorem oGe_n : ∀ x y Q, oGe x y Q → nown x := fun x y Q h => by
  unfold oGe at h
  split at h <;> first | exact nown_d | exact h.elim
def sLt : R2 := fun x y H Q => rI0 (fun i j => .bl (decide (i < j))) x y H Q ∨ ∃ i j, x = .str i ∧ y = .str j ∧ Q (.bl (decide (i.cps.toList < j.cps.toList))) H
def sLe : R2 := fun x y H Q => rI0 (fun i j => .bl (decide (i ≤ j))) x y H Q ∨ ∃ i j, x = .str i ∧ y = .str j ∧ Q (.bl (!decide (j.cps.toList < i.cps.toList))) H
def sGt : R2 := fun x y H Q => rI0 (fun i j => .bl (decide (j < i))) x y H Q ∨ ∃ i j, x = .str i ∧ y = .str j ∧ Q (.bl (decide (j.cps.toList < i.cps.toList))) H
def sGe : R2 := fun x y H Q => rI0 (fun i j => .bl (decide (j ≤ i))) x y H Q ∨ ∃ i j, x = .str i ∧ y = .str j ∧ Q (.bl (!decide (i.cps.toList < j.cps.toList))) H
section
variable {X : Cx}
theorem opLt : OpR X (compareOp .Lt) sLt := op_lt.or op_lt_str
theorem opLe : OpR X (compareOp .LtE) sLe := op_le.or op_le_str
theorem opGt : OpR X (compareOp .Gt) sGt := op_gt.or op_gt_str
theorem opGe : OpR X (compareOp .GtE) sGe := op_ge.or op_ge_str
end
theorem op2Lt {K : PySem.W.Frag} : Op2 K oLt sLt := by
  intro z H0 G0 G H ρ σ x y v w Qd Q so rx ry h q
  unfold oLt at h
  split at h
  · obtain rfl := rp_int rx
    obtain rfl := rp_int ry
    exact .inl ⟨_, _, rfl, rfl, same_d so (.bl _) h q⟩
  · obtain rfl := rp_str rx
    obtain rfl := rp_str ry
    exact .inr ⟨_, _, rfl, rfl, same_d so (.bl _) h q⟩
  · exact h.elim
theorem op2Le {K : PySem.W.Frag} : Op2 K oLe sLe := by
  intro z H0 G0 G H ρ σ x y v w Qd Q so rx ry h q
  unfold oLe at h
  split at h
  · obtain rfl := rp_int rx
    obtain rfl := rp_int ry
    exact .inl ⟨_, _, rfl, rfl, same_d so (.bl _) h q⟩
  · obtain rfl := rp_str rx
    obtain rfl := rp_str ry
    exact .inr ⟨_, _, rfl, rfl, same_d so (.bl _) h q⟩
  · exact h.elim
theorem op2Gt {K : PySem.W.Frag} : Op2 K oGt sGt := by
  intro z H0 G0 G H ρ σ x y v w Qd Q so rx ry h q
  unfold oGt at h
  split at h
  · obtain rfl := rp_int rx
    obtain rfl := rp_int ry
    exact .inl ⟨_, _, rfl, rfl, same_d so (.bl _) h q⟩
  · obtain rfl := rp_str rx
    obtain rfl := rp_str ry
    exact .inr ⟨_, _, rfl, rfl, same_d so (.bl _) h q⟩
  · exact h.elim
theorem op2Ge {K : PySem.W.Frag} : Op2 K oGe sGe := by
  intro z H0 G0 G H ρ σ x y v w Qd Q so rx ry h q
  unfold oGe at h
  split at h
  · obtain rfl := rp_int rx
    obtain rfl := rp_int ry
    exact .inl ⟨_, _, rfl, rfl, same_d so (.bl _) h q⟩
  · obtain rfl := rp_str rx
    obtain rfl := rp_str ry
    exact .inr ⟨_, _, rfl, rfl, same_d so (.bl _) h q⟩
  · exact h.elim
/-! ### in -/
@[irreducible] def inS (a b : Str) : Bool := !(Builtin.Str.occurrences b a 0 b.length 1).isEmpty
def oIn (neg : Bool) : DV → DV → (DV → Prop) → Prop
  | .d x, .d (.list ds), Q => (flatD x = true ∧ ds.all flatD = true) ∧ Q (.d (.bool (ng neg (inD x ds))))
  | .d x, .d (.tuple ds), Q => (flatD x = true ∧ ds.all flatD = true) ∧ Q (.d (.bool (ng neg (inD x ds))))
  | .d x, .own ds, Q => (flatD x = true ∧ ds.all flatD = true) ∧ Q (.d (.bool (ng neg (inD x ds))))
  | .d (.str a), .d (.str b), Q => Q (.d (.bool (ng neg (inS a b))))
  | _, _, _ => False
theorem oIn_n {neg : Bool} : ∀ x y Q, oIn neg x y Q → nown x := fun x y Q h => by
  unfold oIn at h
  split at h <;> first | exact nown_d | exact h.elim
def sIn (K : PySem.W.Frag) : R2 := fun x y H Q => rIn K false x y H Q ∨ ∃ i j, x = .str i ∧ y = .str j ∧ Q (.bl (!(Builtin.Str.occurrences j i 0 j.length 1).isEmpty)) H
def sNotIn (K : PySem.W.Frag) : R2 := fun x y H Q => rIn K true x y H Q ∨ ∃ i j, x = .str i ∧ y = .str j ∧ Q (.bl (!(!(Builtin.Str.occurrences j i 0 j.length 1).isEmpty))) H
section
variable {X : Cx}
theorem opIn : OpR X (compareOp .In) (sIn X.K) := op_in_seq.or op_in_str
theorem opNotIn : OpR X (compareOp .NotIn) (sNotIn X.K) := op_notIn_seq.or op_notin_str
end
theorem op2In {K : PySem.W.Frag} : Op2 K (oIn false) (sIn K) := by
  intro z H0 G0 G H ρ σ x y v w Qd Q so rx ry h q
  unfold oIn at h
  split at h
  · obtain ⟨a, xs, rfl, h1, r1⟩ := rp_list ry
    obtain ⟨⟨f1, f2⟩, h⟩ := h
    obtain rfl := rp_flat rx f1
    obtain rfl := flat_all r1 f2
    rw [bne_false] at h
    exact .inl ⟨a, _, rfl, .inl (.inl (so.ok.sub.rd h1)), flat_v f1, flat_map_all f2, by
      show Q (.bl (if false = true then _ else inV _ _)) H
      rw [if_neg Bool.false_ne_true, inV_map f1 f2]
      exact same_d so (.bl _) h q⟩
  · obtain ⟨a, xs, rfl, h1, r1⟩ := rp_tuple ry
    obtain ⟨⟨f1, f2⟩, h⟩ := h
    obtain rfl := rp_flat rx f1
    obtain rfl := flat_all r1 f2
    rw [bne_false] at h
    exact .inl ⟨a, _, rfl, .inr (so.ok.sub.sqT h1), flat_v f1, flat_map_all f2, by
      show Q (.bl (if false = true then _ else inV _ _)) H
      rw [if_neg Bool.false_ne_true, inV_map f1 f2]
      exact same_d so (.bl _) h q⟩
  · obtain ⟨a, xs, rfl, h1, _, _, _, r1⟩ := ry
    obtain ⟨⟨f1, f2⟩, h⟩ := h
    obtain rfl := rp_flat rx f1
    obtain rfl := flat_all r1 f2
    rw [bne_false] at h
    exact .inl ⟨a, _, rfl, .inl (SqL.of h1), flat_v f1, flat_map_all f2, by
      show Q (.bl (if false = true then _ else inV _ _)) H
      rw [if_neg Bool.false_ne_true, inV_map f1 f2]
      exact same_d so (.bl _) h q⟩
  · obtain rfl := rp_str rx
    obtain rfl := rp_str ry
    rw [bne_false] at h
    unfold inS at h
    exact .inr ⟨_, _, rfl, rfl, same_d so (.bl _) h q⟩
  · exact h.elim
theorem op2NotIn {K : PySem.W.Frag} : Op2 K (oIn true) (sNotIn K) := by
  intro z H0 G0 G H ρ σ x y v w Qd Q so rx ry h q
  unfold oIn at h
  split at h
  · obtain ⟨a, xs, rfl, h1, r1⟩ := rp_list ry
    obtain ⟨⟨f1, f2⟩, h⟩ := h
    obtain rfl := rp_flat rx f1
    obtain rfl := flat_all r1 f2
    rw [bne_true] at h
    exact .inl ⟨a, _, rfl, .inl (.inl (so.ok.sub.rd h1)), flat_v f1, flat_map_all f2, by
      show Q (.bl (if true = true then _ else inV _ _)) H
      rw [if_pos rfl, inV_map f1 f2]
      exact same_d so (.bl _) h q⟩
  · obtain ⟨a, xs, rfl, h1, r1⟩ := rp_tuple ry
    obtain ⟨⟨f1, f2⟩, h⟩ := h
    obtain rfl := rp_flat rx f1
    obtain rfl := flat_all r1 f2
    rw [bne_true] at h
    exact .inl ⟨a, _, rfl, .inr (so.ok.sub.sqT h1), flat_v f1, flat_map_all f2, by
      show Q (.bl (if true = true then _ else inV _ _)) H
      rw [if_pos rfl, inV_map f1 f2]
      exact same_d so (.bl _) h q⟩
  · obtain ⟨a, xs, rfl, h1, _, _, _, r1⟩ := ry
    obtain ⟨⟨f1, f2⟩, h⟩ := h
    obtain rfl := rp_flat rx f1
    obtain rfl := flat_all r1 f2
    rw [bne_true] at h
    exact .inl ⟨a, _, rfl, .inl (SqL.of h1), flat_v f1, flat_map_all f2, by
      show Q (.bl (if true = true then _ else inV _ _)) H
      rw [if_pos rfl, inV_map f1 f2]
      exact same_d so (.bl _) h q⟩
  · obtain rfl := rp_str rx
    obtain rfl := rp_str ry
    rw [bne_true] at h
    unfold inS at h
    exact .inr ⟨_, _, rfl, rfl, same_d so (.bl _) h q⟩
  · exact h.elim
/-! ### is None -/
def isNone : D → Bool
  | .none => true
  | _ => false
def oIsN (neg : Bool) : DV → (DV → Prop) → Prop
  | .d x, Q => Q (.d (.bool (ng neg (isNone x))))
  | _, _ => False
theorem isNone_v {K : PySem.W.Frag} {G : Hp} {v : V} {d : D} (r : Rp K G v d) : decide (v = .non) = isNone d := by
  cases r <;> rfl

section
variable {X : Cx} {W : WX} {a b c : Expr} {ta tb tc : DE} {pos : Pos}
theorem de_eq (hu : X.A.units + 64 < cLine) (ha : PE X a (lE X.K W ta)) (hb : PE X b (lE X.K W tb)) : PE X (.Compare a [.Eq] [b] pos) (lE X.K W (dOp (oEq false) ta tb)) := de_cmp (opEq hu) op2Eq oEq_n ha hb (nomark _)
theorem de_ne (hu : X.A.units + 64 < cLine) (ha : PE X a (lE X.K W ta)) (hb : PE X b (lE X.K W tb)) : PE X (.Compare a [.NotEq] [b] pos) (lE X.K W (dOp (oEq true) ta tb)) := de_cmp (opNe hu) op2Ne oEq_n ha hb (nomark _)
theorem de_lt (ha : PE X a (lE X.K W ta)) (hb : PE X b (lE X.K W tb)) : PE X (.Compare a [.Lt] [b] pos) (lE X.K W (dOp oLt ta tb)) := de_cmp opLt op2Lt oLt_n ha hb (nomark _)
theorem de_le (ha : PE X a (lE X.K W ta)) (hb : PE X b (lE X.K W tb)) : PE X (.Compare a [.LtE] [b] pos) (lE X.K W (dOp oLe ta tb)) := de_cmp opLe op2Le oLe_n ha hb (nomark _)
theorem de_gt (ha : PE X a (lE X.K W ta)) (hb : PE X b (lE X.K W tb)) : PE X (.Compare a [.Gt] [b] pos) (lE X.K W (dOp oGt ta tb)) := de_cmp opGt op2Gt oGt_n ha hb (nomark _)
theorem de_ge (ha : PE X a (lE X.K W ta)) (hb : PE X b (lE X.K W tb)) : PE X (.Compare a [.GtE] [b] pos) (lE X.K W (dOp oGe ta tb)) := de_cmp opGe op2Ge oGe_n ha hb (nomark _)
theorem de_in (ha : PE X a (lE X.K W ta)) (hb : PE X b (lE X.K W tb)) (hm : behindInMarks .In b = false := by with_unfolding_all rfl) : PE X (.Compare a [.In] [b] pos) (lE X.K W (dOp (oIn false) ta tb)) := de_cmp opIn op2In oIn_n ha hb hm
theorem de_notin (ha : PE X a (lE X.K W ta)) (hb : PE X b (lE X.K W tb)) (hm : behindInMarks .NotIn b = false := by with_unfolding_all rfl) : PE X (.Compare a [.NotIn] [b] pos) (lE X.K W (dOp (oIn true) ta tb)) := de_cmp opNotIn op2NotIn oIn_n ha hb hm
theorem dt_eq (hu : X.A.units + 64 < cLine) (ha : PE X a (lE X.K W ta)) (hb : PE X b (lE X.K W tb)) : PT X (.Compare a [.Eq] [b] pos) (lT X.K W (dB (dOp (oEq false) ta tb))) := dt_cmp (opEq hu) op2Eq oEq_n ha hb (nomark _)
theorem dt_ne (hu : X.A.units + 64 < cLine) (ha : PE X a (lE X.K W ta)) (hb : PE X b (lE X.K W tb)) : PT X (.Compare a [.NotEq] [b] pos) (lT X.K W (dB (dOp (oEq true) ta tb))) := dt_cmp (opNe hu) op2Ne oEq_n ha hb (nomark _)
theorem dt_lt (ha : PE X a (lE X.K W ta)) (hb : PE X b (lE X.K W tb)) : PT X (.Compare a [.Lt] [b] pos) (lT X.K W (dB (dOp oLt ta tb))) := dt_cmp opLt op2Lt oLt_n ha hb (nomark _)
theorem dt_le (ha : PE X a (lE X.K W ta)) (hb : PE X b (lE X.K W tb)) : PT X (.Compare a [.LtE] [b] pos) (lT X.K W (dB (dOp oLe ta tb))) := dt_cmp opLe op2Le oLe_n ha hb (nomark _)
theorem dt_gt (ha : PE X a (lE X.K W ta)) (hb : PE X b (lE X.K W tb)) : PT X (.Compare a [.Gt] [b] pos) (lT X.K W (dB (dOp oGt ta tb))) := dt_cmp opGt op2Gt oGt_n ha hb (nomark _)
theorem dt_ge (ha : PE X a (lE X.K W ta)) (hb : PE X b (lE X.K W tb)) : PT X (.Compare a [.GtE] [b] pos) (lT X.K W (dB (dOp oGe ta tb))) := dt_cmp opGe op2Ge oGe_n ha hb (nomark _)
theorem dt_in (ha : PE X a (lE X.K W ta)) (hb : PE X b (lE X.K W tb)) (hm : behindInMarks .In b = false := by with_unfolding_all rfl) : PT X (.Compare a [.In] [b] pos) (lT X.K W (dB (dOp (oIn false) ta tb))) := dt_cmp opIn op2In oIn_n ha hb hm
theorem dt_notin (ha : PE X a (lE X.K W ta)) (hb : PE X b (lE X.K W tb)) (hm : behindInMarks .NotIn b = false := by with_unfolding_all rfl) : PT X (.Compare a [.NotIn] [b] pos) (lT X.K W (dB (dOp (oIn true) ta tb))) := dt_cmp opNotIn op2NotIn oIn_n ha hb hm
/-- a op1 b op2 c -/
def dChain (r r' : DV → DV → (DV → Prop) → Prop) (ta tb tc : DE) : DE := fun Wd ρ Q => ta Wd ρ fun x => tb Wd ρ fun y => nown y ∧ r x y fun z => bv z fun k => if k = true then tc Wd ρ (fun w => r' y w Q) else Q (.d (.bool false))
theorem lE_chain {r r' : DV → DV → (DV → Prop) → Prop} {s s' : R2} (hs : Op2 X.K r s) (hn : ∀ x y Q, r x y Q → nown x) (hs' : Op2 X.K r' s') {σ : L2.St} {H : Hp} {Q : VK} (h : lE X.K W (dChain r r' ta tb tc) σ H Q) :
    tChain s s' (lE X.K W ta) (lE X.K W tb) (lE X.K W tc) σ H Q := by
  obtain ⟨z, H0, G0, G, ρ, Wd, Qd, so, h, q, w⟩ := h
  refine ⟨z, H0, G0, G, ρ, Wd, _, so, h, fun x hx v G1 H1 e1 so1 r1 => ?_, w⟩
  refine ⟨z, H0, G0, G1, ρ, Wd, _, so1, hx, fun y hy u G2 H2 e2 so2 r2 => ?_, w.mono e1.ex⟩
  obtain ⟨ny, hy⟩ := hy
  refine hs so2 (r1.go e2) r2 hy fun t ht k G3 H3 e3 so3 r3 => ?_
  obtain ⟨c, _, rfl, hc⟩ := bv_of ht r3
  refine ⟨c, rfl, ?_⟩
  cases c with
  | true =>
    rw [if_pos rfl] at hc ⊢
    refine ⟨z, H0, G0, G3, ρ, Wd, _, so3, hc, fun t ht k G4 H4 e4 so4 r4 => ?_, w.mono (e1.trans (e2.trans e3)).ex⟩
    exact hs' so4 (r2.mono (e3.trans e4).ex ny.ne) r4 ht fun y hy u G' H' e so' r' => q y hy u G' H' (e1.trans (e2.trans (e3.trans (e4.trans e)))) so' r'
  | false =>
    rw [if_neg Bool.false_ne_true] at hc ⊢
    exact q _ hc _ G3 H3 (e1.trans (e2.trans e3)) so3 (.bl false)
theorem de_lele (ha : PE X a (lE X.K W ta)) (hb : PE X b (lE X.K W tb)) (hc : PE X c (lE X.K W tc)) (hm : lastMarks [.LtE, .LtE] [b, c] = false := by with_unfolding_all rfl) : PE X (.Compare a [.LtE, .LtE] [b, c] pos) (lE X.K W (dChain oLe oLe ta tb tc)) :=
  (pe_chain opLe opLe ha hb hc hm).imp fun σ H Q h => lE_chain op2Le oLe_n op2Le h
theorem de_lelt (ha : PE X a (lE X.K W ta)) (hb : PE X b (lE X.K W tb)) (hc : PE X c (lE X.K W tc)) (hm : lastMarks [.LtE, .Lt] [b, c] = false := by with_unfolding_all rfl) : PE X (.Compare a [.LtE, .Lt] [b, c] pos) (lE X.K W (dChain oLe oLt ta tb tc)) :=
  (pe_chain opLe opLt ha hb hc hm).imp fun σ H Q h => lE_chain op2Le oLe_n op2Lt h
/-- .. as a test -/
theorem lT_chain {r r' : DV → DV → (DV → Prop) → Prop} {s s' : R2} (hs : Op2 X.K r s) (hn : ∀ x y Q, r x y Q → nown x) (hs' : Op2 X.K r' s') {σ : L2.St} {H : Hp} {Q : Bool → Hp → Prop} (h : lT X.K W (dB (dChain r r' ta tb tc)) σ H Q) :
    tTest (tChain s s' (lE X.K W ta) (lE X.K W tb) (lE X.K W tc)) σ H Q := by
  obtain ⟨z, H0, G0, G, ρ, Wd, Qd, so, h, q, w⟩ := h
  refine lE_chain (X := X) (W := W) hs hn hs' ⟨z, H0, G0, G, ρ, Wd, _, so, h, fun x hx v G1 H1 e1 so1 r1 => ?_, w⟩
  obtain ⟨b, _, rfl, hb⟩ := bv_of hx r1
  exact ⟨b, rfl, q b hb G1 H1 e1 so1⟩
theorem dt_lele (ha : PE X a (lE X.K W ta)) (hb : PE X b (lE X.K W tb)) (hc : PE X c (lE X.K W tc)) (hm : lastMarks [.LtE, .LtE] [b, c] = false := by with_unfolding_all rfl) : PT X (.Compare a [.LtE, .LtE] [b, c] pos) (lT X.K W (dB (dChain oLe oLe ta tb tc))) :=
  (pt_chain opLe opLe ha hb hc hm).imp fun σ H Q h => lT_chain op2Le oLe_n op2Le h
theorem dt_lelt (ha : PE X a (lE X.K W ta)) (hb : PE X b (lE X.K W tb)) (hc : PE X c (lE X.K W tc)) (hm : lastMarks [.LtE, .Lt] [b, c] = false := by with_unfolding_all rfl) : PT X (.Compare a [.LtE, .Lt] [b, c] pos) (lT X.K W (dB (dChain oLe oLt ta tb tc))) :=
  (pt_chain opLe opLt ha hb hc hm).imp fun σ H Q h => lT_chain op2Le oLe_n op2Lt h
theorem lE_isN {neg : Bool} {σ : L2.St} {H : Hp} {Q : VK} (h : lE X.K W (dUn (oIsN neg) ta) σ H Q) : lE X.K W ta σ H fun x H1 => Q (.bl (ng neg (decide (x = .non)))) H1 := by
  obtain ⟨z, H0, G0, G, ρ, Wd, Qd, so, h, q, w⟩ := h
  refine ⟨z, H0, G0, G, ρ, Wd, _, so, h, fun x hx v G1 H1 e1 so1 r1 => ?_, w⟩
  unfold oIsN at hx
  split at hx
  · rename_i d
    rw [isNone_v (show Rp X.K G1 v d from r1)]
    exact q _ hx _ G1 H1 e1 so1 (.bl _)
  · exact hx.elim
theorem de_isN {j p'} (ha : PE X a (lE X.K W ta)) : PE X (.Compare a [.Is] [.Constant .none j p'] pos) (lE X.K W (dUn (oIsN false) ta)) := (pe_cmp (pc_isN ha) rfl).imp fun σ H Q h => by
  have := lE_isN h
  simp only [bne_false] at this
  exact this
theorem de_notN {j p'} (ha : PE X a (lE X.K W ta)) : PE X (.Compare a [.IsNot] [.Constant .none j p'] pos) (lE X.K W (dUn (oIsN true) ta)) := (pe_cmp (pc_notN ha) rfl).imp fun σ H Q h => by
  have := lE_isN h
  simp only [bne_true] at this
  exact this
end
end DL

set_option Elab.async false
set_option linter.all false
set_option maxRecDepth 100000
set_option maxHeartbeats 2000000
namespace DL
open PySem PySem.Spec PyProof.Rows L2

/-! ### a built-in called with one datum -/
section
variable {X : Cx} {W : WX} {a : Expr} {ta : DE} {p pos : Pos} {id T : String} {x : Str} {s : List V → Hp → VK → Prop} {r : DV → (DV → Prop) → Prop}
theorem lE_call1 (hs : Op1 X.K r (fun v H Q => s [v] H Q)) {σ : L2.St} {H : Hp} {Q : VK} (h : lE X.K W (dUn r ta) σ H Q) : tCB s (tCons (lE X.K W ta) tNil) σ H Q := lE_un hs h
theorem de_callB (hc : CallR X (.builtin id) s) (hs : Op1 X.K r (fun v H Q => s [v] H Q)) (hg : Gl X x) (hm : X.mg x = none) (hv : bootBuiltins x = some (.builtin id)) (ha : PE X a (lE X.K W ta)) (hn : x ≠ "__name__" := by decide) (hdb : (x == ("__debug__" : Str)) = false := by decide)
    (he : starEach [a] X.env = (false, eval a X.env) :: starEach [] X.env := by rfl) (hpl : (backTo pos (starEach [] X.env)).any (·.1) = false := by rfl) : PE X (.Call (.Name x p) [a] [] pos) (lE X.K W (dUn r ta)) :=
  (pe_callB hc hg hm hv (pa_cons ha pa_nil he) hn hdb he hpl).imp fun σ H Q h => lE_call1 hs h
theorem de_callTy (hc : CallR X (.type T) s) (hs : Op1 X.K r (fun v H Q => s [v] H Q)) (hg : Gl X x) (hm : X.mg x = none) (hv : bootBuiltins x = some (.type T)) (ha : PE X a (lE X.K W ta)) (hn : x ≠ "__name__" := by decide) (hdb : (x == ("__debug__" : Str)) = false := by decide)
    (he : starEach [a] X.env = (false, eval a X.env) :: starEach [] X.env := by rfl) (hpl : (backTo pos (starEach [] X.env)).any (·.1) = false := by rfl) : PE X (.Call (.Name x p) [a] [] pos) (lE X.K W (dUn r ta)) :=
  (pe_callTy hc hg hm hv (pa_cons ha pa_nil he) hn hdb he hpl).imp fun σ H Q h => lE_call1 hs h
end
/-! ### len -/
def oLen : DV → (DV → Prop) → Prop
  | .d (.str s), Q => s.length ≤ sizeLine ∧ Q (.d (.int s.length))
  | .d (.list ds), Q => Q (.d (.int ds.length))
  | .d (.tuple ds), Q => Q (.d (.int ds.length))
  | .own ds, Q => Q (.d (.int ds.length))
  | _, _ => False
theorem op1Len {K : PySem.W.Frag} : Op1 K oLen (fun v H Q => ∃ x n, [v] = [x] ∧ LenV K x H n ∧ Q (.int n) H) := by
  intro z H0 G0 G H ρ σ x v Qd Q so rx h q
  unfold oLen at h
  split at h
  · obtain rfl := rp_str rx
    exact ⟨_, _, rfl, ⟨h.1, rfl⟩, same_d so (.int _) h.2 q⟩
  · obtain ⟨a, xs, rfl, h1, r1⟩ := rp_list rx
    rw [← r1.length] at h
    exact ⟨_, _, rfl, .inl ⟨xs, .inl (so.ok.sub.rd h1), rfl⟩, same_d so (.int _) h q⟩
  · obtain ⟨a, xs, rfl, h1, r1⟩ := rp_tuple rx
    rw [← r1.length] at h
    exact ⟨_, _, rfl, .inr ⟨xs, so.ok.sub.sqT h1, rfl⟩, same_d so (.int _) h q⟩
  · obtain ⟨a, xs, rfl, h1, _, _, _, r1⟩ := rx
    rw [← r1.length] at h
    exact ⟨_, _, rfl, .inl ⟨xs, SqL.of h1, rfl⟩, same_d so (.int _) h q⟩
  · exact h.elim
/-! ### int, str, abs, ord -/
def oInt : DV → (DV → Prop) → Prop
  | .d (.int i), Q => Q (.d (.int i))
  | .d (.bool b), Q => Q (.d (.int (if b then 1 else 0)))
  | _, _ => False
theorem op1Int {K : PySem.W.Frag} : Op1 K oInt (fun v H Q => (∃ i, [v] = [.int i] ∧ Q (.int i) H) ∨ ∃ k, [v] = [.bl k] ∧ Q (.int (if k then 1 else 0)) H) := by
  intro z H0 G0 G H ρ σ x v Qd Q so rx h q
  unfold oInt at h
  split at h
  · obtain rfl := rp_int rx
    exact .inl ⟨_, rfl, same_d so (.int _) h q⟩
  · obtain rfl := rp_bool rx
    exact .inr ⟨_, rfl, same_d so (.int _) h q⟩
  · exact h.elim
def boolS (b : Bool) : Str := if b then ("True" : Str) else ("False" : Str)
def sStr : List V → Hp → VK → Prop := fun xs H Q => (∃ i : Int, xs = [.int i] ∧ i.natAbs.log2 < 1920 ∧ Q (.str (toString i)) H) ∨ (∃ x, xs = [.str x] ∧ Q (.str x) H) ∨ (∃ b, xs = [.bl b] ∧ Q (.str (boolS b)) H)
theorem callStr {X : Cx} : CallR X (.type "str") sStr := by
  intro pins s σ H xs us Q I r h
  rcases h with h | ⟨x, rfl, q⟩ | ⟨b, rfl, q⟩
  · exact call_str_int pins s σ H xs us Q I r h
  · obtain ⟨u, rfl, t, rfl⟩ := vals1 r
    exact PySem.P.str_of_str ⟨.str x, H, I, ⟨t, rfl⟩, q⟩
  · obtain ⟨u, rfl, e⟩ := vals1 r
    cases (show u = Value.bool b from e)
    refine PySem.P.str_of_bool ?_
    cases b <;> exact ⟨.str _, H, I.tok _, ⟨_, rfl⟩, q⟩
def oStr : DV → (DV → Prop) → Prop
  | .d (.int i), Q => i.natAbs.log2 < 1920 ∧ Q (.d (.str (toString i)))
  | .d (.str x), Q => Q (.d (.str x))
  | .d (.bool b), Q => Q (.d (.str (boolS b)))
  | _, _ => False
theorem op1Str {K : PySem.W.Frag} : Op1 K oStr (fun v H Q => sStr [v] H Q) := by
  intro z H0 G0 G H ρ σ x v Qd Q so rx h q
  unfold oStr at h
  split at h
  · obtain rfl := rp_int rx
    exact .inl ⟨_, rfl, h.1, same_d so (.str _) h.2 q⟩
  · obtain rfl := rp_str rx
    exact .inr (.inl ⟨_, rfl, same_d so (.str _) h q⟩)
  · obtain rfl := rp_bool rx
    exact .inr (.inr ⟨_, rfl, same_d so (.str _) h q⟩)
  · exact h.elim
def oAbs : DV → (DV → Prop) → Prop
  | .d (.int i), Q => Q (.d (.int (if i < 0 then -i else i)))
  | _, _ => False
theorem op1Abs {K : PySem.W.Frag} : Op1 K oAbs (fun v H Q => ∃ i, [v] = [.int i] ∧ Q (.int (if i < 0 then -i else i)) H) := by
  intro z H0 G0 G H ρ σ x v Qd Q so rx h q
  unfold oAbs at h
  split at h
  · obtain rfl := rp_int rx
    exact ⟨_, rfl, same_d so (.int _) h q⟩
  · exact h.elim
def oOrd : DV → (DV → Prop) → Prop
  | .d (.str x), Q => x.length = 1 ∧ Q (.d (.int (x.cps.getD 0 0 : Nat)))
  | _, _ => False
theorem op1Ord {K : PySem.W.Frag} : Op1 K oOrd (fun v H Q => ∃ x, [v] = [.str x] ∧ x.length = 1 ∧ Q (.int (x.cps.getD 0 0 : Nat)) H) := by
  intro z H0 G0 G H ρ σ x v Qd Q so rx h q
  unfold oOrd at h
  split at h
  · obtain rfl := rp_str rx
    exact ⟨_, rfl, h.1, same_d so (.int _) h.2 q⟩
  · exact h.elim
/-! ### all(a list of flags), list(..), tuple(..) -/
def blD : D → Option Bool
  | .bool b => some b
  | _ => none
def blsD : List D → Option (List Bool)
  | [] => some []
  | .bool b :: r => (blsD r).map (b :: ·)
  | _ :: _ => none
theorem blsD_of {K : PySem.W.Frag} {G : Hp} : ∀ {vs : List V} {ds : List D} {bs : List Bool}, Rps K G vs ds → blsD ds = some bs → vs = bs.map V.bl
  | _, _, bs, .nil, e => by
    cases e
    rfl
  | _, d :: ds, bs, .cons r h, e => by
    cases d with
    | bool b =>
      have e' : (blsD ds).map (b :: ·) = some bs := e
      cases q : blsD ds with
      | none => rw [q] at e'; cases e'
      | some cs =>
        rw [q] at e'
        cases e'
        rw [rp_bool r, blsD_of h q, List.map_cons]
    | _ => cases e
theorem blsD_map : ∀ bs : List Bool, blsD (bs.map PyData.bool) = some bs
  | [] => rfl
  | b :: r => by
    show (blsD (r.map PyData.bool)).map (b :: ·) = _
    rw [blsD_map r] <;> rfl
def oAll : DV → (DV → Prop) → Prop
  | .d (.list ds), Q => ∃ bs, blsD ds = some bs ∧ Q (.d (.bool (bs.all id)))
  | _, _ => False
theorem op1All {K : PySem.W.Frag} : Op1 K oAll (fun v H Q => rAll K [v] H Q) := by
  intro z H0 G0 G H ρ σ x v Qd Q so rx h q
  unfold oAll at h
  split at h
  · obtain ⟨a, xs, rfl, h1, r1⟩ := rp_list rx
    obtain ⟨bs, e, h⟩ := h
    obtain rfl := blsD_of r1 e
    exact ⟨a, bs, rfl, .inl (so.ok.sub.rd h1), same_d so (.bl _) h q⟩
  · exact h.elim
def oList : DV → (DV → Prop) → Prop
  | .d (.list ds), Q => Q (.d (.list ds))
  | .own ds, Q => Q (.d (.list ds))
  | .d (.tuple ds), Q => Q (.d (.list ds))
  | _, _ => False
def sList (K : PySem.W.Frag) : List V → Hp → VK → Prop := fun xs H Q => ∃ p ys, xs = [.ref p] ∧ (SqL K H p ys ∨ SqT K H p ys) ∧ ∀ l, H l = none → Q (.ref l) (upd H l (.lst ys))
theorem op1List {K : PySem.W.Frag} : Op1 K oList (fun v H Q => sList K [v] H Q) := by
  intro z H0 G0 G H ρ σ x v Qd Q so rx h q
  unfold oList at h
  split at h
  · obtain ⟨a, xs, rfl, h1, r1⟩ := rp_list rx
    exact ⟨a, xs, rfl, .inl (.inl (so.ok.sub.rd h1)), fun l hl => new_lst so r1 h q hl⟩
  · obtain ⟨a, xs, rfl, h1, _, _, _, r1⟩ := rx
    exact ⟨a, xs, rfl, .inl (SqL.of h1), fun l hl => new_lst so r1 h q hl⟩
  · obtain ⟨a, xs, rfl, h1, r1⟩ := rp_tuple rx
    exact ⟨a, xs, rfl, .inr (so.ok.sub.sqT h1), fun l hl => new_lst so r1 h q hl⟩
  · exact h.elim
def oTup : DV → (DV → Prop) → Prop
  | .d (.list ds), Q => Q (.d (.tuple ds))
  | .own ds, Q => Q (.d (.tuple ds))
  | .d (.tuple ds), Q => Q (.d (.tuple ds))
  | _, _ => False
def sTup (K : PySem.W.Frag) : List V → Hp → VK → Prop := fun xs H Q => ∃ p ys, xs = [.ref p] ∧ ((SqL K H p ys ∧ ∀ l, H l = none → Q (.ref l) (upd H l (.tup ys))) ∨ (SqT K H p ys ∧ Q (.ref p) H))
theorem op1Tup {K : PySem.W.Frag} : Op1 K oTup (fun v H Q => sTup K [v] H Q) := by
  intro z H0 G0 G H ρ σ x v Qd Q so rx h q
  unfold oTup at h
  split at h
  · obtain ⟨a, xs, rfl, h1, r1⟩ := rp_list rx
    exact ⟨a, xs, rfl, .inl ⟨.inl (so.ok.sub.rd h1), fun l hl => new_tup so r1 h q hl⟩⟩
  · obtain ⟨a, xs, rfl, h1, _, _, _, r1⟩ := rx
    exact ⟨a, xs, rfl, .inl ⟨SqL.of h1, fun l hl => new_tup so r1 h q hl⟩⟩
  · obtain ⟨a, xs, rfl, h1, r1⟩ := rp_tuple rx
    exact ⟨a, xs, rfl, .inr ⟨so.ok.sub.sqT h1, same_d so rx h q⟩⟩
  · exact h.elim
section
variable {X : Cx} {W : WX} {a b : Expr} {ta tb : DE} {p pos : Pos}
theorem de_len (hg : Gl X "len") (hm : X.mg "len" = none) (ha : PE X a (lE X.K W ta)) (he : starEach [a] X.env = (false, eval a X.env) :: starEach [] X.env := by rfl) : PE X (.Call (.Name "len" p) [a] [] pos) (lE X.K W (dUn oLen ta)) := de_callB call_len op1Len hg hm PySem.boot_len ha (he := he)
theorem de_intC (hg : Gl X "int") (hm : X.mg "int" = none) (ha : PE X a (lE X.K W ta)) (he : starEach [a] X.env = (false, eval a X.env) :: starEach [] X.env := by rfl) : PE X (.Call (.Name "int" p) [a] [] pos) (lE X.K W (dUn oInt ta)) := de_callTy call_int1 op1Int hg hm (by decide +kernel) ha (he := he)
theorem de_strC (hg : Gl X "str") (hm : X.mg "str" = none) (ha : PE X a (lE X.K W ta)) (he : starEach [a] X.env = (false, eval a X.env) :: starEach [] X.env := by rfl) : PE X (.Call (.Name "str" p) [a] [] pos) (lE X.K W (dUn oStr ta)) := de_callTy callStr op1Str hg hm (by decide +kernel) ha (he := he)
theorem de_absC (hg : Gl X "abs") (hm : X.mg "abs" = none) (ha : PE X a (lE X.K W ta)) (he : starEach [a] X.env = (false, eval a X.env) :: starEach [] X.env := by rfl) : PE X (.Call (.Name "abs" p) [a] [] pos) (lE X.K W (dUn oAbs ta)) := de_callB call_abs op1Abs hg hm (by decide +kernel) ha (he := he)
theorem de_ordC (hg : Gl X "ord") (hm : X.mg "ord" = none) (ha : PE X a (lE X.K W ta)) (he : starEach [a] X.env = (false, eval a X.env) :: starEach [] X.env := by rfl) : PE X (.Call (.Name "ord" p) [a] [] pos) (lE X.K W (dUn oOrd ta)) := de_callB call_ord op1Ord hg hm (by decide +kernel) ha (he := he)
theorem de_allC (hc : X.calm = true) (hg : Gl X "all") (hm : X.mg "all" = none) (ha : PE X a (lE X.K W ta)) (he : starEach [a] X.env = (false, eval a X.env) :: starEach [] X.env := by rfl) : PE X (.Call (.Name "all" p) [a] [] pos) (lE X.K W (dUn oAll ta)) := de_callB (cr_all hc) op1All hg hm (by decide +kernel) ha (he := he)
theorem de_listC (hg : Gl X "list") (hm : X.mg "list" = none) (ha : PE X a (lE X.K W ta)) (he : starEach [a] X.env = (false, eval a X.env) :: starEach [] X.env := by rfl) : PE X (.Call (.Name "list" p) [a] [] pos) (lE X.K W (dUn oList ta)) := de_callTy call_list_of op1List hg hm (by decide +kernel) ha (he := he)
theorem de_tupC (hg : Gl X "tuple") (hm : X.mg "tuple" = none) (ha : PE X a (lE X.K W ta)) (he : starEach [a] X.env = (false, eval a X.env) :: starEach [] X.env := by rfl) : PE X (.Call (.Name "tuple" p) [a] [] pos) (lE X.K W (dUn oTup ta)) := de_callTy call_tuple_of op1Tup hg hm (by decide +kernel) ha (he := he)
/-- max, min of two ints -/
def oMax : DV → DV → (DV → Prop) → Prop
  | .d (.int i), .d (.int j), Q => Q (.d (.int (if j > i then j else i)))
  | _, _, _ => False
def oMin : DV → DV → (DV → Prop) → Prop
  | .d (.int i), .d (.int j), Q => Q (.d (.int (if j < i then j else i)))
  | _, _, _ => False
theorem de_max (hc : X.calm = true) (hg : Gl X "max") (hm : X.mg "max" = none) (ha : PE X a (lE X.K W ta)) (hb : PE X b (lE X.K W tb)) (h2 : starEach [b] X.env = (false, eval b X.env) :: starEach [] X.env := by rfl) (he : starEach [a, b] X.env = (false, eval a X.env) :: starEach [b] X.env := by rfl)
    (hpl : (backTo pos (starEach [b] X.env)).any (·.1) = false := by rfl) : PE X (.Call (.Name "max" p) [a, b] [] pos) (lE X.K W (dOp oMax ta tb)) :=
  (pe_callB (call_max2 hc) hg hm (by decide +kernel) (pa_cons ha (pa_cons hb pa_nil h2) he) (by decide) (by decide) he hpl).imp fun σ H Q h =>
    lE_op (s := fun v w H Q => ∃ i j, [v, w] = [.int i, .int j] ∧ Q (.int (if j > i then j else i)) H) (by
      intro z H0 G0 G H ρ σ x y v w Qd Q so rx ry h q
      unfold oMax at h
      split at h
      · obtain rfl := rp_int rx
        obtain rfl := rp_int ry
        exact ⟨_, _, rfl, same_d so (.int _) h q⟩
      · exact h.elim) h
theorem de_min (hc : X.calm = true) (hg : Gl X "min") (hm : X.mg "min" = none) (ha : PE X a (lE X.K W ta)) (hb : PE X b (lE X.K W tb)) (h2 : starEach [b] X.env = (false, eval b X.env) :: starEach [] X.env := by rfl) (he : starEach [a, b] X.env = (false, eval a X.env) :: starEach [b] X.env := by rfl)
    (hpl : (backTo pos (starEach [b] X.env)).any (·.1) = false := by rfl) : PE X (.Call (.Name "min" p) [a, b] [] pos) (lE X.K W (dOp oMin ta tb)) :=
  (pe_callB (call_min2 hc) hg hm (by decide +kernel) (pa_cons ha (pa_cons hb pa_nil h2) he) (by decide) (by decide) he hpl).imp fun σ H Q h =>
    lE_op (s := fun v w H Q => ∃ i j, [v, w] = [.int i, .int j] ∧ Q (.int (if j < i then j else i)) H) (by
      intro z H0 G0 G H ρ σ x y v w Qd Q so rx ry h q
      unfold oMin at h
      split at h
      · obtain rfl := rp_int rx
        obtain rfl := rp_int ry
        exact ⟨_, _, rfl, same_d so (.int _) h q⟩
      · exact h.elim) h
end

/-! ### isinstance -/
def tyD : D → String
  | .none => "NoneType"
  | .bool _ => "bool"
  | .int _ => "int"
  | .str _ => "str"
  | .list _ => "list"
  | .tuple _ => "tuple"
  | .dict _ => "dict"
/-- isinstance(d, T), T a built-in type -/
def isT (T : String) : D → Bool
  | .none => T == "NoneType"
  | .bool _ => T == "bool" || T == "int"
  | .int _ => T == "int"
  | .str _ => T == "str"
  | .list _ => T == "list"
  | .tuple _ => T == "tuple"
  | .dict _ => T == "dict"
theorem ty_of {K : PySem.W.Frag} {H : Hp} {v : V} {d : D} (r : Rp K H v d) : TyX K H v (.type (tyD d)) := by
  cases r with
  | non => exact .base .non
  | bl b => exact .base (.bl b)
  | int i => exact .base (.int i)
  | str x => exact .base (.str x)
  | lst h _ =>
    rcases h with h | ⟨o, h⟩
    · exact .base (.lst h)
    · exact .base (.frz h)
  | tup h _ =>
    rcases h with (h | ⟨o, h⟩) | ⟨o, its, n, h1, h2, _⟩
    · exact .base (.tup h)
    · exact .fTuple h
    · exact .kTuple h1 h2
  | dic h _ =>
    rcases h with h | ⟨o, h⟩
    · exact .base (.dK h)
    · exact .fDict h
/-- the check of T, by decide +kernel -/
def okT (T : String) : Bool := ([.none, .bool false, .int 0, .str Str.empty, .list [], .tuple [], .dict []] : List D).all fun d => kitB (tyD d) T == some (isT T d)
theorem kit_d {T : String} (h : okT T = true) (d : D) : kitB (tyD d) T = some (isT T d) := by
  unfold okT at h
  simp only [List.all_cons, List.all_nil, Bool.and_true, Bool.and_eq_true, beq_iff_eq] at h
  obtain ⟨h1, h2, h3, h4, h5, h6, h7⟩ := h
  cases d with
  | none => exact h1
  | bool b => exact h2
  | int i => exact h3
  | str x => exact h4
  | list ds => exact h5
  | tuple ds => exact h6
  | dict ds => exact h7
def oIs (T : String) : DV → (DV → Prop) → Prop
  | .d x, Q => Q (.d (.bool (isT T x)))
  | _, _ => False
def oIs2 (T U : String) : DV → (DV → Prop) → Prop
  | .d x, Q => Q (.d (.bool (isT T x || isT U x)))
  | _, _ => False
section
variable {X : Cx} {W : WX} {a : Expr} {ta : DE} {p p2 p3 p4 pos : Pos} {x y : Str} {T U : String} {k : Nat}
theorem de_is (hT : okT T = true) (hg : Gl X "isinstance") (hm : X.mg "isinstance" = none) (hgx : Gl X x) (hmx : X.mg x = none) (hvx : bootBuiltins x = some (.type T)) (ha : PE X a (lE X.K W ta)) (hnx : x ≠ "__name__" := by decide) (hdx : (x == ("__debug__" : Str)) = false := by decide)
    (h2 : starEach [.Name x p2] X.env = (false, eval (.Name x p2) X.env) :: starEach [] X.env := by rfl) (he : starEach [a, .Name x p2] X.env = (false, eval a X.env) :: starEach [.Name x p2] X.env := by rfl) (hpl : (backTo pos (starEach [.Name x p2] X.env)).any (·.1) = false := by rfl) :
    PE X (.Call (.Name "isinstance" p) [a, .Name x p2] [] pos) (lE X.K W (dUn (oIs T) ta)) :=
  (pe_callB call_isi hg hm (by decide +kernel) (pa_cons ha (pa_cons (pe_bltn (v := .ty T) hgx hmx hvx rfl hnx hdx) pa_nil h2) he) (by decide) (by decide) he hpl).imp fun σ H Q h => by
    refine lE_un (X := X) (W := W) (s := fun v H Q => rIsi X.K [v, .ty T] H Q) ?_ h
    intro z H0 G0 G H ρ σ x v Qd Q so rx h q
    unfold oIs at h
    split at h
    · rename_i d
      exact ⟨v, .ty T, _, _, _, rfl, .ty T, ty_of (Rp.mono so.ok.sub rx), kit_ty (kit_d hT d), same_d so (.bl _) h q⟩
    · exact h.elim
theorem de_is2 (hT : okT T = true) (hU : okT U = true) (hg : Gl X "isinstance") (hm : X.mg "isinstance" = none) (hgx : Gl X x) (hmx : X.mg x = none) (hvx : bootBuiltins x = some (.type T)) (hgy : Gl X y) (hmy : X.mg y = none) (hvy : bootBuiltins y = some (.type U)) (ha : PE X a (lE X.K W ta))
    (hnx : x ≠ "__name__" := by decide) (hdx : (x == ("__debug__" : Str)) = false := by decide) (hny : y ≠ "__name__" := by decide) (hdy : (y == ("__debug__" : Str)) = false := by decide)
    (t1 : starEach [.Name y p3] X.env = (false, eval (.Name y p3) X.env) :: starEach [] X.env := by rfl) (t2 : starEach [.Name x p2, .Name y p3] X.env = (false, eval (.Name x p2) X.env) :: starEach [.Name y p3] X.env := by rfl)
    (h2 : starEach [.Tuple [.Name x p2, .Name y p3] k p4] X.env = (false, eval (.Tuple [.Name x p2, .Name y p3] k p4) X.env) :: starEach [] X.env := by rfl)
    (he : starEach [a, .Tuple [.Name x p2, .Name y p3] k p4] X.env = (false, eval a X.env) :: starEach [.Tuple [.Name x p2, .Name y p3] k p4] X.env := by rfl) (hpl : (backTo pos (starEach [.Tuple [.Name x p2, .Name y p3] k p4] X.env)).any (·.1) = false := by rfl) :
    PE X (.Call (.Name "isinstance" p) [a, .Tuple [.Name x p2, .Name y p3] k p4] [] pos) (lE X.K W (dUn (oIs2 T U) ta)) :=
  (pe_callB call_isiT hg hm (by decide +kernel) (pa_cons ha (pa_cons (pe_tup (pa_cons (pe_bltn (v := .ty T) hgx hmx hvx rfl hnx hdx) (pa_cons (pe_bltn (v := .ty U) hgy hmy hvy rfl hny hdy) pa_nil t1) t2)) pa_nil h2) he) (by decide) (by decide) he hpl).imp fun σ H Q h => by
    obtain ⟨z, H0, G0, G, ρ, Wd, Qd, so, h, q, w⟩ := h
    refine ⟨z, H0, G0, G, ρ, Wd, _, so, h, fun x hx v G1 H1 e1 so1 r1 => ?_, w⟩
    unfold oIs2 at hx
    split at hx
    · rename_i d
      refine ⟨by show 2 ≤ sizeLine; decide, fun tp htp => ?_⟩
      have so2 := so1.new (o := .tup [.ty T, .ty U]) htp
      have rv : Rp X.K G1 v d := r1
      have ex2 : Go z G1 H1 (upd G1 tp (.tup [.ty T, .ty U])) (upd H1 tp (.tup [.ty T, .ty U])) := Go.new (so1.ok.sub.free htp) htp
      refine ⟨v, tp, [.ty T, .ty U], .type (tyD d), [.type T, .type U], isT T d || isT U d, rfl, upd_same, .cons (.ty T) (.cons (.ty U) .nil), ty_of (Rp.mono so2.ok.sub (Rp.mono ex2.ex rv)), ?_, q _ hx _ _ _ (e1.trans ex2) so2 (.bl _)⟩
      refine kitAny_cons (kit_ty (kit_d hT d)) (fun e => ?_) (fun e => by rw [e, Bool.true_or])
      refine kitAny_cons (kit_ty (kit_d hU d)) (fun e2 => ?_) (fun e2 => by rw [e2, Bool.or_true])
      rw [e, e2]
      rfl
    · exact hx.elim
end
end DL

set_option Elab.async false
set_option linter.all false
set_option maxRecDepth 100000
set_option maxHeartbeats 2000000
namespace DL
open PySem PySem.Spec PyProof.Rows L2

/-! ### subscripts -/
@[irreducible] def oIx : DV → DV → (DV → Prop) → Prop
  | .d (.list ds), .d (.int i), Q => match atI ds i with
    | some x => Q (.d x)
    | none => False
  | .d (.tuple ds), .d (.int i), Q => match atI ds i with
    | some x => Q (.d x)
    | none => False
  | .own ds, .d (.int i), Q => match atI ds i with
    | some x => Q (.d x)
    | none => False
  | .d (.str s), .d (.int i), Q => s.length ≤ sizeLine ∧ match atI s.cps.toList i with
    | some c => Q (.d (.str ⟨#[c]⟩))
    | none => False
  | _, _, _ => False
theorem rps_at {K : PySem.W.Frag} {G : Hp} {vs : List V} {ds : List D} {i : Int} {d : D} (r : Rps K G vs ds) (h : atI ds i = some d) : ∃ v, atI vs i = some v ∧ Rp K G v d := by
  unfold atI at h ⊢
  rw [r.length]
  cases e : ixN ds.length i with
  | none => rw [e] at h; cases h
  | some j =>
    rw [e] at h
    exact r.get h
theorem op2Ix {K : PySem.W.Frag} : Op2 K oIx (rIx K) := by
  intro z H0 G0 G H ρ σ x y v w Qd Q so rx ry h q
  unfold oIx at h
  split at h
  · obtain ⟨a, xs, rfl, h1, r1⟩ := rp_list rx
    obtain rfl := rp_int ry
    split at h
    · rename_i d e
      obtain ⟨v, ev, rv⟩ := rps_at r1 e
      exact .inl ⟨a, xs, _, v, rfl, rfl, .inl (so.ok.sub.rd h1), ev, same_d so rv h q⟩
    · exact h.elim
  · obtain ⟨a, xs, rfl, h1, r1⟩ := rp_tuple rx
    obtain rfl := rp_int ry
    split at h
    · rename_i d e
      obtain ⟨v, ev, rv⟩ := rps_at r1 e
      exact .inr (.inl ⟨a, xs, _, v, rfl, rfl, so.ok.sub.sqT h1, ev, same_d so rv h q⟩)
    · exact h.elim
  · obtain ⟨a, xs, rfl, h1, _, _, _, r1⟩ := rx
    obtain rfl := rp_int ry
    split at h
    · rename_i d e
      obtain ⟨v, ev, rv⟩ := rps_at r1 e
      exact .inl ⟨a, xs, _, v, rfl, rfl, SqL.of h1, ev, same_d so rv h q⟩
    · exact h.elim
  · obtain rfl := rp_str rx
    obtain rfl := rp_int ry
    obtain ⟨hz, h⟩ := h
    split at h
    · rename_i c e
      exact .inr (.inr ⟨_, _, c, rfl, rfl, hz, e, same_d so (.str _) h q⟩)
    · exact h.elim
  · exact h.elim
section
variable {X : Cx} {W : WX} {a b : Expr} {ta tb : DE} {pos : Pos}
theorem de_ix (ha : PE X a (lE X.K W ta)) (hb : PE X b (lE X.K W tb)) (hs : PlainIx b := by exact fun _ _ => rfl) : PE X (.Subscript a b pos) (lE X.K W (dOp oIx ta tb)) := (pe_ix ix_seq ha hb hs).imp fun σ H Q h => lE_op op2Ix h
end
/-! ### a dict read by text keys -/
def keyIsD : D → D → Bool
  | .str a, .str b => decide (a = b)
  | .int a, .int b => decide (a = b)
  | _, _ => false
def look (kvs : List (D × D)) (k : D) : Option D := (kvs.find? fun kv => keyIsD kv.1 k).map (·.2)
theorem keyIs_D (a b : Key) : keyIsD (keyD a) (keyD b) = decide (a = b) := by
  cases a <;> cases b <;> simp [keyIsD, keyD]
theorem look_rp {K : PySem.W.Frag} {G : Hp} {k : Key} : ∀ {kvs : List (Key × V)} {ds : List (D × D)}, RpKv K G kvs ds → (look ds (keyD k) = none ∧ valV kvs k = none) ∨ ∃ d v, look ds (keyD k) = some d ∧ valV kvs k = some v ∧ Rp K G v d
  | _, _, .nil => .inl ⟨rfl, rfl⟩
  | _, _, .cons (k := k') (v := v) (vs := vs) (d := d) (ds := ds) r h => by
    by_cases e : k' = k
    · subst e
      refine .inr ⟨d, v, ?_, valV_pos rfl, r⟩
      unfold look
      rw [List.find?_cons, keyIs_D, decide_eq_true rfl] <;> rfl
    · have e1 : look ((keyD k', d) :: ds) (keyD k) = look ds (keyD k) := by
        unfold look
        rw [List.find?_cons, keyIs_D, decide_eq_false e]
      have e2 : valV ((k', v) :: vs) k = valV vs k := valV_neg e
      rw [e1, e2]
      exact look_rp h
def asKey : D → Option Key
  | .int i => some (.inl i)
  | .str x => some (.inr x)
  | _ => none
theorem asKey_v {K : PySem.W.Frag} {G : Hp} {v : V} {d : D} {k : Key} (r : Rp K G v d) (h : asKey d = some k) : v = kV k ∧ d = keyD k := by
  cases d with
  | int i => cases h; exact ⟨rp_int r, rfl⟩
  | str x => cases h; exact ⟨rp_str r, rfl⟩
  | _ => cases h
@[irreducible] def oGet : DV → DV → (DV → Prop) → Prop
  | .d (.dict kvs), .d k, Q => (asKey k).isSome = true ∧ match look kvs k with
    | some x => Q (.d x)
    | none => False
  | _, _, _ => False
theorem oGet_n : ∀ x y Q, oGet x y Q → nown x := fun x y Q h => by
  unfold oGet at h
  split at h <;> first | exact nown_d | exact h.elim
theorem op2Get {K : PySem.W.Frag} : Op2 K oGet (fun x y H Q => ∃ a v, x = .ref a ∧ DGet H a y (some v) ∧ Q v H) := by
  intro z H0 G0 G H ρ σ x y v w Qd Q so rx ry h q
  unfold oGet at h
  split at h
  · rename_i kvs k
    obtain ⟨a, ks, rfl, h1, r1⟩ := rp_dict rx
    obtain ⟨h2, h⟩ := h
    obtain ⟨k', hk⟩ := Option.isSome_iff_exists.mp h2
    obtain ⟨rfl, rfl⟩ := asKey_v ry hk
    split at h
    · rename_i d e
      rcases look_rp (k := k') r1 with ⟨e1, _⟩ | ⟨d', v', e1, e2, r⟩
      · rw [e1] at e; cases e
      · rw [e1] at e
        cases e
        exact ⟨a, v', rfl, .inl ⟨ks, k', so.ok.sub.rd h1, rfl, e2.symm⟩, same_d so r h q⟩
    · exact h.elim
  · exact h.elim
@[irreducible] def oInK (neg : Bool) : DV → DV → (DV → Prop) → Prop
  | .d k, .d (.dict kvs), Q => (asKey k).isSome = true ∧ Q (.d (.bool (ng neg (look kvs k).isSome)))
  | _, _, _ => False
section
variable {X : Cx} {W : WX} {a b : Expr} {ta tb : DE} {pos : Pos}
theorem de_get (hu : X.A.units + 1 < cLine) (ha : PE X a (lE X.K W ta)) (hb : PE X b (lE X.K W tb)) (hs : NoSl b := by exact fun _ _ => rfl) : PE X (.Subscript a b pos) (lE X.K W (dOp oGet ta tb)) := (pe_dget hu ha hb hs).imp fun σ H Q h => lE_op op2Get h
theorem lE_inK {neg : Bool} {σ : L2.St} {H : Hp} {Q : VK} (h : lE X.K W (dOp (oInK neg) ta tb) σ H Q) :
    lE X.K W ta σ H fun y H1 => lE X.K W tb σ H1 fun x H2 => ∃ a o, x = .ref a ∧ DGet H2 a y o ∧ Q (.bl (ng neg o.isSome)) H2 := by
  refine lE_op (s := fun y x H Q => ∃ a o, x = .ref a ∧ DGet H a y o ∧ Q (.bl (ng neg o.isSome)) H) ?_ h
  · intro z H0 G0 G H ρ σ x y v w Qd Q so rx ry h q
    unfold oInK at h
    split at h
    · rename_i k kvs
      obtain ⟨a, ks, rfl, h1, r1⟩ := rp_dict ry
      obtain ⟨h2, h⟩ := h
      obtain ⟨k', hk⟩ := Option.isSome_iff_exists.mp h2
      obtain ⟨rfl, rfl⟩ := asKey_v rx hk
      rcases look_rp (k := k') r1 with ⟨e1, e2⟩ | ⟨d', v', e1, e2, r⟩
      · rw [e1] at h
        exact ⟨a, none, rfl, .inl ⟨ks, k', so.ok.sub.rd h1, rfl, e2.symm⟩, same_d so (.bl _) h q⟩
      · rw [e1] at h
        exact ⟨a, some v', rfl, .inl ⟨ks, k', so.ok.sub.rd h1, rfl, e2.symm⟩, same_d so (.bl _) h q⟩
    · exact h.elim
theorem de_inK (hu : X.A.units + 1 < cLine) (ha : PE X a (lE X.K W ta)) (hb : PE X b (lE X.K W tb)) (hm : behindInMarks .In b = false := by with_unfolding_all rfl) : PE X (.Compare a [.In] [b] pos) (lE X.K W (dOp (oInK false) ta tb)) :=
  (pe_cmp (pc_din hu ha hb) hm).imp fun σ H Q h => by
    have := lE_inK h
    simp only [bne_false] at this
    exact this
theorem de_notinK (hu : X.A.units + 1 < cLine) (ha : PE X a (lE X.K W ta)) (hb : PE X b (lE X.K W tb)) (hm : behindInMarks .NotIn b = false := by with_unfolding_all rfl) : PE X (.Compare a [.NotIn] [b] pos) (lE X.K W (dOp (oInK true) ta tb)) :=
  (pe_cmp (pc_dnotin hu ha hb) hm).imp fun σ H Q h => by
    have := lE_inK h
    simp only [bne_true] at this
    exact this
end
/-! ### slices -/
def cutD (xs : List D) (lo hi : Option Int) : List D := (xs.drop (HT.sIx xs.length 0 lo)).take (HT.sIx xs.length xs.length hi - HT.sIx xs.length 0 lo)
theorem rps_cut {K : PySem.W.Frag} {G : Hp} {vs : List V} {ds : List D} (r : Rps K G vs ds) (lo hi : Option Int) : Rps K G (cutV vs lo hi) (cutD ds lo hi) := by
  unfold cutV cutD
  rw [r.length]
  exact (r.drop _).take _
abbrev DO := DW → Ro → (Option Int → Prop) → Prop
def lO (K : PySem.W.Frag) (W : WX) (t : DO) : TO := fun σ H Q => ∃ z H0 G0 G ρ Wd, ∃ Qd : Option Int → Prop, SO K z H0 G0 ρ σ G H ∧ t Wd ρ Qd ∧
  (∀ x, Qd x → ∀ G' H', Go z G H G' H' → SO K z H0 G0 ρ σ G' H' → Q x H') ∧ Wh K z H0 G0 W G Wd
def dNoPart : DO := fun _ _ Q => Q none
def dPart (t : DE) : DO := fun Wd ρ Q => t Wd ρ fun x => match x with
  | .d (.int i) => Q (some i)
  | _ => False
def oSl : DV → Option Int → Option Int → (DV → Prop) → Prop
  | .d (.list ds), lo, hi, Q => Q (.d (.list (cutD ds lo hi)))
  | .own ds, lo, hi, Q => Q (.d (.list (cutD ds lo hi)))
  | .d (.tuple ds), lo, hi, Q => Q (.d (.tuple (cutD ds lo hi)))
  | .d (.str s), lo, hi, Q => s.length ≤ sizeLine ∧ Q (.d (.str (cutS s lo hi)))
  | _, _, _, _ => False
def dSl (te : DE) (lo hi : DO) : DE := fun Wd ρ Q => te Wd ρ fun x => lo Wd ρ fun l => hi Wd ρ fun u => oSl x l u Q
def rSlAny (K : PySem.W.Frag) : V → Option Int → Option Int → Hp → VK → Prop := fun x lo hi H Q => rSlL K x lo hi H Q ∨ rSlA K x lo hi H Q ∨ rSlS x lo hi H Q
section
variable {X : Cx} {W : WX} {e : Expr} {te : DE} {pos p2 : Pos}
theorem do_none : PO X none (lO X.K W dNoPart) := ⟨fun pins s σ H Q I h => po_none.run pins s σ H Q I (by
  obtain ⟨z, H0, G0, G, ρ, Wd, Qd, so, h, q, w⟩ := h
  exact q _ h G H (Go.refl z G H) so)⟩
theorem do_some (he : PE X e (lE X.K W te)) : PO X (some e) (lO X.K W (dPart te)) := ⟨fun pins s σ H Q I h => (po_some he).run pins s σ H Q I (by
  obtain ⟨z, H0, G0, G, ρ, Wd, Qd, so, h, q, w⟩ := h
  refine ⟨z, H0, G0, G, ρ, Wd, _, so, h, fun x hx v G1 H1 e1 so1 r1 => ?_, w⟩
  split at hx
  · obtain rfl := rp_int r1
    exact ⟨_, rfl, q _ hx G1 H1 e1 so1⟩
  · exact hx.elim)⟩
theorem de_sl {lo hi : Option Expr} {tl th : DO} (he : PE X e (lE X.K W te)) (hl : PO X lo (lO X.K W tl)) (hh : PO X hi (lO X.K W th)) : PE X (.Subscript e (.Slice lo hi none p2) pos) (lE X.K W (dSl te tl th)) :=
  (pe_slice (r := rSlAny X.K) (sl_list.or (sl_tupA.or sl_str)) he hl hh).imp fun σ H Q h => by
    obtain ⟨z, H0, G0, G, ρ, Wd, Qd, so, h, q, w⟩ := h
    refine ⟨z, H0, G0, G, ρ, Wd, _, so, h, fun x hx v G1 H1 e1 so1 r1 => ?_, w⟩
    refine ⟨z, H0, G0, G1, ρ, Wd, _, so1, hx, fun l hl G2 H2 e2 so2 => ?_, w.mono e1.ex⟩
    refine ⟨z, H0, G0, G2, ρ, Wd, _, so2, hl, fun u hu G3 H3 e3 so3 => ?_, w.mono (e1.trans e2).ex⟩
    have r3 := r1.go (e2.trans e3)
    have q3 : ∀ y, Qd y → ∀ u G' H', Go z G3 H3 G' H' → SO X.K z H0 G0 ρ σ G' H' → RV X.K z H0 G' H' u y → Q u H' := fun y hy u G' H' e so' r' => q y hy u G' H' (e1.trans (e2.trans (e3.trans e))) so' r'
    unfold oSl at hu
    split at hu
    · obtain ⟨a, xs, rfl, h1, r⟩ := rp_list r3
      exact .inl ⟨a, xs, rfl, .inl (so3.ok.sub.rd h1), fun p hp => new_lst so3 (rps_cut r l u) hu q3 hp⟩
    · obtain ⟨a, xs, rfl, h1, _, _, _, r⟩ := r3
      exact .inl ⟨a, xs, rfl, SqL.of h1, fun p hp => new_lst so3 (rps_cut r l u) hu q3 hp⟩
    · rename_i ds
      obtain ⟨a, xs, rfl, h1, r⟩ := rp_tuple r3
      refine .inr (.inl ⟨a, xs, rfl, so3.ok.sub.sqT h1, fun hw => ?_, fun hw p hp => new_tup so3 (rps_cut r l u) hu q3 hp⟩)
      have e4 : cutD ds l u = ds := by
        unfold cutD
        rw [← r.length, hw.1, hw.2, List.drop_zero, Nat.sub_zero, r.length, List.take_length]
      rw [e4] at hu
      exact same_d so3 r3 hu q3
    · obtain rfl := rp_str r3
      exact .inr (.inr ⟨_, rfl, hu.1, same_d so3 (.str _) hu.2 q3⟩)
    · exact hu.elim
end
/-! ### displays -/
/-- all are data -/
def asD : List DV → Option (List D)
  | [] => some []
  | .d x :: r => (asD r).map (x :: ·)
  | _ :: _ => none
theorem asD_rps {K : PySem.W.Frag} {z : Zn} {H0 G H : Hp} : ∀ {vs : List V} {xs : List DV} {ds : List D}, RVs K z H0 G H vs xs → asD xs = some ds → Rps K G vs ds
  | _, _, ds, .nil, e => by
    cases e
    exact .nil
  | _, x :: xs, ds, .cons r n h, e => by
    cases x with
    | d y =>
      have e' : (asD xs).map (y :: ·) = some ds := e
      cases q : asD xs with
      | none => rw [q] at e'; cases e'
      | some es =>
        rw [q] at e'
        cases e'
        exact .cons r (asD_rps h q)
    | _ => cases e
def oDisp (f : List D → D) (xs : List DV) (Q : DV → Prop) : Prop := match asD xs with
  | some ds => ds.length ≤ 1000 ∧ Q (.d (f ds))
  | none => False
def dLst (t : DA) : DE := fun Wd ρ Q => t Wd ρ fun xs => oDisp .list xs Q
def dTup (t : DA) : DE := fun Wd ρ Q => t Wd ρ fun xs => oDisp .tuple xs Q
section
variable {X : Cx} {W : WX} {es : List Expr} {t : DA} {pos : Pos} {k : Nat}
theorem de_lst (h : PA X es (lA X.K W t)) : PE X (.List es pos) (lE X.K W (dLst t)) := (pe_lst h).imp fun σ H Q h => by
  obtain ⟨z, H0, G0, G, ρ, Wd, Qd, so, h, q, w⟩ := h
  refine ⟨z, H0, G0, G, ρ, Wd, _, so, h, fun xs hx vs G1 H1 e1 so1 r1 => ?_, w⟩
  unfold oDisp at hx
  split at hx
  · rename_i ds e
    have r := asD_rps r1 e
    refine ⟨?_, fun p hp => new_lst so1 r hx.2 (fun y hy u G' H' e so' r' => q y hy u G' H' (e1.trans e) so' r') hp⟩
    rw [r.length]
    exact Nat.le_of_lt (small1000 hx.1)
  · exact hx.elim
theorem de_tup (h : PA X es (lA X.K W t)) : PE X (.Tuple es k pos) (lE X.K W (dTup t)) := (pe_tup h).imp fun σ H Q h => by
  obtain ⟨z, H0, G0, G, ρ, Wd, Qd, so, h, q, w⟩ := h
  refine ⟨z, H0, G0, G, ρ, Wd, _, so, h, fun xs hx vs G1 H1 e1 so1 r1 => ?_, w⟩
  unfold oDisp at hx
  split at hx
  · rename_i ds e
    have r := asD_rps r1 e
    refine ⟨?_, fun p hp => new_tup so1 r hx.2 (fun y hy u G' H' e so' r' => q y hy u G' H' (e1.trans e) so' r') hp⟩
    rw [r.length]
    exact Nat.le_of_lt (small1000 hx.1)
  · exact hx.elim
end
/-! ### a dict written with text keys -/
theorem rpkv_put {K : PySem.W.Frag} {G : Hp} {k : Key} {v : V} {d : D} (r : Rp K G v d) : ∀ {kvs : List (Key × V)} {ds : List (D × D)}, RpKv K G kvs ds →
    RpKv K G (kvs.map fun kv => if kv.1 = k then (kv.1, v) else kv) (ds.map fun kv => if keyIsD kv.1 (keyD k) = true then (kv.1, d) else kv)
  | _, _, .nil => .nil
  | _, _, .cons (k := k') (v := v') (d := d') r' h => by
    rw [List.map_cons, List.map_cons, keyIs_D]
    by_cases e : k' = k
    · rw [if_pos (show (k', v').1 = k from e), decide_eq_true e, if_pos rfl]
      exact .cons r (rpkv_put r h)
    · rw [if_neg (show ¬ (k', v').1 = k from e), decide_eq_false e, if_neg Bool.false_ne_true]
      exact .cons r' (rpkv_put r h)
theorem rpkv_app {K : PySem.W.Frag} {G : Hp} : ∀ {kvs ls : List (Key × V)} {ds es : List (D × D)}, RpKv K G kvs ds → RpKv K G ls es → RpKv K G (kvs ++ ls) (ds ++ es)
  | _, _, _, _, .nil, h => h
  | _, _, _, _, .cons r t, h => .cons r (rpkv_app t h)
def putD (kvs : List (D × D)) (k v : D) : List (D × D) :=
  if (kvs.any fun kv => keyIsD kv.1 k) = true then kvs.map (fun kv => if keyIsD kv.1 k = true then (kv.1, v) else kv) else kvs ++ [(k, v)]
theorem any_rpkv {K : PySem.W.Frag} {G : Hp} {k : Key} : ∀ {kvs : List (Key × V)} {ds : List (D × D)}, RpKv K G kvs ds → (ds.any fun kv => keyIsD kv.1 (keyD k)) = kvs.any fun kv => decide (kv.1 = k)
  | _, _, .nil => rfl
  | _, _, .cons (k := k') r h => by
    rw [List.any_cons, List.any_cons, any_rpkv h, keyIs_D]
theorem rpkv_putD {K : PySem.W.Frag} {G : Hp} {k : Key} {v : V} {d : D} (r : Rp K G v d) {kvs : List (Key × V)} {ds : List (D × D)} (h : RpKv K G kvs ds) : RpKv K G (putK kvs k v) (putD ds (keyD k) d) := by
  unfold putK putD
  rw [any_rpkv h]
  split
  · exact rpkv_put r h
  · exact rpkv_app h (.cons r .nil)
theorem RpKv.mono' {K : PySem.W.Frag} {H H' : Hp} (e : Ex H H') {kvs : List (Key × V)} {ds : List (D × D)} (h : RpKv K H kvs ds) : RpKv K H' kvs ds := RpKv.mono e h
/-- the pairs, from the left: written text keys, values -/
def dPairs : List (Key × DE) → DW → Ro → (List (Key × D) → Prop) → Prop
  | [], _, _, Q => Q []
  | (k, t) :: r, Wd, ρ, Q => t Wd ρ fun x => match x with
    | .d d => dPairs r Wd ρ fun ps => Q ((k, d) :: ps)
    | _ => False
def mkD : List (Key × D) → List (D × D) := fun ps => ps.foldl (fun acc p => putD acc (keyD p.1) p.2) []
def dDict (ps : List (Key × DE)) : DE := fun Wd ρ Q => dPairs ps Wd ρ fun xs => Q (.d (.dict (mkD xs)))

inductive PR (K : PySem.W.Frag) (G : Hp) : List (V × V) → List (Key × D) → Prop
  | nil : PR K G [] []
  | cons {k : Key} {v : V} {d : D} {vs : List (V × V)} {ds : List (Key × D)} : Rp K G v d → PR K G vs ds → PR K G ((kV k, v) :: vs) ((k, d) :: ds)
theorem PR.length {K : PySem.W.Frag} {G : Hp} : ∀ {vs : List (V × V)} {ds : List (Key × D)}, PR K G vs ds → vs.length = ds.length
  | _, _, .nil => rfl
  | _, _, .cons _ h => congrArg (· + 1) h.length
theorem PR.keys {K : PySem.W.Frag} {G : Hp} : ∀ {vs : List (V × V)} {ds : List (Key × D)}, PR K G vs ds → ∀ {ks : List (Key × V)} {es : List (D × D)}, RpKv K G ks es →
    ∃ kvs : List (Key × V), vs = kvs.map (fun kv => (kV kv.1, kv.2)) ∧ RpKv K G (kvs.foldl (fun acc kv => putK acc kv.1 kv.2) ks) (ds.foldl (fun acc p => putD acc (keyD p.1) p.2) es)
  | _, _, .nil, ks, es, h => ⟨[], rfl, h⟩
  | _, _, .cons (k := k) (v := v) (d := d) r t, ks, es, h => by
    obtain ⟨kvs, e, q⟩ := t.keys (rpkv_putD (k := k) r h)
    exact ⟨(k, v) :: kvs, by rw [e] <;> rfl, q⟩
def trsOf (K : PySem.W.Frag) (W : WX) (ps : List (Key × DE)) : List (TE × TE) := ps.map fun p => (tC (kV p.1), lE K W p.2)
theorem pairs_ok {K : PySem.W.Frag} {W : WX} : ∀ (ps : List (Key × DE)) {z : Zn} {H0 G0 G H : Hp} {ρ : Ro} {σ : L2.St} {Wd : DW} {Qd : List (Key × D) → Prop} {R : List (V × V) → Hp → Prop}, SO K z H0 G0 ρ σ G H → dPairs ps Wd ρ Qd → Wh K z H0 G0 W G Wd →
    (∀ xs, Qd xs → xs.length = ps.length → ∀ vs G' H', Go z G H G' H' → SO K z H0 G0 ρ σ G' H' → PR K G' vs xs → R vs H') → tPairs (trsOf K W ps) σ H R
  | [], z, H0, G0, G, H, ρ, σ, Wd, Qd, R, so, h, w, k => k [] h rfl [] G H (Go.refl z G H) so .nil
  | (k, t) :: r, z, H0, G0, G, H, ρ, σ, Wd, Qd, R, so, h, w, kk => by
    show lE K W t σ H fun y H2 => tPairs (trsOf K W r) σ H2 fun ps H3 => R ((kV k, y) :: ps) H3
    refine ⟨z, H0, G0, G, ρ, Wd, _, so, h, fun x hx v G1 H1 e1 so1 r1 => ?_, w⟩
    split at hx
    · rename_i d
      refine pairs_ok r so1 hx (w.mono e1.ex) fun xs hq hl vs G2 H2 e2 so2 pr => ?_
      exact kk _ hq (by rw [List.length_cons, List.length_cons, hl]) _ G2 H2 (e1.trans e2) so2 (.cons (Rp.mono e2.ex r1) pr)
    · exact hx.elim
/-- {'a': e, ..} -/
structure DPs (X : Cx) (W : WX) (pos : Pos) (keys : List (Option Expr)) (values : List Expr) (ps : List (Key × DE)) : Prop where
  pp : PPs X pos keys values (trsOf X.K W ps)
  len : keys.length = ps.length
  vls : values.length = ps.length
  some : keys.all (·.isSome) = true
section
variable {X : Cx} {W : WX} {pos : Pos}
theorem dp_nil : DPs X W pos [] [] [] := ⟨pps_nil, rfl, rfl, rfl⟩
theorem dp_cons {x : Str} {j : Nat} {p2 : Pos} {v : Expr} {ks : List (Option Expr)} {vs : List Expr} {t : DE} {ps : List (Key × DE)} (hv : PE X v (lE X.K W t)) (h : DPs X W pos ks vs ps) : DPs X W pos (some (.Constant (.str x) j p2) :: ks) (v :: vs) ((.inr x, t) :: ps) :=
  ⟨pps_cons pe_str hv h.pp, congrArg (· + 1) h.len, congrArg (· + 1) h.vls, by rw [List.all_cons, h.some] <;> rfl⟩
theorem dp_consI {i : Int} {j : Nat} {p2 : Pos} {v : Expr} {ks : List (Option Expr)} {vs : List Expr} {t : DE} {ps : List (Key × DE)} (hv : PE X v (lE X.K W t)) (h : DPs X W pos ks vs ps) : DPs X W pos (some (.Constant (.int i) j p2) :: ks) (v :: vs) ((.inl i, t) :: ps) :=
  ⟨pps_cons pe_int hv h.pp, congrArg (· + 1) h.len, congrArg (· + 1) h.vls, by rw [List.all_cons, h.some] <;> rfl⟩
theorem de_dict {keys : List (Option Expr)} {values : List Expr} {ps : List (Key × DE)} (h : DPs X W pos keys values ps) (h0 : ps ≠ [] := by exact List.cons_ne_nil _ _) (h15 : ps.length ≤ 15 := by decide) : PE X (.Dict keys values pos) (lE X.K W (dDict ps)) :=
  (pe_disp h.pp h.some (h.len.trans h.vls.symm) (fun e => h0 (List.length_eq_zero_iff.mp (by rw [← h.len, e] <;> rfl))) (by rw [h.len]; exact h15)).imp fun σ H Q hq => by
    obtain ⟨z, H0, G0, G, ρ, Wd, Qd, so, hd, q, w⟩ := hq
    intro p hp
    have so1 := so.newOwn (o := .dK []) hp
    have gp : G p = none := so.ok.sub.free hp
    have nF : ¬ z.F p := fun hF => by
      obtain ⟨u, hu⟩ := Zn.F_alloc so.ok hF
      rw [hp] at hu
      cases hu
    refine pairs_ok ps so1 hd w fun xs hq hl vs G2 H2 e2 so2 pr => ?_
    have hp2 : H2 p = some (.dK []) := e2.kp p _ nF upd_same
    have gp2 : G2 p = none := e2.nw p _ nF upd_same gp
    refine ⟨hp2, ?_⟩
    obtain ⟨kvs, e, rk⟩ := pr.keys (.nil)
    refine ⟨kvs, e, ?_, ?_⟩
    · have l1 := pr.length
      rw [e, List.length_map, hl] at l1
      rw [l1]
      exact h15
    · have h0p : H0 p = none := by
        cases e0 : H0 p with
        | none => rfl
        | some o =>
          rw [so.ok.keep p o nF e0] at hp
          cases hp
      have nFa : ∀ a, z.F a → a ≠ p := fun a ha e => nF (e ▸ ha)
      have ex : Ex G2 (upd G2 p (.dK (mergeK [] kvs))) := Ex.new gp2
      have so3 : SO X.K z H0 G0 ρ σ (upd G2 p (.dK (mergeK [] kvs))) (upd H2 p (.dK (mergeK [] kvs))) := by
        refine ⟨⟨fun a u ea => ?_, fun t ht => (so2.ok.bag t ht).same fun a ha => upd_ne (nFa a (.inl ⟨t, ht, ha⟩)), fun r hr => ?_, fun a ha => ?_, fun a u n ea => ?_, fun a u ea e0 => ?_, so2.ok.grow.trans ex⟩, so2.len, fun i x ei => ?_, so2.apart⟩
        · by_cases hpa : a = p
          · subst hpa
            rw [upd_same] at ea ⊢
            exact ea
          · rw [upd_ne hpa] at ea ⊢
            exact so2.ok.sub a u ea
        · obtain ⟨n, er⟩ := so2.ok.room r hr
          exact ⟨n, by rw [upd_ne (nFa r (.inr hr))]; exact er⟩
        · rw [upd_ne (nFa a ha)]
          exact so2.ok.dis a ha
        · have hne : a ≠ p := fun z => by
            subst z
            rw [h0p] at ea
            cases ea
          rw [upd_ne hne]
          exact so2.ok.keep a u n ea
        · have hne : a ≠ p := fun z => by
            subst z
            rw [h0p] at ea
            cases ea
          rw [upd_ne hne]
          exact so2.ok.old a u ea e0
        · obtain ⟨v, e1, r⟩ := so2.slot i x ei
          refine ⟨v, e1, ?_⟩
          cases x with
          | own ys =>
            obtain ⟨q', us, rfl, g1, g2, g3, g4, g5⟩ := r
            have hne : q' ≠ p := fun z => by
              subst z
              rw [hp2] at g1
              cases g1
            exact ⟨q', us, rfl, by rw [upd_ne hne]; exact g1, by rw [upd_ne hne]; exact g2, g3, g4, Rps.mono ex g5⟩
          | _ => exact RV.mono ex r (fun _ z => nomatch z)
      refine q _ hq (.ref p) _ _ ⟨e2.ex.trans ex, fun a u n ea => ?_, fun a u n ea ga => ?_⟩ so3 (Rp.dic (.inl upd_same) (RpKv.mono ex rk))
      · have hne : a ≠ p := ne_of_none ea hp
        rw [upd_ne hne]
        exact e2.kp a u n (by rw [upd_ne hne]; exact ea)
      · have hne : a ≠ p := ne_of_none ea hp
        rw [upd_ne hne]
        exact e2.nw a u n (by rw [upd_ne hne]; exact ea) ga
theorem de_dnew : PE X (.Dict [] [] pos) (lE X.K W (dC (.dict []))) := pe_dnewK.imp fun σ H Q h => by
  obtain ⟨z, H0, G0, G, ρ, Wd, Qd, so, h, q, w⟩ := h
  intro p hp
  exact q _ h _ _ _ (Go.new (so.ok.sub.free hp) hp) (so.new hp) (Rp.dic (.inl upd_same) .nil)
end
end DL

set_option Elab.async false
set_option linter.all false
set_option maxRecDepth 100000
set_option maxHeartbeats 2000000
namespace DL
open PySem PySem.Spec PyProof.Rows L2

/-! ### an object of one's own that stands in no slot -/
structure Lone (z : Zn) (H0 : Hp) (ρ : Ro) (σ : L2.St) (G H : Hp) (p : Addr) : Prop where
  g : G p = none
  f : ¬ z.F p
  h0 : H0 p = none
  no : ∀ (i : Nat) (xs : List D), ρ[i]? = some (some (.own xs)) → σ[i]? ≠ some (some (.ref p))
section
variable {K : PySem.W.Frag} {z : Zn} {H0 G0 G H : Hp} {ρ : Ro} {σ : L2.St} {p : Addr} {o : HO}
theorem SO.free (so : SO K z H0 G0 ρ σ G H) (hp : H p = none) : Lone z H0 ρ σ G H p := by
  have nF : ¬ z.F p := fun hF => by
    obtain ⟨u, hu⟩ := Zn.F_alloc so.ok hF
    rw [hp] at hu
    cases hu
  refine ⟨so.ok.sub.free hp, nF, ?_, fun i xs e e2 => ?_⟩
  · cases e0 : H0 p with
    | none => rfl
    | some o =>
      rw [so.ok.keep p o nF e0] at hp
      cases hp
  · obtain ⟨v, e1, q, vs, rfl, h1, _⟩ := so.slot i _ e
    rw [e2] at e1
    cases e1
    rw [hp] at h1
    cases h1
theorem Lone.heap {H' : Hp} (l : Lone z H0 ρ σ G H p) : Lone z H0 ρ σ G H' p := ⟨l.g, l.f, l.h0, l.no⟩
theorem Lone.go {H' G' : Hp} (l : Lone z H0 ρ σ G H p) (hp : H p = some o) (e : Go z G H G' H') : Lone z H0 ρ σ G' H' p ∧ H' p = some o :=
  ⟨⟨e.nw p o l.f hp l.g, l.f, l.h0, l.no⟩, e.kp p o l.f hp⟩
/-- it is written -/
theorem SO.putAt (so : SO K z H0 G0 ρ σ G H) (l : Lone z H0 ρ σ G H p) : SO K z H0 G0 ρ σ G (upd H p o) := by
  have nG : ∀ a u, G a = some u → a ≠ p := fun a u ea z => by
    subst z
    rw [l.g] at ea
    cases ea
  have nF : ∀ a, z.F a → a ≠ p := fun a ha z => by
    subst z
    exact l.f ha
  refine ⟨⟨fun a u ea => by rw [upd_ne (nG a u ea)]; exact so.ok.sub a u ea, fun t ht => (so.ok.bag t ht).same fun a ha => upd_ne (nF a (.inl ⟨t, ht, ha⟩)), fun r hr => ?_, so.ok.dis, fun a u n ea => ?_, so.ok.old, so.ok.grow⟩, so.len, fun i x e => ?_, so.apart⟩
  · obtain ⟨n, er⟩ := so.ok.room r hr
    exact ⟨n, by rw [upd_ne (nF r (.inr hr))]; exact er⟩
  · have hne : a ≠ p := fun z => by
      subst z
      rw [l.h0] at ea
      cases ea
    rw [upd_ne hne]
    exact so.ok.keep a u n ea
  · obtain ⟨v, e1, r⟩ := so.slot i x e
    refine ⟨v, e1, ?_⟩
    cases x with
    | own xs =>
      obtain ⟨q, us, rfl, g1, g2, g3, g4, g5⟩ := r
      have hq : q ≠ p := fun z => by
        subst z
        exact l.no i xs e e1
      exact ⟨q, us, rfl, by rw [upd_ne hq]; exact g1, g2, g3, g4, g5⟩
    | d _ => exact r
    | bag => exact r
    | room => exact r
    | ref _ => exact r
    | err _ _ _ => exact r
/-- it is told: it never changes from here on -/
theorem SO.tell (so : SO K z H0 G0 ρ σ G H) (l : Lone z H0 ρ σ G H p) (hp : H p = some o) : SO K z H0 G0 ρ σ (upd G p o) H := by
  have ex : Ex G (upd G p o) := Ex.new l.g
  refine ⟨⟨fun a u ea => ?_, so.ok.bag, so.ok.room, fun a ha => ?_, so.ok.keep, fun a u ea e0 => ?_, so.ok.grow.trans ex⟩, so.len, fun i x e => ?_, so.apart⟩
  · by_cases hpa : a = p
    · subst hpa
      rw [upd_same] at ea
      cases ea
      exact hp
    · rw [upd_ne hpa] at ea
      exact so.ok.sub a u ea
  · have hne : a ≠ p := fun z => by
      subst z
      exact l.f ha
    rw [upd_ne hne]
    exact so.ok.dis a ha
  · have hne : a ≠ p := fun z => by
      subst z
      rw [l.h0] at ea
      cases ea
    rw [upd_ne hne]
    exact so.ok.old a u ea e0
  · obtain ⟨v, e1, r⟩ := so.slot i x e
    refine ⟨v, e1, ?_⟩
    cases x with
    | own xs =>
      obtain ⟨q, us, rfl, g1, g2, g3, g4, g5⟩ := r
      have hq : q ≠ p := fun z => by
        subst z
        exact l.no i xs e e1
      exact ⟨q, us, rfl, g1, by rw [upd_ne hq]; exact g2, g3, g4, Rps.mono ex g5⟩
    | _ => exact RV.mono ex r (fun _ z => nomatch z)
end
theorem Go.put {z : Zn} {G H G' H' : Hp} {p : Addr} {o : HO} (hp : H p = none) (e : Go z G H G' H') : Go z G H G' (upd H' p o) :=
  ⟨e.ex, fun a u n ea => by
    rw [upd_ne (ne_of_none ea hp)]
    exact e.kp a u n ea, e.nw⟩
theorem Go.tell {z : Zn} {G H G' H' : Hp} {p : Addr} {o : HO} (hp : H p = none) (gp : G' p = none) (e : Go z G H G' H') : Go z G H (upd G' p o) H' :=
  ⟨e.ex.trans (Ex.new gp), e.kp, fun a u n ea ga => by
    rw [upd_ne (ne_of_none ea hp)]
    exact e.nw a u n ea ga⟩
theorem SO.go {K : PySem.W.Frag} {z : Zn} {H0 G0 G H G' H' : Hp} {ρ : Ro} {σ : L2.St} (so : SO K z H0 G0 ρ σ G H) (e : Go z G H G' H') (ok : Ok z H0 G0 G' H') : SO K z H0 G0 ρ σ G' H' :=
  ⟨ok, so.len, fun i x h => by
    obtain ⟨v, e1, r⟩ := so.slot i x h
    exact ⟨v, e1, r.go e⟩, so.apart⟩

/-! ### what a loop walks -/
abbrev DI := DW → Ro → (List D → Prop) → Prop
def Wlk (K : PySem.W.Frag) (z : Zn) (H0 G0 G : Hp) (J : It) (ds : List D) : Prop :=
  ∀ (i : Nat) (ρ : Ro) (σ : L2.St) (G2 H2 : Hp), Ex G G2 → SO K z H0 G0 ρ σ G2 H2 →
    (∀ d, ds[i]? = some d → J.go i H2 ∧ ∀ x H3, J.yld i H2 x H3 → ∃ G3, Go z G2 H2 G3 H3 ∧ SO K z H0 G0 ρ σ G3 H3 ∧ Rp K G3 x d) ∧
    (i = ds.length → J.stop i H2)
theorem Wlk.mono {K : PySem.W.Frag} {z : Zn} {H0 G0 G G1 : Hp} {J : It} {ds : List D} (h : Wlk K z H0 G0 G J ds) (e : Ex G G1) : Wlk K z H0 G0 G1 J ds := fun i ρ σ G2 H2 e2 so => h i ρ σ G2 H2 (e.trans e2) so
def lI (K : PySem.W.Frag) (W : WX) (t : DI) : TI := fun σ H R => ∃ z H0 G0 G ρ Wd, ∃ Qd : List D → Prop, SO K z H0 G0 ρ σ G H ∧ t Wd ρ Qd ∧
  (∀ ds, Qd ds → ∀ J G' H', Go z G H G' H' → SO K z H0 G0 ρ σ G' H' → Wlk K z H0 G0 G' J ds → R J H') ∧ Wh K z H0 G0 W G Wd
/-! targets -/
abbrev DG := D → Ro → (Ro → Prop) → Prop
/-- nothing but the places vs has changed -/
def Off (vs : List Nat) (σ σ' : L2.St) : Prop := σ'.length = σ.length ∧ ∀ i, i ∉ vs → σ'[i]? = σ[i]?
theorem Off.trans {vs ws : List Nat} {σ σ1 σ2 : L2.St} (a : Off vs σ σ1) (b : Off ws σ1 σ2) : Off (vs ++ ws) σ σ2 :=
  ⟨b.1.trans a.1, fun i h => by
    rw [List.mem_append, not_or] at h
    rw [b.2 i h.2, a.2 i h.1]⟩
def lG (K : PySem.W.Frag) (vs : List Nat) (g : DG) : TG := fun v σ H Q => ∃ z H0 G0 G ρ d, ∃ Qd : Ro → Prop, SO K z H0 G0 ρ σ G H ∧ Rp K G v d ∧ g d ρ Qd ∧ ∀ ρ', Qd ρ' → ∀ σ', Off vs σ σ' → SO K z H0 G0 ρ' σ' G H → Q σ' H
abbrev DGs := List D → Ro → (Ro → Prop) → Prop
def lGs (K : PySem.W.Frag) (ws : List Nat) (g : DGs) : TGs := fun vs σ H Q => ∃ z H0 G0 G ρ ds, ∃ Qd : Ro → Prop, SO K z H0 G0 ρ σ G H ∧ Rps K G vs ds ∧ g ds ρ Qd ∧ ∀ ρ', Qd ρ' → ∀ σ', Off ws σ σ' → SO K z H0 G0 ρ' σ' G H → Q σ' H
theorem _root_.L2.PG.imp {X : Cx} {e : Expr} {t t' : TG} (h : PG X e t) (f : ∀ v σ H Q, t' v σ H Q → t v σ H Q) : PG X e t' := ⟨fun pins s σ H v u Q I r q => h.run pins s σ H v u Q I r (f v σ H Q q)⟩
theorem _root_.L2.PGs.imp {X : Cx} {e : List Expr} {t t' : TGs} (h : PGs X e t) (f : ∀ v σ H Q, t' v σ H Q → t v σ H Q) : PGs X e t' := ⟨fun pins s σ H v u Q I r q => h.run pins s σ H v u Q I r (f v σ H Q q)⟩
theorem _root_.L2.PI.imp {X : Cx} {tg e : Expr} {t t' : TI} (h : PI X tg e t) (f : ∀ σ H R, t' σ H R → t σ H R) : PI X tg e t' := ⟨fun pins s σ H R I q => h.run pins s σ H R I (f σ H R q)⟩
theorem _root_.L2.PTs.imp {X : Cx} {e : List Expr} {t t' : TT} (h : PTs X e t) (f : ∀ σ H Q, t' σ H Q → t σ H Q) : PTs X e t' := ⟨fun pins s σ H Q I q => h.run pins s σ H Q I (f σ H Q q)⟩
def dgN (i : Nat) : DG := fun d ρ Q => Q (put ρ i (.d d))
def dgNil : DGs := fun ds ρ Q => ds = [] ∧ Q ρ
def dgCons (g : DG) (gs : DGs) : DGs := fun ds ρ Q => match ds with
  | d :: r => g d ρ fun ρ' => gs r ρ' Q
  | [] => False
def dgTup (n : Nat) (gs : DGs) : DG := fun d ρ Q => match d with
  | .tuple ds => ds.length = n ∧ gs ds ρ Q
  | _ => False
section
variable {X : Cx} {W : WX} {pos : Pos} {e : Expr} {es : List Expr}
theorem dg_name {i : Nat} {x : Str} (hN : X.N.Nodup) (hi : X.N[i]? = some x) (hx : Loc X.env.scope x) (hf : X.fn x = true ∨ X.env.scope.names.lookup x = some .local := by first | exact .inl rfl | exact .inr rfl | assumption) : PG X (.Name x pos) (lG X.K [i] (dgN i)) :=
  (pg_name hN hi hx hf).imp fun v σ H Q h => by
    obtain ⟨z, H0, G0, G, ρ, d, Qd, so, r, h, q⟩ := h
    exact q _ h _ ⟨by simp, fun j hj => List.getElem?_set_ne (fun z => hj (by rw [z]; simp))⟩ (by rw [put_eq]; exact so.set (x := .d d) r (fun _ z => nomatch z))
theorem dgs_nil : PGs X [] (lGs X.K [] dgNil) := pgs_nil.imp fun vs σ H Q h => by
  obtain ⟨z, H0, G0, G, ρ, ds, Qd, so, r, ⟨e, h⟩, q⟩ := h
  subst e
  cases r
  exact ⟨rfl, q _ h σ ⟨rfl, fun _ _ => rfl⟩ so⟩
theorem dgs_cons {vs ws : List Nat} {g : DG} {gs : DGs} (h1 : PG X e (lG X.K vs g)) (h2 : PGs X es (lGs X.K ws gs)) (hs : (assignEach (e :: es) X.env).map (·.2) = assign e X.env :: (assignEach es X.env).map (·.2) := by rfl) : PGs X (e :: es) (lGs X.K (vs ++ ws) (dgCons g gs)) :=
  (pgs_cons h1 h2 hs).imp fun vs σ H Q h => by
    obtain ⟨z, H0, G0, G, ρ, ds, Qd, so, r, h, q⟩ := h
    cases r with
    | nil => exact h.elim
    | cons r1 r2 => exact ⟨_, _, rfl, z, H0, G0, G, ρ, _, _, so, r1, h, fun ρ' h' σ' o1 so' => ⟨z, H0, G0, G, ρ', _, Qd, so', r2, h', fun ρ2 h2 σ2 o2 so2 => q ρ2 h2 σ2 (o1.trans o2) so2⟩⟩
theorem dg_tup {k : Nat} {ws : List Nat} {gs : DGs} {n : Nat} (hc : X.calm = true) (h : PGs X es (lGs X.K ws gs)) (hn : (assignEach es X.env).length = n := by rfl) (hst : (assignEach es X.env).findIdx? (·.1) = none := by rfl) : PG X (.Tuple es k pos) (lG X.K ws (dgTup n gs)) :=
  (pg_tup hc h hn hst).imp fun v σ H Q h => by
    obtain ⟨z, H0, G0, G, ρ, d, Qd, so, r, h, q⟩ := h
    unfold dgTup at h
    split at h
    · obtain ⟨a, xs, rfl, h1, r1⟩ := rp_tuple r
      exact ⟨a, xs, rfl, so.ok.sub.sqT h1, r1.length.trans h.1, z, H0, G0, G, ρ, _, Qd, so, r1, h.2, q⟩
    · exact h.elim
/-- a, b = e -/
def sTo (te : DE) (g : DG) : DS := fun E ρ => te E.ex ρ fun x => match x with
  | .d d => g d ρ E.nx
  | _ => False
theorem ds_to {tg : Expr} {vs : List Nat} {te : DE} {g : DG} (he : PE X e (lE X.K W te)) (hg : PG X tg (lG X.K vs g)) (hs : swapsWithSole [tg] e pos.line X.env = pure false := by rfl) (hw : swappedStores [tg] e X.env = pure none := by rfl)
    (h1 : (assignEach [tg] X.env).map (·.2) = [assign tg X.env] := by rfl) : PS X (.Assign [tg] e pos) (lS X.K W (sTo te g)) := (ps_asg he hg hs hw h1).imp fun E σ H h => by
  obtain ⟨z, H0, G0, G, ρ, ED, so, h, q, _, _, _, w⟩ := h
  refine ⟨z, H0, G0, G, ρ, ED.ex, _, so, h, fun x hx v G' H' e so' r => ?_, w⟩
  split at hx
  · exact ⟨z, H0, G0, G', ρ, _, _, so', r, hx, fun ρ' h' σ' _ so2 => q ρ' h' σ' G' H' e.ex so2⟩
  · exact hx.elim
/-- a, b = x, y -/
def sPar (i j : Nat) (ta : DA) : DS := fun E ρ => ta E.ex ρ fun xs => match xs with
  | [x, y] => E.nx (put (put ρ i x) j y)
  | _ => False
theorem ds_par {i j : Nat} {x y : Str} {a b : Expr} {ta : DA} {px py pt : Pos} {kt k2 pt2} (hc : X.calm = true) (hN : X.N.Nodup) (hi : X.N[i]? = some x) (hj : X.N[j]? = some y) (hij : i ≠ j)
    (hx : X.env.scope.names.lookup x = some .local) (hy : X.env.scope.names.lookup y = some .local) (ha : PA X [a, b] (lA X.K W ta))
    (hw : swappedStores [.Tuple [.Name x px, .Name y py] kt pt] (.Tuple [a, b] k2 pt2) X.env = pure (some [x, y]))
    (hs : swapsWithSole [.Tuple [.Name x px, .Name y py] kt pt] (.Tuple [a, b] k2 pt2) pos.line X.env = pure false := by rfl) :
    PS X (.Assign [.Tuple [.Name x px, .Name y py] kt pt] (.Tuple [a, b] k2 pt2) pos) (lS X.K W (sPar i j ta)) := (ps_par hc hN hi hj hij hx hy ha hw hs).imp fun E σ H h => by
  obtain ⟨z, H0, G0, G, ρ, ED, so, h, q, _, _, _, w⟩ := h
  refine ⟨z, H0, G0, G, ρ, ED.ex, _, so, h, fun x hx v G' H' e so' r => ?_, w⟩
  cases r with
  | nil => exact hx.elim
  | cons r1 n1 r =>
    cases r with
    | nil => exact hx.elim
    | cons r2 n2 r =>
      cases r with
      | nil =>
        refine ⟨_, _, rfl, q _ hx _ G' H' e.ex ?_⟩
        rw [put_eq, put_eq]
        exact (so'.set r1 n1).set r2 n2
      | cons _ _ _ => exact hx.elim
/-- a list of one's own is told ahead of a statement -/
def sFrz (i : Nat) (t : DS) : DS := fun E ρ => match get ρ i with
  | some (.own xs) => t E (put ρ i (.d (.list xs)))
  | _ => t E ρ
theorem lS_frz {K : PySem.W.Frag} {i : Nat} {t : DS} {E : Ends} {σ : L2.St} {H : Hp} (h : lS K W (sFrz i t) E σ H) : lS K W t E σ H := by
  obtain ⟨z, H0, G0, G, ρ, ED, so, h, q1, q2, q3, q4, w⟩ := h
  unfold sFrz at h
  split at h
  · rename_i xs e
    obtain ⟨G', ex, so'⟩ := so.freeze (get_eq e)
    rw [put_eq] at h
    exact ⟨z, H0, G0, G', _, ED, so', h, fun ρ2 hn σ2 G2 H2 e2 so2 => q1 ρ2 hn σ2 G2 H2 (ex.trans e2) so2, fun x hx v ρ2 σ2 G2 H2 e2 so2 r2 => q2 x hx v ρ2 σ2 G2 H2 (ex.trans e2) so2 r2,
      fun ρ2 hn σ2 G2 H2 e2 so2 => q3 ρ2 hn σ2 G2 H2 (ex.trans e2) so2, fun ρ2 hn σ2 G2 H2 e2 so2 => q4 ρ2 hn σ2 G2 H2 (ex.trans e2) so2, w.mono ex⟩
  · exact ⟨z, H0, G0, G, ρ, ED, so, h, q1, q2, q3, q4, w⟩
theorem ds_frz {st : Stmt} (i : Nat) {t : DS} (h : PS X st (lS X.K W t)) : PS X st (lS X.K W (sFrz i t)) := h.imp fun _ _ _ q => lS_frz q
end
end DL

set_option Elab.async false
set_option linter.all false
set_option maxRecDepth 100000
set_option maxHeartbeats 2000000
namespace DL
open PySem PySem.Spec PyProof.Rows L2

/-! ### walks -/
section
variable {K : PySem.W.Frag} {z : Zn} {H0 G0 G H : Hp} {a : Addr} {xs : List V} {ds : List D}
theorem wlk_list (h : Rd G a (.lst xs)) (r : Rps K G xs ds) : Wlk K z H0 G0 G (Itl K a) ds := fun i ρ σ G2 H2 e so => by
  have hq : SqL K H2 a xs := .inl (so.ok.sub.rd (e.rd h))
  refine ⟨fun d hd => ?_, fun hl => ⟨xs, hq, by rw [r.length]; exact Nat.le_of_eq hl.symm⟩⟩
  obtain ⟨v, hv, rv⟩ := r.get hd
  refine ⟨⟨xs, v, hq, hv⟩, fun x H3 y => ?_⟩
  obtain ⟨rfl, y⟩ := y
  have := y xs hq
  rw [hv] at this
  cases this
  exact ⟨G2, Go.refl z G2 _, so, Rp.mono e rv⟩
theorem wlk_tup (h : SqT K G a xs) (r : Rps K G xs ds) : Wlk K z H0 G0 G (Itt K a) ds := fun i ρ σ G2 H2 e so => by
  have hq : SqT K H2 a xs := so.ok.sub.sqT (e.sqT h)
  refine ⟨fun d hd => ?_, fun hl => ⟨xs, hq, by rw [r.length]; exact Nat.le_of_eq hl.symm⟩⟩
  obtain ⟨v, hv, rv⟩ := r.get hd
  refine ⟨⟨xs, v, hq, hv⟩, fun x H3 y => ?_⟩
  obtain ⟨rfl, y⟩ := y
  have := y xs hq
  rw [hv] at this
  cases this
  exact ⟨G2, Go.refl z G2 _, so, Rp.mono e rv⟩
/-- lo, lo + 1, .. -/
def rngD (lo : Int) (n : Nat) : List D := (List.range n).map fun i : Nat => .int (lo + (i : Int))
theorem rngD_length {lo : Int} {n : Nat} : (rngD lo n).length = n := by simp [rngD]
theorem wlk_rng {lo : Int} {n : Nat} : Wlk K z H0 G0 G (Itr lo n) (rngD lo n) := fun i ρ σ G2 H2 e so => by
  refine ⟨fun d hd => ?_, fun hl => by rw [rngD_length] at hl; exact Nat.le_of_eq hl.symm⟩
  have hi : i < n := by
    have := (List.getElem?_eq_some_iff.mp hd).1
    rw [rngD_length] at this
    exact this
  refine ⟨hi, fun x H3 y => ?_⟩
  obtain ⟨rfl, rfl⟩ := y
  have ed : d = .int (lo + i) := by
    unfold rngD at hd
    rw [List.getElem?_map, List.getElem?_range hi] at hd
    cases hd
    rfl
  subst ed
  exact ⟨G2, Go.refl z G2 _, so, .int _⟩
/-- the signs of a text -/
def signsD (x : Str) : List D := x.cps.toList.map fun c => .str ⟨#[c]⟩
theorem wlk_str {x : Str} : Wlk K z H0 G0 G (Its x) (signsD x) := fun i ρ σ G2 H2 e so => by
  have hl : (signsD x).length = x.cps.size := by simp [signsD]
  refine ⟨fun d hd => ?_, fun h => by rw [hl] at h; exact Nat.le_of_eq h.symm⟩
  have hi : i < x.cps.size := by
    have := (List.getElem?_eq_some_iff.mp hd).1
    rw [hl] at this
    exact this
  refine ⟨hi, fun v H3 y => ?_⟩
  obtain ⟨rfl, c, hc, rfl⟩ := y
  unfold signsD at hd
  rw [List.getElem?_map, Array.getElem?_toList, hc] at hd
  cases hd
  exact ⟨G2, Go.refl z G2 _, so, .str _⟩
end
/-! ### what is walked: a value, a range -/
def iAny (K : PySem.W.Frag) (tl : TE) : TI := fun σ H R => tl σ H fun x H1 => (∃ a, x = .ref a ∧ (∃ xs, SqL K H1 a xs) ∧ R (Itl K a) H1) ∨ (∃ a, x = .ref a ∧ (∃ xs, SqT K H1 a xs) ∧ R (Itt K a) H1) ∨ ∃ y, x = .str y ∧ R (Its y) H1
theorem pi_any {X : Cx} {tg l : Expr} {tl : TE} (hl : PE X l tl) : PI X tg l (iAny X.K tl) := by
  refine ⟨fun pins s σ H R I h => ?_⟩
  refine thn (hl.run pins s σ H _ I h) fun v s1 ⟨x, H1, I1, r1, q1⟩ => ?_
  rcases q1 with ⟨a, e, ⟨xs, hq⟩, q⟩ | ⟨a, e, ⟨xs, hq⟩, q⟩ | ⟨y, e, q⟩
  · subst e
    cases r1
    obtain ⟨its, rv, p, hz⟩ := I1.list hq
    refine wpAny_pyIter_list p.isList ?_
    refine ⟨s1.heap.objs.size, [s1.heap.objs.size], _, _, H1, rfl, I1.kept (t' := s1.toks) fun b o e => Heap.get?_push_of_some _ e, turn_list a _, ⟨_, Heap.get?_push_size _ rfl, rfl, rfl⟩, fun b hb => ?_, q⟩
    have e : b = s1.heap.objs.size := by simpa using hb
    subst e
    exact I1.fpOk (Nat.le_refl _) (I1.hok.fresh (Nat.le_refl _))
  · subst e
    cases r1
    obtain ⟨its, rv, p, hz⟩ := I1.tuple hq
    refine wpAny_pyIter_tuple (show s1.heap.IsTuple a its.toArray from p) ?_
    refine ⟨s1.heap.objs.size, [s1.heap.objs.size], _, _, H1, rfl, I1.kept (t' := s1.toks) fun b o e => Heap.get?_push_of_some _ e, turn_tuple a _, ⟨_, Heap.get?_push_size _ rfl, rfl, rfl⟩, fun b hb => ?_, q⟩
    have e : b = s1.heap.objs.size := by simpa using hb
    subst e
    exact I1.fpOk (Nat.le_refl _) (I1.hok.fresh (Nat.le_refl _))
  · subst e
    obtain ⟨t, rfl⟩ := r1
    cases ha : y.cps.all (· < 128)
    · exact wpAny_pyIter_wide ha (pi_one (tk := s1.toks) I1 _ (turn_str _ y t "str_iterator" (.inr rfl)) ⟨_, Heap.get?_push_size _ rfl, rfl, rfl⟩ q)
    · exact wpAny_pyIter_ascii ha (pi_one (tk := s1.toks) I1 _ (turn_str _ y t "str_ascii_iterator" (.inl rfl)) ⟨_, Heap.get?_push_size _ rfl, rfl, rfl⟩ q)
def dOver (te : DE) : DI := fun Wd ρ Q => te Wd ρ fun x => match x with
  | .d (.list ds) => Q ds
  | .d (.tuple ds) => Q ds
  | .d (.str y) => Q (signsD y)
  | _ => False
def dRng1 (te : DE) : DI := fun Wd ρ Q => te Wd ρ fun x => match x with
  | .d (.int j) => (-(2 ^ 62) ≤ j ∧ j < 2 ^ 62) ∧ Q (rngD 0 j.toNat)
  | _ => False
def dRng2 (ta tb : DE) : DI := fun Wd ρ Q => ta Wd ρ fun x => tb Wd ρ fun y => match x, y with
  | .d (.int i), .d (.int j) => (-(2 ^ 62) ≤ i ∧ i < 2 ^ 62 ∧ -(2 ^ 62) ≤ j ∧ j < 2 ^ 62) ∧ Q (rngD i (j - i).toNat)
  | _, _ => False
section
variable {X : Cx} {W : WX} {tg e e2 : Expr} {te t2 : DE} {p pos : Pos}
theorem di_over (he : PE X e (lE X.K W te)) : PI X tg e (lI X.K W (dOver te)) := (pi_any he).imp fun σ H R h => by
  obtain ⟨z, H0, G0, G, ρ, Wd, Qd, so, h, q, w⟩ := h
  refine ⟨z, H0, G0, G, ρ, Wd, _, so, h, fun x hx v G1 H1 e1 so1 r1 => ?_, w⟩
  split at hx
  · obtain ⟨a, xs, rfl, h1, r⟩ := rp_list r1
    exact .inl ⟨a, rfl, ⟨xs, .inl (so1.ok.sub.rd h1)⟩, q _ hx _ G1 H1 e1 so1 (wlk_list h1 r)⟩
  · obtain ⟨a, xs, rfl, h1, r⟩ := rp_tuple r1
    exact .inr (.inl ⟨a, rfl, ⟨xs, so1.ok.sub.sqT h1⟩, q _ hx _ G1 H1 e1 so1 (wlk_tup h1 r)⟩)
  · obtain rfl := rp_str r1
    exact .inr (.inr ⟨_, rfl, q _ hx _ G1 H1 e1 so1 wlk_str⟩)
  · exact hx.elim
theorem di_rng1 (hg : Gl X "range") (hm : X.mg "range" = none) (he : PE X e (lE X.K W te)) (hs : starEach [e] X.env = [(false, eval e X.env)] := by rfl) : PI X tg (.Call (.Name "range" p) [e] [] pos) (lI X.K W (dRng1 te)) :=
  (pi_range1 hg hm (pa_cons he pa_nil (hs.trans rfl)) hs).imp fun σ H R h => by
    obtain ⟨z, H0, G0, G, ρ, Wd, Qd, so, h, q, w⟩ := h
    refine ⟨z, H0, G0, G, ρ, Wd, _, so, h, fun x hx v G1 H1 e1 so1 r1 => ?_, w⟩
    split at hx
    · obtain rfl := rp_int r1
      exact ⟨_, rfl, hx.1.1, hx.1.2, q _ hx.2 _ G1 H1 e1 so1 wlk_rng⟩
    · exact hx.elim
theorem di_rng2 (hg : Gl X "range") (hm : X.mg "range" = none) (he : PE X e (lE X.K W te)) (h2 : PE X e2 (lE X.K W t2)) (hs : starEach [e, e2] X.env = [(false, eval e X.env), (false, eval e2 X.env)] := by rfl) (hs2 : starEach [e2] X.env = [(false, eval e2 X.env)] := by rfl) :
    PI X tg (.Call (.Name "range" p) [e, e2] [] pos) (lI X.K W (dRng2 te t2)) :=
  (pi_range2 hg hm (pa_cons he (pa_cons h2 pa_nil (hs2.trans rfl)) (by rw [hs, hs2])) hs hs2).imp fun σ H R h => by
    obtain ⟨z, H0, G0, G, ρ, Wd, Qd, so, h, q, w⟩ := h
    refine ⟨z, H0, G0, G, ρ, Wd, _, so, h, fun x hx v G1 H1 e1 so1 r1 => ?_, w⟩
    refine ⟨z, H0, G0, G1, ρ, Wd, _, so1, hx, fun y hy u G2 H2 e2 so2 r2 => ?_, w.mono e1.ex⟩
    split at hy
    · obtain rfl := rp_int r1
      obtain rfl := rp_int r2
      exact ⟨_, _, rfl, hy.1, q _ hy.2 _ G2 H2 (e1.trans e2) so2 wlk_rng⟩
    · exact hy.elim
end
/-! ### for -/
def dLoop (g : DG) (tb : DS) (E : DEnds) : List D → Ro → Prop
  | [], ρ => E.nx ρ
  | d :: ds, ρ => g d ρ fun ρ1 => tb { E with nx := dLoop g tb E ds, ct := dLoop g tb E ds, bk := E.nx } ρ1
def sFor (it : DI) (g : DG) (tb : DS) : DS := fun E ρ => it E.ex ρ fun ds => dLoop g tb E ds ρ
section
variable {X : Cx} {W : WX} {pos : Pos}
theorem ds_for {tg iter : Expr} {body : List Stmt} {vs : List Nat} {it : DI} {g : DG} {tb : DS} (hp : PassesOwn (model X.prog X.w) X.A X.env X.xe) (hc : X.calm = true) (hi : PI X tg iter (lI X.K W it)) (hg : PG X tg (lG X.K vs g)) (hb : PSs X body (lS X.K W tb))
    (hs : ∀ x, foldedSetIterable iter X.env x = pure x := by intro _; rfl) : PS X (.For tg iter body [] pos) (lS X.K W (sFor it g tb)) := (ps_for hp hc hi hg hb hs).imp fun E σ H h => by
  obtain ⟨z, H0, G0, G, ρ, ED, so, h, q1, q2, q3, q4, w⟩ := h
  refine ⟨z, H0, G0, G, ρ, ED.ex, _, so, h, fun ds hds J G1 H1 e1 so1 wk => ?_, w⟩
  refine ⟨fun i m σ H => m = ds.length - i ∧ i ≤ ds.length ∧ ∃ G2 ρ2, Ex G1 G2 ∧ SO X.K z H0 G0 ρ2 σ G2 H ∧ dLoop g tb ED (ds.drop i) ρ2, ⟨ds.length, by simp, Nat.zero_le _, G1, ρ, Ex.refl _, so1, hds⟩, ?_⟩
  rintro i m σ2 H2 ⟨rfl, hi, G2, ρ2, e2, so2, hd⟩
  obtain ⟨w1, w2⟩ := wk i ρ2 σ2 G2 H2 e2 so2
  by_cases hlt : i < ds.length
  · have hx : ds[i]? = some ds[i] := by simp [hlt]
    obtain ⟨go, yl⟩ := w1 _ hx
    rw [List.drop_eq_getElem_cons hlt] at hd
    refine .inr ⟨go, fun σ' H' => ∃ G2 ρ2, Ex G1 G2 ∧ SO X.K z H0 G0 ρ2 σ' G2 H' ∧ dLoop g tb ED (ds.drop (i + 1)) ρ2, fun σ' H' n => ⟨ds.length - (i + 1), by omega, rfl, hlt, n⟩, fun x H3 y => ?_⟩
    obtain ⟨G3, e3, so3, r3⟩ := yl x H3 y
    refine ⟨z, H0, G0, G3, ρ2, ds[i], _, so3, r3, hd, fun ρ4 h4 σ4 _ so4 => ?_⟩
    have eG : Ex G1 G3 := e2.trans e3.ex
    refine ⟨z, H0, G0, G3, ρ4, _, so4, h4, fun ρ5 hn σ5 G5 H5 e5 so5 => ⟨G5, ρ5, eG.trans e5, so5, hn⟩, fun x hx v ρ5 σ5 G5 H5 e5 so5 r5 => q2 x hx v ρ5 σ5 G5 H5 (e1.ex.trans (eG.trans e5)) so5 r5,
      fun ρ5 hn σ5 G5 H5 e5 so5 => q1 ρ5 hn σ5 G5 H5 (e1.ex.trans (eG.trans e5)) so5, fun ρ5 hn σ5 G5 H5 e5 so5 => ⟨G5, ρ5, eG.trans e5, so5, hn⟩, w.mono (e1.ex.trans eG)⟩
  · have e : i = ds.length := by omega
    subst e
    rw [List.drop_length] at hd
    exact .inl ⟨w2 rfl, q1 _ hd _ G2 H2 (e1.ex.trans e2) so2⟩
end
/-! ### list comprehensions -/
def wipeR (ρ : Ro) : List Nat → Ro
  | [] => ρ
  | v :: vs => (wipeR ρ vs).set v none
def dMap (g : DG) (tt : DT) (te : DE) (Wd : DW) (ρ : Ro) : List D → (List D → Prop) → Prop
  | [], Q => Q []
  | d :: ds, Q => g d ρ fun ρ1 => tt Wd ρ1 fun b => if b = true then te Wd ρ1 fun x => match x with
      | .d y => dMap g tt te Wd ρ ds fun ys => Q (y :: ys)
      | _ => False
    else dMap g tt te Wd ρ ds Q
def dComp (it : DI) (vs : List Nat) (g : DG) (tt : DT) (te : DE) : DE := fun Wd ρ Q => it Wd ρ fun ds => ds.length < sizeLine ∧ dMap g tt te Wd (wipeR ρ vs) ds fun ys => Q (.d (.list ys))
def dtYes : DT := fun _ _ Q => Q true
theorem wipeR_get {ρ : Ro} {i : Nat} {x : DV} : ∀ {vs : List Nat}, (wipeR ρ vs)[i]? = some (some x) → ρ[i]? = some (some x) ∧ i ∉ vs
  | [], h => ⟨h, by simp⟩
  | v :: vs, h => by
    unfold wipeR at h
    by_cases hi : v = i
    · subst hi
      by_cases hv : v < (wipeR ρ vs).length
      · rw [List.getElem?_set_self hv] at h; cases h
      · rw [List.getElem?_eq_none (by simpa using hv)] at h; cases h
    · rw [List.getElem?_set_ne hi] at h
      obtain ⟨h1, h2⟩ := wipeR_get h
      exact ⟨h1, by simp only [List.mem_cons, not_or]; exact ⟨fun e => hi e.symm, h2⟩⟩
theorem wipe_same {σ : L2.St} {i : Nat} : ∀ {vs : List Nat}, i ∉ vs → (wipe σ vs)[i]? = σ[i]?
  | [], _ => rfl
  | v :: vs, h => by
    simp only [List.mem_cons, not_or] at h
    unfold wipe
    rw [List.getElem?_set_ne (Ne.symm h.1), wipe_same h.2]
theorem SO.wipe {K : PySem.W.Frag} {z : Zn} {H0 G0 G H : Hp} {ρ : Ro} {σ : L2.St} (so : SO K z H0 G0 ρ σ G H) (vs : List Nat) : SO K z H0 G0 (wipeR ρ vs) (L2.wipe σ vs) G H := by
  refine ⟨so.ok, ?_, fun i x e => ?_, fun i j xs ys p e1 e2 e3 e4 => ?_⟩
  · rw [wipe_length]
    have : ∀ vs : List Nat, (wipeR ρ vs).length = ρ.length := fun vs => by
      induction vs with
      | nil => rfl
      | cons v vs ih => unfold wipeR; rw [List.length_set, ih]
    rw [this]
    exact so.len
  · obtain ⟨h1, h2⟩ := wipeR_get e
    rw [wipe_same h2]
    exact so.slot i x h1
  · obtain ⟨h1, g1⟩ := wipeR_get e1
    obtain ⟨h2, g2⟩ := wipeR_get e2
    rw [wipe_same g1] at e3
    rw [wipe_same g2] at e4
    exact so.apart i j xs ys p h1 h2 e3 e4
theorem wipe_all {σ σ' : L2.St} (hl : σ'.length = σ.length) : ∀ {vs : List Nat}, (∀ i, i ∉ vs → σ'[i]? = σ[i]?) → wipe σ' vs = wipe σ vs := fun {vs} h => by
  apply List.ext_getElem?
  intro i
  by_cases hi : i ∈ vs
  · have none_of : ∀ {τ : L2.St} {vs : List Nat}, i ∈ vs → i < τ.length → (wipe τ vs)[i]? = some none := fun {τ vs} hm hlt => by
      induction vs with
      | nil => cases hm
      | cons v vs ih =>
        unfold wipe
        by_cases e : v = i
        · subst e
          rw [List.getElem?_set_self (by rw [wipe_length]; exact hlt)]
        · rw [List.getElem?_set_ne e]
          exact ih (by rcases List.mem_cons.mp hm with h | h; exact absurd h.symm e; exact h)
    by_cases hlt : i < σ.length
    · rw [none_of hi hlt, none_of hi (by rw [hl]; exact hlt)]
    · rw [List.getElem?_eq_none (by rw [wipe_length]; omega), List.getElem?_eq_none (by rw [wipe_length]; omega)]
  · rw [wipe_same hi, wipe_same hi]
    exact h i hi
theorem dts_nil {X : Cx} {W : WX} : PTs X [] (lT X.K W dtYes) := pts_nil.imp fun σ H Q h => by
  obtain ⟨z, H0, G0, G, ρ, Wd, Qd, so, h, q, w⟩ := h
  exact q _ h G H (Go.refl z G H) so
theorem dts_one {X : Cx} {W : WX} {c : Expr} {t : DT} (h : PT X c (lT X.K W t)) : PTs X [c] (lT X.K W t) := pts_one h
theorem dMap_len {g : DG} {tt : DT} {te : DE} {Wd : DW} {ρ : Ro} : ∀ {ds : List D} {Q : List D → Prop}, dMap g tt te Wd ρ ds Q → True := fun _ => trivial
section
variable {X : Cx} {W : WX} {pos : Pos}
theorem lE_comp {it : DI} {own gvs : List Nat} {g : DG} {tt : DT} {te : DE} (hv : ∀ i ∈ gvs, i ∈ own) {σ : L2.St} {H : Hp} {Q : VK} (h : lE X.K W (dComp it own g tt te) σ H Q) :
    tLc (lI X.K W it) (lG X.K gvs g) (lT X.K W tt) (lE X.K W te) own σ H Q := by
  obtain ⟨z, H0, G0, G, ρ, Wd, Qd, so, h, q, w⟩ := h
  refine ⟨z, H0, G0, G, ρ, Wd, _, so, h, fun ds hds J G1 H1 e1 so1 wk => ?_, w⟩
  obtain ⟨hz, hds⟩ := hds
  intro D hD
  have so2 := (so1.newOwn (o := .lst []) hD).wipe own
  have l2 : Lone z H0 (wipeR ρ own) (L2.wipe σ own) G1 (upd H1 D (.lst [])) D := (so1.wipe own).free hD |>.heap
  have ww : L2.wipe (L2.wipe σ own) own = L2.wipe σ own := wipe_all (wipe_length σ own) fun i hi => wipe_same hi
  refine ⟨fun i m H => m = ds.length - i ∧ i ≤ ds.length ∧ ∃ G2 acc ys, Go z G1 H1 G2 H ∧ SO X.K z H0 G0 (wipeR ρ own) (L2.wipe σ own) G2 H ∧ Lone z H0 (wipeR ρ own) (L2.wipe σ own) G2 H D ∧ H D = some (.lst acc) ∧ acc.length ≤ i ∧ Rps X.K G2 acc ys ∧
    dMap g tt te Wd (wipeR ρ own) (ds.drop i) fun zs => Qd (.d (.list (ys ++ zs))), ⟨ds.length, by simp, Nat.zero_le _, G1, [], [], (Go.refl _ _ _).put hD, so2, l2, upd_same, Nat.le_refl _, .nil, by simpa using hds⟩, ?_⟩
  rintro i m H2 ⟨rfl, hi, G2, acc, ys, e2, so2, l2, hacc, hal, ra, hd⟩
  obtain ⟨w1, w2⟩ := wk i _ _ G2 H2 e2.ex so2
  by_cases hlt : i < ds.length
  · have hx : ds[i]? = some ds[i] := by simp [hlt]
    obtain ⟨go, yl⟩ := w1 _ hx
    rw [List.drop_eq_getElem_cons hlt] at hd
    refine .inr ⟨go, fun H => ∃ G2 acc ys, Go z G1 H1 G2 H ∧ SO X.K z H0 G0 (wipeR ρ own) (L2.wipe σ own) G2 H ∧ Lone z H0 (wipeR ρ own) (L2.wipe σ own) G2 H D ∧ H D = some (.lst acc) ∧ acc.length ≤ i + 1 ∧ Rps X.K G2 acc ys ∧
      dMap g tt te Wd (wipeR ρ own) (ds.drop (i + 1)) fun zs => Qd (.d (.list (ys ++ zs))), fun H' n => ⟨ds.length - (i + 1), by omega, rfl, hlt, n⟩, fun x H3 y => ?_⟩
    obtain ⟨G3, e3, so3, r3⟩ := yl x H3 y
    refine ⟨z, H0, G0, G3, wipeR ρ own, ds[i], _, so3, r3, hd, fun ρ4 h4 σ4 o4 so4 => ⟨?_, ?_⟩⟩
    · refine (wipe_all o4.1 fun j hj => o4.2 j fun hg => hj (hv j hg)).trans ww
    refine ⟨z, H0, G0, G3, ρ4, Wd, _, so4, h4, fun b hb G5 H5 e5 so5 => ?_, w.mono (e1.ex.trans (e2.ex.trans e3.ex))⟩
    cases b with
    | true =>
      rw [if_pos rfl] at hb ⊢
      refine ⟨z, H0, G0, G5, ρ4, Wd, _, so5, hb, fun t ht v G6 H6 e6 so6 r6 => ?_, w.mono (e1.ex.trans (e2.ex.trans (e3.ex.trans e5.ex)))⟩
      split at ht
      · have e36 := e3.trans (e5.trans e6)
        obtain ⟨l6, hacc6⟩ := l2.go hacc e36
        refine ⟨acc, hacc6, by omega, G6, acc ++ [v], _, (e2.trans e36).put hD, (so3.go (e5.trans e6) so6.ok).putAt l6, l6.heap, upd_same, by rw [List.length_append, List.length_singleton]; omega, (Rps.mono e36.ex ra).append (.cons r6 .nil), ?_⟩
        simpa using ht
      · exact ht.elim
    | false =>
      rw [if_neg Bool.false_ne_true] at hb ⊢
      have e35 := e3.trans e5
      obtain ⟨l5, hacc5⟩ := l2.go hacc e35
      exact ⟨G5, acc, ys, e2.trans e35, so3.go e5 so5.ok, l5, hacc5, by omega, Rps.mono e35.ex ra, hb⟩
  · have e : i = ds.length := by omega
    subst e
    rw [List.drop_length] at hd
    refine .inl ⟨w2 rfl, ?_⟩
    have gD := l2.g
    have so4 := so2.tell l2 hacc
    have e4 : Go z G1 H1 (upd G2 D (.lst acc)) H2 := e2.tell hD gD
    have hd' : Qd (.d (.list ys)) := by simpa [dMap] using hd
    exact q _ hd' (.ref D) _ H2 (e1.trans e4) (so1.go e4 so4.ok) (Rp.lst (.inl upd_same) (Rps.mono (Ex.new gD) ra))
theorem de_comp {elt tg iter : Expr} {ifs : List Expr} {scope : Scope} {own : List (Str × Nat)} {gvs : List Nat} {it : DI} {g : DG} {tt : DT} {te : DE} (hc : X.calm = true) (hN : X.N.Nodup) (hi : PI X tg iter (lI X.K W it)) (ok : BlkOk X.N X.env.scope scope own)
    (hg : ∀ (s : Shared) (H : Hp) (C : Addr) (cl : List (Str × Addr)) (fp : List Addr), PG (X.blk s H scope (compEnvC scope cl C X.env) fp) tg (lG X.K gvs g)) (ht : ∀ (s : Shared) (H : Hp) (C : Addr) (cl : List (Str × Addr)) (fp : List Addr), PTs (X.blk s H scope (compEnvC scope cl C X.env) fp) ifs (lT X.K W tt))
    (he : ∀ (s : Shared) (H : Hp) (C : Addr) (cl : List (Str × Addr)) (fp : List Addr), PE (X.blk s H scope (compEnvC scope cl C X.env) fp) elt (lE X.K W te)) (hv : ∀ i ∈ gvs, i ∈ own.map (·.2) := by decide) (hs : ∀ x, foldedSetIterable iter X.env x = pure x := by intro _; rfl) :
    PE X (.ListComp elt [⟨tg, iter, ifs, 0⟩] scope pos) (lE X.K W (dComp it (own.map (·.2)) g tt te)) := (pe_lc hc hN hi ok hg ht he hs).imp fun σ H Q h => lE_comp hv h
theorem ds_setC {i : Nat} {y : Str} {py spos : Pos} {elt tg iter : Expr} {ifs : List Expr} {scope : Scope} {own : List (Str × Nat)} {gvs : List Nat} {it : DI} {g : DG} {tt : DT} {te : DE} (hc : X.calm = true) (hN : X.N.Nodup) (hy : X.N[i]? = some y) (hyl : X.env.scope.names.lookup y = some .local)
    (hsw : swapsWith (.ListComp elt [⟨tg, iter, ifs, 0⟩] scope pos) (some (.Name y py)) spos.line X.env = pure true) (hi : PI X tg iter (lI X.K W it)) (ok : BlkOk X.N X.env.scope scope own)
    (hg : ∀ (s : Shared) (H : Hp) (C : Addr) (cl : List (Str × Addr)) (fp : List Addr), PG (X.blk s H scope (compEnvC scope cl C X.env) fp) tg (lG X.K gvs g)) (ht : ∀ (s : Shared) (H : Hp) (C : Addr) (cl : List (Str × Addr)) (fp : List Addr), PTs (X.blk s H scope (compEnvC scope cl C X.env) fp) ifs (lT X.K W tt))
    (he : ∀ (s : Shared) (H : Hp) (C : Addr) (cl : List (Str × Addr)) (fp : List Addr), PE (X.blk s H scope (compEnvC scope cl C X.env) fp) elt (lE X.K W te)) (hv : ∀ i ∈ gvs, i ∈ own.map (·.2) := by decide) (hs : ∀ x, foldedSetIterable iter X.env x = pure x := by intro _; rfl) :
    PS X (.Assign [.Name y py] (.ListComp elt [⟨tg, iter, ifs, 0⟩] scope pos) spos) (lS X.K W (sSet i (dComp it (own.map (·.2)) g tt te))) := (ps_setLc hc hN hy hyl hsw hi ok hg ht he hs).imp fun E σ H h => by
  obtain ⟨z, H0, G0, G, ρ, ED, so, h, q, _, _, _, w⟩ := h
  refine lE_comp hv ⟨z, H0, G0, G, ρ, ED.ex, _, so, h, fun x hx v G' H' e so' r => ?_, w⟩
  exact q _ hx.2 _ G' H' e.ex (by rw [put_eq]; exact so'.set r hx.1.ne)
end
end DL

set_option Elab.async false
set_option linter.all false
set_option maxRecDepth 100000
set_option maxHeartbeats 2000000
namespace DL
open PySem PySem.Spec PyProof.Rows L2

/-! ### lists of one's own: made, written -/
section
variable {X : Cx} {W : WX} {pos : Pos} {e : Expr} {es : List Expr}
/-- x = [..] -/
def sOwnL (i : Nat) (ta : DA) : DS := fun E ρ => ta E.ex ρ fun xs => match asD xs with
  | some ds => ds.length ≤ 1000 ∧ E.nx (put ρ i (.own ds))
  | none => False
theorem ds_ownL {ta : DA} {i : Nat} {x : Str} {p pos' : Pos} (hN : X.N.Nodup) (hi : X.N[i]? = some x) (hx : Loc X.env.scope x) (ha : PA X es (lA X.K W ta)) (hs : swapsWith (.List es p) (some (.Name x pos')) pos.line X.env = pure false := by rfl) (hf : X.fn x = true ∨ X.env.scope.names.lookup x = some .local := by first | exact .inl rfl | exact .inr rfl | assumption) :
    PS X (.Assign [.Name x pos'] (.List es p) pos) (lS X.K W (sOwnL i ta)) := (ps_set hN hi hx (pe_lst ha) hs hf).imp fun E σ H h => by
  obtain ⟨z, H0, G0, G, ρ, ED, so, h, q, _, _, _, w⟩ := h
  refine ⟨z, H0, G0, G, ρ, ED.ex, _, so, h, fun xs hx vs G' H' e so' r => ?_, w⟩
  split at hx
  · rename_i ds ed
    have rr := asD_rps r ed
    refine ⟨?_, fun p hp => ?_⟩
    · rw [rr.length]
      exact Nat.le_of_lt (small1000 hx.1)
    · exact q _ hx.2 _ G' _ e.ex (by rw [put_eq]; exact so'.setOwn hp rr)
  · exact hx.elim
/-- x = list(e) -/
def sOwnC (i : Nat) (te : DE) : DS := fun E ρ => te E.ex ρ fun x => match x with
  | .d (.list ds) => E.nx (put ρ i (.own ds))
  | .d (.tuple ds) => E.nx (put ρ i (.own ds))
  | .own ds => E.nx (put ρ i (.own ds))
  | _ => False
theorem ds_ownC {te : DE} {i : Nat} {x : Str} {p p2 pos' : Pos} (hg : Gl X "list") (hm : X.mg "list" = none) (hN : X.N.Nodup) (hi : X.N[i]? = some x) (hx : Loc X.env.scope x) (ha : PE X e (lE X.K W te)) (he : starEach [e] X.env = (false, eval e X.env) :: starEach [] X.env := by rfl)
    (hs : swapsWith (.Call (.Name "list" p) [e] [] p2) (some (.Name x pos')) pos.line X.env = pure false := by rfl) (hf : X.fn x = true ∨ X.env.scope.names.lookup x = some .local := by first | exact .inl rfl | exact .inr rfl | assumption) :
    PS X (.Assign [.Name x pos'] (.Call (.Name "list" p) [e] [] p2) pos) (lS X.K W (sOwnC i te)) :=
  (ps_set hN hi hx (pe_callTy call_list_of hg hm (by decide +kernel) (pa_cons ha pa_nil he) (by decide) (by decide) he (by rfl)) hs hf).imp fun E σ H h => by
    obtain ⟨z, H0, G0, G, ρ, ED, so, h, q, _, _, _, w⟩ := h
    refine ⟨z, H0, G0, G, ρ, ED.ex, _, so, h, fun x hx v G' H' e so' r => ?_, w⟩
    have fin : ∀ {a : Addr} {vs : List V} {ds : List D}, (SqL X.K H' a vs ∨ SqT X.K H' a vs) → Rps X.K G' vs ds → ED.nx (put ρ i (.own ds)) → ∃ p ys, [V.ref a] = [V.ref p] ∧ (SqL X.K H' p ys ∨ SqT X.K H' p ys) ∧ ∀ l, H' l = none → E.nx (σ.set i (some (.ref l))) (upd H' l (.lst ys)) := fun {a vs ds} hq rr hn =>
      ⟨a, vs, rfl, hq, fun p hp => q _ hn _ G' _ e.ex (by rw [put_eq]; exact so'.setOwn hp rr)⟩
    split at hx
    · obtain ⟨a, xs, rfl, h1, r1⟩ := rp_list r
      exact fin (.inl (.inl (so'.ok.sub.rd h1))) r1 hx
    · obtain ⟨a, xs, rfl, h1, r1⟩ := rp_tuple r
      exact fin (.inr (so'.ok.sub.sqT h1)) r1 hx
    · obtain ⟨a, xs, rfl, h1, _, _, _, r1⟩ := r
      exact fin (.inl (SqL.of h1)) r1 hx
    · exact hx.elim
/-- the owned list in slot i -/
def ownAt (ρ : Ro) (i : Nat) (Q : List D → Prop) : Prop := match get ρ i with
  | some (.own xs) => Q xs
  | _ => False
theorem ownAt_of {ρ : Ro} {i : Nat} {Q : List D → Prop} (h : ownAt ρ i Q) : ∃ xs, ρ[i]? = some (some (.own xs)) ∧ Q xs := by
  unfold ownAt at h
  split at h
  · rename_i xs e
    exact ⟨xs, get_eq e, h⟩
  · exact h.elim
/-- x.append(e) -/
def sApp (i : Nat) (te : DE) : DS := fun E ρ => ownAt ρ i fun xs => te E.ex ρ fun y => match y with
  | .d d => xs.length < sizeLine ∧ E.nx (put ρ i (.own (xs ++ [d])))
  | _ => False
theorem ds_app {te : DE} {i : Nat} {x : Str} {p apos cpos : Pos} (hN : X.N[i]? = some x) (hv : Vis X.env.scope x) (he : PE X e (lE X.K W te)) (hd : (x == ("__debug__" : Str)) = false := by decide) (hcd : (x == ("__classdict__" : Str)) = false := by decide)
    (hbase : attributeBase (.Name x p) "append" X.env (eval (.Name x p) X.env) = eval (.Name x p) X.env := by rfl)
    (hfew : ((backTo cpos (starEach [e] X.env)).all (fun x => !x.1) && (backToKw cpos (keywordEach [] X.env)).all (fun x => x.1.isSome)
      && decide (([e] : List Expr).length + ([] : List Keyword).length + (if ([] : List Keyword).isEmpty then 0 else 1) < 30)) = true := by rfl)
    (hline : (apos.endLine == cpos.line) = true := by rfl) (hse : starEach [e] X.env = (false, eval e X.env) :: starEach [] X.env := by rfl) (hplain : (backTo cpos (starEach [] X.env)).any (·.1) = false := by rfl)
    (hs : swapsWith (.Call (.Attribute (.Name x p) "append" apos) [e] [] cpos) none pos.line X.env = pure false := by rfl) :
    PS X (.Expr (.Call (.Attribute (.Name x p) "append" apos) [e] [] cpos) pos) (lS X.K W (sApp i te)) :=
  (ps_expr (pe_bm PySem.F.plainAttrs_list PySem.F.slot_list_append PySem.F.type_list_append mt_append (pe_var hN hv hd hcd) (pa_cons he pa_nil hse) hbase hfew hline hse hplain) hs).imp fun E σ H h => by
    obtain ⟨z, H0, G0, G, ρ, ED, so, h, q, _, _, _, w⟩ := h
    obtain ⟨xs, ei, h⟩ := ownAt_of h
    obtain ⟨v, e2, pa, vs, rfl, h1, h2, h3, h4, h5⟩ := so.slot i _ ei
    refine ⟨_, e2, .inl ⟨rfl, _, SqL.of h1⟩, z, H0, G0, G, ρ, ED.ex, _, so, h, fun y hy u G' H' e so' r => ?_, w⟩
    split at hy
    · have hH : H' pa = some (.lst vs) := e.kp pa _ h3 h1
      refine ⟨pa, vs, _, rfl, rfl, hH, by rw [h5.length]; exact hy.1, q _ hy.2 _ G' _ e.ex ?_⟩
      rw [put_eq]
      exact so'.putOwn ei e2 ((Rps.mono e.ex h5).append (.cons r .nil))
    · exact hy.elim
theorem list_extend_tup (l : Addr) (items : Array Value) (n : Nat) (b : Addr) (items2 : Array Value) (n2 : Nat) (dc : Option Addr) (sl) (hs0 : ¬(!items.isEmpty && Builtin.List.listTooLong (items.size + items2.size)) = true) (hs1 : items.size ≤ sizeLine) (hs2 : items.size + items2.size ≤ sizeLine + 1) :
    Meets (Builtin.«list.extend» ⟨[.ref l, .ref b], []⟩) (fun _ R s => s.heap.get? l = some { cls := .type "list", dict := none, data := .seq items n, slots := #[] } ∧ s.heap.get? b = some { cls := .type "tuple", dict := dc, data := .seq items2 n2, slots := sl } ∧ R (.ok (.ret Value.none)) { s with heap := s.heap.update l (Obj.mapSeq fun x => x ++ items2), toks := s.toks }) :=
  .of_wp fun prog w A R s h => by
    obtain ⟨hp, g, d, tk, os⟩ := s; obtain ⟨hl, hb, h⟩ := h; have f1 := AutoSeq1.idx_int; have f2 := AutoSeq1.sub_tuple_tuple; have f3 := AutoSeq1.sub_list_list; have f4 := AutoSeq1.sub_tuple_list; have f5 := AutoSeq1.sub_list_tuple;
    have hz' : (items ++ items2).size ≤ sizeLine + 1 := by rw [Array.size_append]; exact hs2
    wp_walk using (wpAny_updateSeq hl rfl (hz := hs1) (_hz' := hz')), AutoSeq1.wpAny_loadPart' hl, AutoSeq1.wpAny_loadPart' hb; exact ⟨_, rfl, h⟩
/-- x.extend(a list | a tuple) -/
def rExt (K : PySem.W.Frag) : V → List V → Hp → VK → Prop := fun x vs H Q => ∃ l b xs zs, x = .ref l ∧ vs = [.ref b] ∧ H l = some (.lst xs) ∧ (Rd H b (.lst zs) ∨ SqT K H b zs) ∧ xs.length + zs.length ≤ sizeLine ∧ Q .non (upd H l (.lst (xs ++ zs)))
theorem mt_ext : MtM X "list.extend" (rExt X.K) := by
  intro pins s σ H x vs v us Q I rx rv h
  obtain ⟨l, b, xs, zs, rfl, rfl, hH, hB, hz, q⟩ := h
  cases rx
  obtain ⟨u, rfl, ru⟩ := rv.one
  cases ru
  obtain ⟨z, its, n, r, hl, e⟩ := I.lstM hH
  rcases hB with hB | hB
  · obtain ⟨z2, its2, n2, r2, e2⟩ := hB.ok I.hok
    have hl2 := r2.length
    have hsz : its.toArray.size + its2.toArray.size ≤ sizeLine := by rw [List.size_toArray, List.size_toArray]; omega
    have hlong : ¬ (!its.toArray.isEmpty && Builtin.List.listTooLong (its.toArray.size + its2.toArray.size)) = true := by
      rw [notLongL hsz, Bool.and_false]
      exact Bool.false_ne_true
    refine call_meets F.slot_list_extend ⟨_, e, rfl⟩ F.entry_list_extend (F.args_list_extend_2 _ _)
      (AutoSeq1.list_extend_list_list_0 l its.toArray n b its2.toArray n2 hlong (by rw [List.size_toArray]; omega) (by omega)) ⟨e, e2, ?_⟩
    refine ⟨.non, _, I.lset (its' := its ++ its2) hH e (by simp) (r.append r2) ?_, rfl, q⟩
    rw [List.length_append]
    omega
  · obtain ⟨its2, r2, ⟨o2, ho2, hc2, n2, hd2⟩, z2⟩ := I.tuple hB
    have hl2 := r2.length
    obtain ⟨cls, dc, data, sl⟩ := o2
    simp only at hc2 hd2
    subst hc2 hd2
    have hsz : its.toArray.size + its2.toArray.size ≤ sizeLine := by rw [List.size_toArray, List.size_toArray]; omega
    have hlong : ¬ (!its.toArray.isEmpty && Builtin.List.listTooLong (its.toArray.size + its2.toArray.size)) = true := by
      rw [notLongL hsz, Bool.and_false]
      exact Bool.false_ne_true
    refine call_meets F.slot_list_extend ⟨_, e, rfl⟩ F.entry_list_extend (F.args_list_extend_2 _ _)
      (list_extend_tup l its.toArray n b its2.toArray n2 dc sl hlong (by rw [List.size_toArray]; omega) (by omega)) ⟨e, ho2, ?_⟩
    refine ⟨.non, _, I.lset (its' := its ++ its2) hH e (by simp) (r.append r2) ?_, rfl, q⟩
    rw [List.length_append]
    omega
def sExt (i : Nat) (te : DE) : DS := fun E ρ => ownAt ρ i fun xs => te E.ex ρ fun y => match y with
  | .d (.list ds) => xs.length + ds.length ≤ sizeLine ∧ E.nx (put ρ i (.own (xs ++ ds)))
  | .d (.tuple ds) => xs.length + ds.length ≤ sizeLine ∧ E.nx (put ρ i (.own (xs ++ ds)))
  | _ => False
theorem ds_ext {te : DE} {i : Nat} {x : Str} {p apos cpos : Pos} (hN : X.N[i]? = some x) (hv : Vis X.env.scope x) (he : PE X e (lE X.K W te)) (hd : (x == ("__debug__" : Str)) = false := by decide) (hcd : (x == ("__classdict__" : Str)) = false := by decide)
    (hbase : attributeBase (.Name x p) "extend" X.env (eval (.Name x p) X.env) = eval (.Name x p) X.env := by rfl)
    (hfew : ((backTo cpos (starEach [e] X.env)).all (fun x => !x.1) && (backToKw cpos (keywordEach [] X.env)).all (fun x => x.1.isSome)
      && decide (([e] : List Expr).length + ([] : List Keyword).length + (if ([] : List Keyword).isEmpty then 0 else 1) < 30)) = true := by rfl)
    (hline : (apos.endLine == cpos.line) = true := by rfl) (hse : starEach [e] X.env = (false, eval e X.env) :: starEach [] X.env := by rfl) (hplain : (backTo cpos (starEach [] X.env)).any (·.1) = false := by rfl)
    (hs : swapsWith (.Call (.Attribute (.Name x p) "extend" apos) [e] [] cpos) none pos.line X.env = pure false := by rfl) :
    PS X (.Expr (.Call (.Attribute (.Name x p) "extend" apos) [e] [] cpos) pos) (lS X.K W (sExt i te)) :=
  (ps_expr (pe_bm PySem.F.plainAttrs_list PySem.F.slot_list_extend PySem.F.type_list_extend mt_ext (pe_var hN hv hd hcd) (pa_cons he pa_nil hse) hbase hfew hline hse hplain) hs).imp fun E σ H h => by
    obtain ⟨z, H0, G0, G, ρ, ED, so, h, q, _, _, _, w⟩ := h
    obtain ⟨xs, ei, h⟩ := ownAt_of h
    obtain ⟨v, e2, pa, vs, rfl, h1, h2, h3, h4, h5⟩ := so.slot i _ ei
    refine ⟨_, e2, .inl ⟨rfl, _, SqL.of h1⟩, z, H0, G0, G, ρ, ED.ex, _, so, h, fun y hy u G' H' e so' r => ?_, w⟩
    have hH : H' pa = some (.lst vs) := e.kp pa _ h3 h1
    have r1 := Rps.mono e.ex h5
    split at hy
    · obtain ⟨b, ys, rfl, g1, g2⟩ := rp_list r
      refine ⟨pa, b, vs, ys, rfl, rfl, hH, .inl (so'.ok.sub.rd g1), by rw [h5.length, g2.length]; exact hy.1, q _ hy.2 _ G' _ e.ex ?_⟩
      rw [put_eq]
      exact so'.putOwn ei e2 (r1.append g2)
    · obtain ⟨b, ys, rfl, g1, g2⟩ := rp_tuple r
      refine ⟨pa, b, vs, ys, rfl, rfl, hH, .inr (so'.ok.sub.sqT g1), by rw [h5.length, g2.length]; exact hy.1, q _ hy.2 _ G' _ e.ex ?_⟩
      rw [put_eq]
      exact so'.putOwn ei e2 (r1.append g2)
    · exact hy.elim
/-- x[k] = e -/
@[irreducible] def setAt (xs : List D) (k : Int) (d : D) (Q : List D → Prop) : Prop := match ixN xs.length k with
  | some j => Q (xs.set j d)
  | none => False
theorem setAt_of {xs : List D} {k : Int} {d : D} {Q : List D → Prop} (h : setAt xs k d Q) : ∃ j, ixN xs.length k = some j ∧ Q (xs.set j d) := by
  unfold setAt at h
  split at h
  · rename_i j e
    exact ⟨j, e, h⟩
  · exact h.elim
def sPut (i : Nat) (tk te : DE) : DS := fun E ρ => te E.ex ρ fun y => match y with
  | .d d => ownAt ρ i fun xs => tk E.ex ρ fun k => match k with
    | .d (.int k) => setAt xs k d fun ys => E.nx (put ρ i (.own ys))
    | _ => False
  | _ => False
theorem ds_put {k : Expr} {tk te : DE} {i : Nat} {x : Str} {p p2 : Pos} (hN : X.N[i]? = some x) (hv : Vis X.env.scope x) (hk : PE X k (lE X.K W tk)) (he : PE X e (lE X.K W te)) (hd : (x == ("__debug__" : Str)) = false := by decide) (hcd : (x == ("__classdict__" : Str)) = false := by decide)
    (ha : ∀ v, assign (.Subscript (.Name x p) k p2) X.env v = (do
      let ov ← holding [v] (eval (.Name x p) X.env)
      let iv ← holding [v, ov] (eval k X.env)
      standAt p2
      holding [v, ov, iv] (setItem ov iv v)
      release [v, ov, iv] []) := by intro _; rfl)
    (hs : swapsWithSole [.Subscript (.Name x p) k p2] e pos.line X.env = pure false := by rfl) (hw : swappedStores [.Subscript (.Name x p) k p2] e X.env = pure none := by rfl)
    (h1 : (assignEach [.Subscript (.Name x p) k p2] X.env).map (·.2) = [assign (.Subscript (.Name x p) k p2) X.env] := by rfl) :
    PS X (.Assign [.Subscript (.Name x p) k p2] e pos) (lS X.K W (sPut i tk te)) :=
  (ps_asg he (pg_sub (pe_var hN hv hd hcd) hk set_list ha) hs hw h1).imp fun E σ H h => by
    obtain ⟨z, H0, G0, G, ρ, ED, so, h, q, _, _, _, w⟩ := h
    refine ⟨z, H0, G0, G, ρ, ED.ex, _, so, h, fun y hy u G' H' e so' r => ?_, w⟩
    split at hy
    · obtain ⟨xs, ei, hy⟩ := ownAt_of hy
      obtain ⟨v, e2, pa, vs, rfl, h1, h2, h3, h4, h5⟩ := so'.slot i _ ei
      refine ⟨_, e2, z, H0, G0, G', ρ, ED.ex, _, so', hy, fun kk hk v2 G2 H2 e3 so2 r2 => ?_, w.mono e.ex⟩
      split at hk
      · obtain rfl := rp_int r2
        obtain ⟨j, ej, hk⟩ := setAt_of hk
        have hH : H2 pa = some (.lst vs) := e3.kp pa _ h3 h1
        refine ⟨pa, vs, _, j, rfl, rfl, hH, by rw [h5.length]; exact ej, q _ hk _ G2 _ (e.ex.trans e3.ex) ?_⟩
        rw [put_eq]
        exact so2.putOwn ei e2 (Rps.set (Rp.mono e3.ex r) j (Rps.mono e3.ex h5))
      · exact hk.elim
    · exact hy.elim
/-- x op= e (whole numbers, texts) -/
def OpP (K : PySem.W.Frag) (r : DV → DV → (DV → Prop) → Prop) (s : TIp) : Prop := Op2 K r s
def sAug (i : Nat) (r : DV → DV → (DV → Prop) → Prop) (te : DE) : DS := fun E ρ => match get ρ i with
  | some x => te E.ex ρ fun y => r x y fun z => nown z ∧ E.nx (put ρ i z)
  | none => False
theorem ds_aug {te : DE} {op : Operator} {r : DV → DV → (DV → Prop) → Prop} {s : TIp} {i : Nat} {x : Str} {pos' : Pos} (hr : Op2 X.K r s) (ho : PIp X op s) (hN : X.N.Nodup) (hi : X.N[i]? = some x) (hx : Loc X.env.scope x) (he : PE X e (lE X.K W te))
    (hf : X.fn x = true ∨ X.env.scope.names.lookup x = some .local := by first | exact .inl rfl | exact .inr rfl | assumption) : PS X (.AugAssign (.Name x pos') op e pos) (lS X.K W (sAug i r te)) := (ps_aug hN hi hx he ho hf).imp fun E σ H h => by
  obtain ⟨z, H0, G0, G, ρ, ED, so, h, q, _, _, _, w⟩ := h
  unfold sAug at h
  split at h
  · rename_i x ex
    obtain ⟨v, e2, r1⟩ := so.slot i _ (get_eq ex)
    refine ⟨v, e2, z, H0, G0, G, ρ, ED.ex, _, so, h, fun y hy u G' H' e so' r2 => ?_, w⟩
    exact hr so' (r1.go e) r2 hy fun y hy u G2 H2 e2 so2 r3 => q _ hy.2 _ G2 H2 (e.ex.trans e2.ex) (by rw [put_eq]; exact so2.set r3 hy.1.ne)
  · exact h.elim
theorem op2AddI {K : PySem.W.Frag} : Op2 K (oI0 fun i j => i + j) (ipI fun i j => i + j) := op2I0
theorem op2SubI {K : PySem.W.Frag} : Op2 K (oI0 fun i j => i - j) (ipI fun i j => i - j) := op2I0
theorem ds_augAdd {te : DE} {i : Nat} {x : Str} {pos' : Pos} (hN : X.N.Nodup) (hi : X.N[i]? = some x) (hx : Loc X.env.scope x) (he : PE X e (lE X.K W te))
    (hf : X.fn x = true ∨ X.env.scope.names.lookup x = some .local := by first | exact .inl rfl | exact .inr rfl | assumption) : PS X (.AugAssign (.Name x pos') .Add e pos) (lS X.K W (sAug i (oI0 fun i j => i + j) te)) := ds_aug op2AddI ip_add hN hi hx he hf
theorem ds_augSub {te : DE} {i : Nat} {x : Str} {pos' : Pos} (hN : X.N.Nodup) (hi : X.N[i]? = some x) (hx : Loc X.env.scope x) (he : PE X e (lE X.K W te))
    (hf : X.fn x = true ∨ X.env.scope.names.lookup x = some .local := by first | exact .inl rfl | exact .inr rfl | assumption) : PS X (.AugAssign (.Name x pos') .Sub e pos) (lS X.K W (sAug i (oI0 fun i j => i - j) te)) := ds_aug op2SubI ip_sub hN hi hx he hf
/-! ### the room: a list of one int, kept by the zone -/
def dRoom (i : Nat) : DE := fun _ ρ Q => get ρ i = some .room ∧ ∀ n : Int, Q (.d (.int n))
theorem de_room {i : Nat} {x : Str} {p p2 : Pos} {j} (hN : X.N[i]? = some x) (hv : Vis X.env.scope x) (hd : (x == ("__debug__" : Str)) = false := by decide) (hcd : (x == ("__classdict__" : Str)) = false := by decide) :
    PE X (.Subscript (.Name x p) (.Constant (.int 0) j p2) pos) (lE X.K W (dRoom i)) := (pe_ix ix_list (pe_var hN hv hd hcd) pe_int (fun _ _ => rfl)).imp fun σ H Q h => by
  obtain ⟨z, H0, G0, G, ρ, Wd, Qd, so, h, q, w⟩ := h
  obtain ⟨v, e2, r, hr, rfl⟩ := so.slot i _ (get_eq h.1)
  obtain ⟨n, hn⟩ := so.ok.room r hr
  exact ⟨_, e2, r, [.int n], 0, .int n, rfl, rfl, SqL.of hn, rfl, q _ (h.2 n) _ G H (Go.refl z G H) so (.int n)⟩
def sRoom (i : Nat) (te : DE) : DS := fun E ρ => te E.ex ρ fun y => match y with
  | .d (.int _) => get ρ i = some .room ∧ E.nx ρ
  | _ => False
theorem Ok.putRoom {z : Zn} {H0 G0 G H : Hp} (ok : Ok z H0 G0 G H) {r : Addr} (hr : r ∈ z.rooms) (hb : ∀ t ∈ z.bags, r ≠ t.1 ∧ r ≠ t.2.1 ∧ r ≠ t.2.2) (n : Int) : Ok z H0 G0 G (upd H r (.lst [.int n])) := by
  have hF : z.F r := .inr hr
  refine ⟨fun a u ea => ?_, fun t ht => (ok.bag t ht).same fun a ha => upd_ne (fun e => ?_), fun r' hr' => ?_, ok.dis, fun a u nf ea => ?_, ok.old, ok.grow⟩
  · have hne : a ≠ r := fun e => by
      subst e
      rw [ok.dis a hF] at ea
      cases ea
    rw [upd_ne hne]
    exact ok.sub a u ea
  · subst e
    obtain ⟨b1, b2, b3⟩ := hb t ht
    rcases ha with h | h | h
    · exact b1 h
    · exact b2 h
    · exact b3 h
  · by_cases e : r' = r
    · exact ⟨n, by rw [e]; exact upd_same⟩
    · obtain ⟨m, hm⟩ := ok.room r' hr'
      exact ⟨m, by rw [upd_ne e]; exact hm⟩
  · have hne : a ≠ r := fun e => by
      subst e
      exact nf hF
    rw [upd_ne hne]
    exact ok.keep a u nf ea
theorem SO.putRoom {K : PySem.W.Frag} {z : Zn} {H0 G0 G H : Hp} {ρ : Ro} {σ : L2.St} (so : SO K z H0 G0 ρ σ G H) {r : Addr} (hr : r ∈ z.rooms) (n : Int) : SO K z H0 G0 ρ σ G (upd H r (.lst [.int n])) := by
  refine ⟨so.ok.putRoom hr (z.ap r hr) n, so.len, fun i x e => ?_, so.apart⟩
  obtain ⟨v, e1, q⟩ := so.slot i x e
  refine ⟨v, e1, ?_⟩
  cases x with
  | own xs =>
    obtain ⟨p, us, rfl, g1, g2, g3, g4, g5⟩ := q
    have hp : p ≠ r := fun e => g3 (e ▸ .inr hr)
    exact ⟨p, us, rfl, by rw [upd_ne hp]; exact g1, g2, g3, g4, g5⟩
  | d _ => exact q
  | bag => exact q
  | room => exact q
  | ref _ => exact q
  | err _ _ _ => exact q
theorem ds_room {te : DE} {i : Nat} {x : Str} {p p2 p3 : Pos} {j} (hN : X.N[i]? = some x) (hv : Vis X.env.scope x) (he : PE X e (lE X.K W te)) (hd : (x == ("__debug__" : Str)) = false := by decide) (hcd : (x == ("__classdict__" : Str)) = false := by decide)
    (hs : swapsWithSole [.Subscript (.Name x p) (.Constant (.int 0) j p3) p2] e pos.line X.env = pure false := by rfl) (hw : swappedStores [.Subscript (.Name x p) (.Constant (.int 0) j p3) p2] e X.env = pure none := by rfl)
    (h1 : (assignEach [.Subscript (.Name x p) (.Constant (.int 0) j p3) p2] X.env).map (·.2) = [assign (.Subscript (.Name x p) (.Constant (.int 0) j p3) p2) X.env] := by rfl) :
    PS X (.Assign [.Subscript (.Name x p) (.Constant (.int 0) j p3) p2] e pos) (lS X.K W (sRoom i te)) :=
  (ps_asg he (pg_sub (pe_var hN hv hd hcd) pe_int set_list (by intro _; rfl)) hs hw h1).imp fun E σ H h => by
    obtain ⟨z, H0, G0, G, ρ, ED, so, h, q, _, _, _, w⟩ := h
    refine ⟨z, H0, G0, G, ρ, ED.ex, _, so, h, fun y hy u G' H' e so' r => ?_, w⟩
    split at hy
    · rename_i m
      obtain rfl := rp_int r
      obtain ⟨v, e2, r, hr, rfl⟩ := so'.slot i _ (get_eq hy.1)
      obtain ⟨n, hn⟩ := so'.ok.room r hr
      exact ⟨_, e2, r, [.int n], 0, 0, rfl, rfl, hn, rfl, q _ hy.2 _ G' _ e.ex (so'.putRoom hr m)⟩
    · exact hy.elim
end
end DL

set_option Elab.async false
set_option linter.all false
set_option maxRecDepth 100000
set_option maxHeartbeats 2000000
namespace DL
open PySem PySem.Spec PyProof.Rows L2

/-! ### promises over data -/
/-- from the arguments, what is wanted of an exception, what is wanted of the value -/
abbrev DSp := List DV → (XD → Prop) → (DV → Prop) → Prop
def lSp (K : PySem.W.Frag) (t : DSp) : Sp := fun vs H Q E => ∃ z G ds, ∃ Wd : XD → Prop, ∃ Qd : DV → Prop, Ok z H G G H ∧ RVs K z H G H vs ds ∧ t ds Wd Qd ∧
  (∀ x, Qd x → nown x → ∀ v G' H', Ok z H G G' H' → RV K z H G' H' v x → Q v H') ∧
  (∀ x, Wd x → ∀ c d G' H', Ok z H G G' H' → XR K G' H' c d x → E c d H')
theorem RV.h0 {K : PySem.W.Frag} {z : Zn} {H0 H1 G H G2 H2 : Hp} {v : V} : ∀ {x : DV}, RV K z H0 G H v x → nown x → (∀ d w, Rp K G w d → Rp K G2 w d) → RV K z H1 G2 H2 v x
  | .d _, h, _, f => f _ _ h
  | .bag, h, _, _ => h
  | .room, h, _, _ => h
  | .ref _, h, _, _ => h
  | .err _ _ _, _, n, _ => n.elim
  | .own _, _, n, _ => n.elim
theorem RVs.h0 {K : PySem.W.Frag} {z : Zn} {H0 H1 G H H2 : Hp} : ∀ {vs : List V} {xs : List DV}, RVs K z H0 G H vs xs → RVs K z H1 G H2 vs xs
  | _, _, .nil => .nil
  | _, _, .cons (x := x) r n h => .cons (by
    cases x with
    | own ys => exact (n ys rfl).elim
    | _ => exact r) n h.h0
theorem Ok.entry {z : Zn} {H0 G0 G H : Hp} (ok : Ok z H0 G0 G H) : Ok z H G G H := ⟨ok.sub, ok.bag, ok.room, ok.dis, fun _ _ _ e => e, fun _ _ _ e => e, Ex.refl G⟩
theorem Ok.go {z : Zn} {G H G' H' : Hp} (ok : Ok z H G G' H') : Go z G H G' H' := ⟨ok.grow, fun a o n e => ok.keep a o n e, fun a o n e g => ok.old a o e g⟩
theorem Ok.back {z : Zn} {H0 G0 G H G' H' : Hp} (ok : Ok z H0 G0 G H) (o2 : Ok z H G G' H') : Ok z H0 G0 G' H' :=
  ⟨o2.sub, o2.bag, o2.room, o2.dis, fun a o n e => o2.keep a o n (ok.keep a o n e), fun a o e g => by
    by_cases hF : z.F a
    · exact o2.dis a hF
    · exact o2.old a o (ok.keep a o hF e) (ok.old a o e g), ok.grow.trans o2.grow⟩
def startR (n : Nat) (as : List DV) : Ro := as.map some ++ List.replicate (n - as.length) none
theorem RVs.get {K : PySem.W.Frag} {z : Zn} {H0 G H : Hp} : ∀ {vs : List V} {xs : List DV} {i : Nat} {x : DV}, RVs K z H0 G H vs xs → xs[i]? = some x → ∃ v, vs[i]? = some v ∧ RV K z H0 G H v x ∧ ∀ ys, x ≠ .own ys
  | _, _, _, _, .nil, e => by simp at e
  | _, _, 0, _, .cons r n h, e => by simp at e; subst e; exact ⟨_, rfl, r, n⟩
  | _, _, i + 1, x, .cons r n h, e => by
    obtain ⟨v, h1, h2⟩ := RVs.get (i := i) (x := x) h (by simpa using e)
    exact ⟨v, by simpa using h1, h2⟩
theorem startR_get {n : Nat} {as : List DV} {i : Nat} {x : DV} (h : (startR n as)[i]? = some (some x)) : as[i]? = some x := by
  unfold startR at h
  by_cases hi : i < as.length
  · rw [List.getElem?_append_left (by simpa using hi), List.getElem?_map] at h
    cases e : as[i]? with
    | none => rw [e] at h; cases h
    | some a => rw [e] at h; cases h; rfl
  · rw [List.getElem?_append_right (by simpa using hi), List.getElem?_replicate] at h
    split at h <;> cases h
theorem so_start {K : PySem.W.Frag} {z : Zn} {G H : Hp} {N : List Str} {vs : List V} {as : List DV} (ok : Ok z H G G H) (r : RVs K z H G H vs as) (hl : as.length ≤ N.length) : SO K z H G (startR N.length as) (L2.start N vs) G H := by
  have hv := r.length
  refine ⟨ok, ?_, fun i x e => ?_, fun i j xs ys p e1 _ _ _ => ?_⟩
  · unfold startR L2.start
    simp only [List.length_append, List.length_map, List.length_replicate]
    omega
  · obtain ⟨v, h1, h2, _⟩ := r.get (startR_get e)
    refine ⟨v, ?_, h2⟩
    have hi : i < vs.length := (List.getElem?_eq_some_iff.mp h1).1
    unfold L2.start
    rw [List.getElem?_append_left (by simpa using hi), List.getElem?_map, h1]
    rfl
  · obtain ⟨v, _, _, h3⟩ := r.get (startR_get e1)
    exact absurd rfl (h3 xs)
/-- nothing is raised -/
def noX : XD → Prop := fun _ => False
/-- a body keeps a promise -/
def Body (n : Nat) (bt : DS) (t : DSp) : Prop := ∀ as Wd Qd, t as Wd Qd → bt { nx := fun _ => Qd (.d .none), rt := fun x => nown x ∧ Qd x, bk := fun _ => False, ct := fun _ => False, ex := fun x _ => Wd x } (startR n as)
section
variable {P : Program} {w : World} {K : PySem.W.Frag} {mg : Str → Option Value} {base : Heap} {x qual : Str} {params : Arguments} {body : List Stmt} {scope : Scope} {dvs : List V} {kws : List (Str × V)} {f : Addr} {fd : FuncData} {N ps : List Str} {k : Nat} {t : DSp} {bt : DS}

/-- a def that raises nothing -/
theorem fn_d (F : FunD K x qual params body scope dvs kws f fd) (S : FnScope N ps scope) (len : ∀ as Wd Qd, t as Wd Qd → as.length = ps.length)
    (hbody : ∀ (cdv : Value) (A : Around) (outer : List Env) (s : Shared) (H : Hp) (E : XK), Room k (A.deeper (envOfC qual scope s.heap.objs.size f cdv)) → ∃ W : WX, PSs (cxOf CX0 P w K mg base N qual scope f cdv A outer s H E).nox body (lS K W bt))
    (sem : Body N.length bt fun as Wd Qd => t as noX Qd) : FnOk P w K mg base CX0 (k + 1) f fd ps (lSp K fun as _ Qd => t as noX Qd) := by
  have hpl : ps.length ≤ N.length := by have := congrArg List.length S.pre; rw [List.length_take] at this; omega
  refine F.ok S (fun vs H Q E h => ?_) fun cdv A outer s H vs Q E hr h => ?_
  · obtain ⟨z, G, ds, Wd, Qd, ok, r, h, _⟩ := h
    rw [r.length]
    exact len _ _ _ h
  · obtain ⟨z, G, ds, Wd, Qd, ok, r, h, q, _⟩ := h
    obtain ⟨W, hb⟩ := hbody cdv A outer s H E hr
    refine ⟨_, hb.nox, z, H, G, G, startR N.length ds, _, so_start ok r (by rw [len _ _ _ h]; exact hpl), sem ds noX Qd h, fun ρ' hn σ' G' H' e so' => ?_, fun x hx v ρ' σ' G' H' e so' rv => ?_, fun _ z => z.elim, fun _ z => z.elim, fun _ _ z => z.elim⟩
    · exact q _ hn trivial .non G' H' so'.ok .non
    · exact q x hx.2 hx.1 v G' H' so'.ok rv
end
/-! ### calls -/
def dCall (t : DSp) (dd : List D) (ta : DA) : DE := fun Wd ρ Q => ta Wd ρ fun xs => t (xs ++ dd.map .d) (fun x => Wd x ρ) fun x => nown x → Q x
/-- values that stand for these data in every heap -/
def RpsC (K : PySem.W.Frag) (vs : List V) (ds : List D) : Prop := ∀ G : Hp, Rps K G vs ds
theorem RVs.app {K : PySem.W.Frag} {z : Zn} {H0 G H : Hp} : ∀ {vs ws : List V} {xs ys : List DV}, RVs K z H0 G H vs xs → RVs K z H0 G H ws ys → RVs K z H0 G H (vs ++ ws) (xs ++ ys)
  | _, _, _, _, .nil, h => h
  | _, _, _, _, .cons r n t, h => .cons r n (t.app h)
theorem Rps.rvs {K : PySem.W.Frag} {z : Zn} {H0 G H : Hp} : ∀ {vs : List V} {ds : List D}, Rps K G vs ds → RVs K z H0 G H vs (ds.map .d)
  | _, _, .nil => .nil
  | _, _, .cons r h => .cons r (fun _ z => nomatch z) h.rvs
section
variable {X : Cx} {W : WX} {k : Nat} {f : Addr} {fd : FuncData} {ps : List Str} {t : DSp} {dvs : List V} {ds : List Value} {dd : List D} {x : Str} {p pos : Pos} {e : Expr} {es : List Expr} {ta : DA}

/-- what a call's reading asks of the callee's promise -/
theorem lE_call {σ : L2.St} {H : Hp} {Q : VK} {E : XK} (hd : RpsC X.K dvs dd) (hE : ∀ c d H', W c d σ H' → E c d H') (h : lE X.K W (dCall t dd ta) σ H Q) : tCall (lSp X.K t) dvs E (lA X.K W ta) σ H Q := by
  obtain ⟨z, H0, G0, G, ρ, Wd, Qd, so, h, q, w⟩ := h
  refine ⟨z, H0, G0, G, ρ, Wd, _, so, h, fun xs hx vs G1 H1 e1 so1 r1 => ?_, w⟩
  refine ⟨z, G1, _, _, _, so1.ok.entry, (r1.app (hd G1).rvs).h0, hx, fun y hy ny v G2 H2 ok2 r2 => ?_, fun y hy c d G2 H2 ok2 xr => ?_⟩
  · have g2 := ok2.go
    exact q y (hy ny) v G2 H2 (e1.trans g2) (so1.go g2 (so1.ok.back ok2)) (r2.h0 ny fun _ _ q => q)
  · have g2 := ok2.go
    exact hE _ _ _ (w y ρ hy c d σ G2 H2 (e1.trans g2).ex (so1.go g2 (so1.ok.back ok2)) xr)
theorem de_call (F : FnOk X.prog X.w X.K X.mg X.base CX0 k f fd ps (lSp X.K t)) (hr : Room k X.A) (hg : Gl X x) (hm : X.mg x = some (.ref f)) (hk : PySem.W.keepIn X.K (.ref f) = true) (hb : Binds X.K fd ps ds) (hd : Vals dvs ds) (hdd : RpsC X.K dvs dd)
    (ha : PA X (e :: es) (lA X.K W ta)) (hdb : (x == ("__debug__" : Str)) = false := by decide) (he : starEach (e :: es) X.env = (false, eval e X.env) :: starEach es X.env := by rfl) (hpl : (backTo pos (starEach es X.env)).any (·.1) = false := by rfl) :
    PE X (.Call (.Name x p) (e :: es) [] pos) (lE X.K W (dCall (fun as _ Q => t as noX Q) dd ta)) := (pe_call F hr hg hm hk hb hd pass0 ha hdb he hpl).imp fun σ H Q h => by
  obtain ⟨z, H0, G0, G, ρ, Wd, Qd, so, h, q, w⟩ := h
  refine ⟨z, H0, G0, G, ρ, Wd, _, so, h, fun xs hx vs G1 H1 e1 so1 r1 => ?_, w⟩
  refine ⟨z, G1, _, noX, _, so1.ok.entry, (r1.app (hdd G1).rvs).h0, hx, fun y hy ny v G2 H2 ok2 r2 => ?_, fun y hy => hy.elim⟩
  have g2 := ok2.go
  exact q y (hy ny) v G2 H2 (e1.trans g2) (so1.go g2 (so1.ok.back ok2)) (r2.h0 ny fun _ _ q => q)
theorem de_call0 (F : FnOk X.prog X.w X.K X.mg X.base CX0 k f fd ps (lSp X.K t)) (hr : Room k X.A) (hg : Gl X x) (hm : X.mg x = some (.ref f)) (hk : PySem.W.keepIn X.K (.ref f) = true) (hb : Binds X.K fd ps ds) (hd : Vals dvs ds) (hdd : RpsC X.K dvs dd)
    (hdb : (x == ("__debug__" : Str)) = false := by decide) : PE X (.Call (.Name x p) [] [] pos) (lE X.K W (dCall (fun as _ Q => t as noX Q) dd dNil)) := (pe_call0 F hr hg hm hk hb hd pass0 hdb).imp fun σ H Q h => by
  obtain ⟨z, H0, G0, G, ρ, Wd, Qd, so, h, q, w⟩ := h
  refine ⟨z, G, _, noX, _, so.ok.entry, Rps.rvs (hdd G), h, fun y hy ny v G2 H2 ok2 r2 => ?_, fun y hy => hy.elim⟩
  have g2 := ok2.go
  exact q y (hy ny) v G2 H2 g2 (so.go g2 (so.ok.back ok2)) (r2.h0 ny fun _ _ q => q)
end
end DL

set_option Elab.async false
set_option linter.all false
set_option maxRecDepth 100000
set_option maxHeartbeats 2000000
namespace DL
open PySem PySem.Spec PyProof.Rows L2

/-! ### what the module holds -/
structure GlD (mg : Str → Option Value) (K : PySem.W.Frag) (x : Str) (y : D) : Prop where
  ex : ∃ (u : Value) (v : V), mg x = some u ∧ RelV v u ∧ ∀ G : Hp, Rp K G v y
/-- a table with text keys -/
structure KTab (mg : Str → Option Value) (K : PySem.W.Frag) (w : World) (x : Str) (tbl : List (Str × D)) : Prop where
  ex : ∃ (d : Addr) (es : Array DictEntry) (n : Nat), mg x = some (.ref d) ∧ KDict K w d es n ∧ ∀ z : Str, match tbl.lookup z with
    | none => PySem.W.nsIn K d z = some none
    | some y => ∃ (u : Value) (v : V), PySem.W.nsIn K d z = some (some u) ∧ RelV v u ∧ ∀ G : Hp, Rp K G v y
/-- a def that may be called by its name -/
structure CalD (P : Program) (w : World) (K : PySem.W.Frag) (mg : Str → Option Value) (base : Heap) (k : Nat) (x : Str) (t : DSp) (dd : List D) : Prop where
  ex : ∃ (f : Addr) (fd : FuncData) (ps : List Str) (ds : List Value) (dvs : List V), FnOk P w K mg base CX0 k f fd ps (lSp K t) ∧ mg x = some (.ref f) ∧ PySem.W.keepIn K (.ref f) = true ∧ Binds K fd ps ds ∧ Vals dvs ds ∧ RpsC K dvs dd
theorem CalD.mono {P : Program} {w : World} {K : PySem.W.Frag} {mg : Str → Option Value} {base : Heap} {j k : Nat} {x : Str} {t : DSp} {dd : List D} (c : CalD P w K mg base j x t dd) (h : j ≤ k) : CalD P w K mg base k x t dd := by
  obtain ⟨f, fd, ps, ds, dvs, F, r⟩ := c.ex
  exact ⟨f, fd, ps, ds, dvs, F.mono h, r⟩
def lo0 (t : DSp) : DSp := fun as _ Q => t as noX Q
section
variable {X : Cx} {W : WX} {k j : Nat} {t : DSp} {dd : List D} {x : Str} {y : D} {p pos : Pos} {e a b : Expr} {es : List Expr} {ta : DA} {te : DE}
theorem de_g (c : GlD X.mg X.K x y) (hg : Gl X x) (hd : (x == ("__debug__" : Str)) = false := by decide) : PE X (.Name x pos) (lE X.K W (dC y)) := by
  obtain ⟨u, v, hm, r, h⟩ := c.ex
  exact de_glob hg hm r h hd
theorem de_c (c : CalD X.prog X.w X.K X.mg X.base k x (lo0 t) dd) (hr : Room j X.A) (hk : k ≤ j) (hg : Gl X x) (ha : PA X (e :: es) (lA X.K W ta)) (hdb : (x == ("__debug__" : Str)) = false := by decide) (he : starEach (e :: es) X.env = (false, eval e X.env) :: starEach es X.env := by rfl) (hpl : (backTo pos (starEach es X.env)).any (·.1) = false := by rfl) :
    PE X (.Call (.Name x p) (e :: es) [] pos) (lE X.K W (dCall (lo0 t) dd ta)) := by
  obtain ⟨f, fd, ps, ds, dvs, F, hm, kp, hb, hd, hdd⟩ := c.ex
  exact de_call (t := lo0 t) F (hr.mono hk) hg hm kp hb hd hdd ha hdb he hpl
theorem de_c0 (c : CalD X.prog X.w X.K X.mg X.base k x (lo0 t) dd) (hr : Room j X.A) (hk : k ≤ j) (hg : Gl X x) (hdb : (x == ("__debug__" : Str)) = false := by decide) : PE X (.Call (.Name x p) [] [] pos) (lE X.K W (dCall (lo0 t) dd dNil)) := by
  obtain ⟨f, fd, ps, ds, dvs, F, hm, kp, hb, hd, hdd⟩ := c.ex
  exact de_call0 (t := lo0 t) F (hr.mono hk) hg hm kp hb hd hdd hdb
/-! ### tables of the module -/
@[irreducible] def oKin (neg : Bool) (tbl : List (Str × D)) : DV → (DV → Prop) → Prop
  | .d (.str z), Q => Q (.d (.bool (ng neg (tbl.lookup z).isSome)))
  | _, _ => False
@[irreducible] def oKget (tbl : List (Str × D)) : DV → (DV → Prop) → Prop
  | .d (.str z), Q => match tbl.lookup z with
    | some y => Q (.d y)
    | none => False
  | _, _ => False
theorem KTab.is {mg : Str → Option Value} {K : PySem.W.Frag} {w : World} {tbl : List (Str × D)} (c : KTab mg K w x tbl) : ∃ (d : Addr) (es : Array DictEntry) (n : Nat), mg x = some (.ref d) ∧ KDict K w d es n ∧ ∀ z : Str, ∃ r, PySem.W.nsIn K d z = some r ∧ r.isSome = (tbl.lookup z).isSome ∧ ∀ y, tbl.lookup z = some y → ∃ u v, r = some u ∧ RelV v u ∧ ∀ G : Hp, Rp K G v y := by
  obtain ⟨d, es, n, hm, D, h⟩ := c.ex
  refine ⟨d, es, n, hm, D, fun z => ?_⟩
  have hz := h z
  cases e : tbl.lookup z with
  | none =>
    rw [e] at hz
    exact ⟨none, hz, rfl, fun y q => nomatch q⟩
  | some y =>
    rw [e] at hz
    obtain ⟨u, v, h1, h2, h3⟩ := hz
    exact ⟨some u, h1, rfl, fun y' q => by cases q; exact ⟨u, v, rfl, h2, h3⟩⟩
theorem de_kin {tbl : List (Str × D)} (c : KTab X.mg X.K X.w x tbl) (hg : Gl X x) (ha : PE X a (lE X.K W te)) (hm : behindInMarks .In (.Name x p) = false := by with_unfolding_all rfl) (hd : (x == ("__debug__" : Str)) = false := by decide) :
    PE X (.Compare a [.In] [.Name x p] pos) (lE X.K W (dUn (oKin false tbl) te)) := by
  obtain ⟨d, es, n, hmg, D, h⟩ := c.is
  refine (pe_cmpR (op_in_kd D) ha (pe_glob (v := .ref d) hg hmg rfl hd) hm).imp fun σ H Q hq => ?_
  obtain ⟨z, H0, G0, G, ρ, Wd, Qd, so, hq, q, w⟩ := hq
  refine ⟨z, H0, G0, G, ρ, Wd, _, so, hq, fun y hy v G' H' e so' r => ?_, w⟩
  unfold oKin at hy
  split at hy
  · rename_i s
    obtain rfl := rp_str r
    obtain ⟨r, h1, h2, _⟩ := h s
    refine ⟨s, r, rfl, rfl, h1, q _ hy _ G' H' e so' ?_⟩
    rw [h2, bne_false]
    exact .bl _
  · exact hy.elim
theorem de_knotin {tbl : List (Str × D)} (c : KTab X.mg X.K X.w x tbl) (hg : Gl X x) (ha : PE X a (lE X.K W te)) (hm : behindInMarks .NotIn (.Name x p) = false := by with_unfolding_all rfl) (hd : (x == ("__debug__" : Str)) = false := by decide) :
    PE X (.Compare a [.NotIn] [.Name x p] pos) (lE X.K W (dUn (oKin true tbl) te)) := by
  obtain ⟨d, es, n, hmg, D, h⟩ := c.is
  refine (pe_cmpR (op_notIn_kd D) ha (pe_glob (v := .ref d) hg hmg rfl hd) hm).imp fun σ H Q hq => ?_
  obtain ⟨z, H0, G0, G, ρ, Wd, Qd, so, hq, q, w⟩ := hq
  refine ⟨z, H0, G0, G, ρ, Wd, _, so, hq, fun y hy v G' H' e so' r => ?_, w⟩
  unfold oKin at hy
  split at hy
  · rename_i s
    obtain rfl := rp_str r
    obtain ⟨r, h1, h2, _⟩ := h s
    refine ⟨s, r, rfl, rfl, h1, q _ hy _ G' H' e so' ?_⟩
    rw [h2, bne_true]
    exact .bl _
  · exact hy.elim
def rKget (K : PySem.W.Frag) (d : Addr) : R2 := fun x y H Q => ∃ (z : Str) (u0 : Value) (v0 : V), x = .ref d ∧ y = .str z ∧ PySem.W.nsIn K d z = some (some u0) ∧ RelV v0 u0 ∧ Q v0 H
theorem ix_kd {d : Addr} {es : Array DictEntry} {n : Nat} (D : KDict X.K X.w d es n) : IxR X (rKget X.K d) := by
  intro value slice pins s σ H x y v u Q I rx ry h hs
  have h0 := op_item_kd D pins s σ H x y v u Q I rx ry h
  obtain ⟨z, u0, v0, rfl, rfl, e, r, q⟩ := h
  cases rx
  obtain ⟨t, rfl⟩ := ry
  exact tail_any (kd_type D I) slot_dict_getitem.lookup h0 hs
theorem de_kget {tbl : List (Str × D)} (c : KTab X.mg X.K X.w x tbl) (hg : Gl X x) (ha : PE X a (lE X.K W te)) (hs : PlainIx a := by exact fun _ _ => rfl) (hd : (x == ("__debug__" : Str)) = false := by decide) :
    PE X (.Subscript (.Name x p) a pos) (lE X.K W (dUn (oKget tbl) te)) := by
  obtain ⟨d, es, n, hmg, D, h⟩ := c.is
  refine (pe_ix (ix_kd D) (pe_glob (v := .ref d) hg hmg rfl hd) ha hs).imp fun σ H Q hq => ?_
  obtain ⟨z, H0, G0, G, ρ, Wd, Qd, so, hq, q, w⟩ := hq
  refine ⟨z, H0, G0, G, ρ, Wd, _, so, hq, fun y hy v G' H' e so' r => ?_, w⟩
  unfold oKget at hy
  split at hy
  · rename_i s
    obtain rfl := rp_str r
    obtain ⟨r, h1, _, h3⟩ := h s
    split at hy
    · rename_i y ey
      obtain ⟨u, v, rfl, rv, rr⟩ := h3 _ ey
      exact ⟨s, u, v, rfl, rfl, h1, rv, q _ hy _ G' H' e so' (rr G')⟩
    · exact hy.elim
  · exact hy.elim
/-! ### dicts: len, list; is None as a test; join -/
def oLenD : DV → (DV → Prop) → Prop
  | .d (.dict kvs), Q => Q (.d (.int kvs.length))
  | _, _ => False
theorem RpKv.length {K : PySem.W.Frag} {H : Hp} : ∀ {vs : List (Key × V)} {ds : List (D × D)}, RpKv K H vs ds → vs.length = ds.length
  | _, _, .nil => rfl
  | _, _, .cons _ h => congrArg (· + 1) (RpKv.length h)
theorem call_lenR : CallR X (.builtin "len") (fun xs H Q => ∃ a kvs, xs = [V.ref a] ∧ Rd H a (.dK kvs) ∧ Q (.int kvs.length) H) := by
  intro pins s σ H xs us Q I r h
  obtain ⟨a, kvs, rfl, ha, q⟩ := h
  obtain ⟨u, rfl, ru⟩ := vals1 r
  cases ru
  exact d_len I ha fun t s' I' => ⟨.int kvs.length, H, I', ⟨t, rfl⟩, q⟩
theorem op1LenD {K : PySem.W.Frag} : Op1 K oLenD (fun v H Q => ∃ a kvs, [v] = [V.ref a] ∧ Rd H a (.dK kvs) ∧ Q (.int kvs.length) H) := by
  intro z H0 G0 G H ρ σ x v Qd Q so rx h q
  unfold oLenD at h
  split at h
  · obtain ⟨a, ks, rfl, h1, r1⟩ := rp_dict rx
    rw [← r1.length] at h
    exact ⟨a, ks, rfl, so.ok.sub.rd h1, same_d so (.int _) h q⟩
  · exact h.elim
theorem de_lenD (hg : Gl X "len") (hm : X.mg "len" = none) (ha : PE X a (lE X.K W te)) (he : starEach [a] X.env = (false, eval a X.env) :: starEach [] X.env := by rfl) : PE X (.Call (.Name "len" p) [a] [] pos) (lE X.K W (dUn oLenD te)) := de_callB call_lenR op1LenD hg hm PySem.boot_len ha (he := he)
def oListD : DV → (DV → Prop) → Prop
  | .d (.dict kvs), Q => Q (.d (.list (kvs.map (·.1))))
  | _, _ => False
theorem RpKv.keys {K : PySem.W.Frag} {H G : Hp} : ∀ {vs : List (Key × V)} {ds : List (D × D)}, RpKv K H vs ds → Rps K G (vs.map fun kv => kV kv.1) (ds.map (·.1))
  | _, _, .nil => .nil
  | _, _, .cons (k := k) _ h => .cons (by
    cases k with
    | inl i => exact .int i
    | inr x => exact .str x) (RpKv.keys h)
theorem op1ListD {K : PySem.W.Frag} : Op1 K oListD (fun v H Q => ∃ (a : Addr) (kvs : List (Key × V)), [v] = [V.ref a] ∧ Rd H a (.dK kvs) ∧ ∀ p, H p = none → Q (.ref p) (upd H p (.lst (kvs.map fun kv => kV kv.1)))) := by
  intro z H0 G0 G H ρ σ x v Qd Q so rx h q
  unfold oListD at h
  split at h
  · obtain ⟨a, ks, rfl, h1, r1⟩ := rp_dict rx
    exact ⟨a, ks, rfl, so.ok.sub.rd h1, fun p hp => new_lst so r1.keys h q hp⟩
  · exact h.elim
theorem de_listD (hc : X.calm = true) (hg : Gl X "list") (hm : X.mg "list" = none) (ha : PE X a (lE X.K W te)) (he : starEach [a] X.env = (false, eval a X.env) :: starEach [] X.env := by rfl) : PE X (.Call (.Name "list" p) [a] [] pos) (lE X.K W (dUn oListD te)) := de_callTy (call_listD hc) op1ListD hg hm (by decide +kernel) ha (he := he)
theorem dt_isN {j p'} (ha : PE X a (lE X.K W te)) : PT X (.Compare a [.Is] [.Constant .none j p'] pos) (lT X.K W (dB (dUn (oIsN false) te))) := (pt_cmp (pc_isN ha) rfl).imp fun σ H Q h => by
  obtain ⟨z, H0, G0, G, ρ, Wd, Qd, so, h, q, w⟩ := h
  have := lE_isN (neg := false) (Q := fun v H' => ∃ c, v = .bl c ∧ Q c H') ⟨z, H0, G0, G, ρ, Wd, _, so, h, fun x hx v G1 H1 e1 so1 r1 => by
    obtain ⟨b, _, rfl, hb⟩ := bv_of hx r1
    exact ⟨b, rfl, q b hb G1 H1 e1 so1⟩, w⟩
  simp only [bne_false] at this
  exact this
theorem dt_notN {j p'} (ha : PE X a (lE X.K W te)) : PT X (.Compare a [.IsNot] [.Constant .none j p'] pos) (lT X.K W (dB (dUn (oIsN true) te))) := (pt_cmp (pc_notN ha) rfl).imp fun σ H Q h => by
  obtain ⟨z, H0, G0, G, ρ, Wd, Qd, so, h, q, w⟩ := h
  have := lE_isN (neg := true) (Q := fun v H' => ∃ c, v = .bl c ∧ Q c H') ⟨z, H0, G0, G, ρ, Wd, _, so, h, fun x hx v G1 H1 e1 so1 r1 => by
    obtain ⟨b, _, rfl, hb⟩ := bv_of hx r1
    exact ⟨b, rfl, q b hb G1 H1 e1 so1⟩, w⟩
  simp only [bne_true] at this
  exact this
/-- the texts of a row -/
def strsD : List D → Option (List Str)
  | [] => some []
  | .str x :: r => (strsD r).map (x :: ·)
  | _ :: _ => none
theorem strsD_of {K : PySem.W.Frag} {G : Hp} : ∀ {vs : List V} {ds : List D} {xs : List Str}, Rps K G vs ds → strsD ds = some xs → vs = xs.map V.str
  | _, _, xs, .nil, e => by
    cases e
    rfl
  | _, d :: ds, xs, .cons r h, e => by
    cases d with
    | str y =>
      have e' : (strsD ds).map (y :: ·) = some xs := e
      cases q : strsD ds with
      | none => rw [q] at e'; cases e'
      | some ys =>
        rw [q] at e'
        cases e'
        rw [rp_str r, strsD_of h q, List.map_cons]
    | _ => cases e
def joinOk (a : Str) (ys : List Str) : Prop := (ys.map (·.length)).sum + ys.length * a.length ≤ 16777216
def dJoin (ta te : DE) : DE := fun Wd ρ Q => ta Wd ρ fun x => match x with
  | .d (.str a) => te Wd ρ fun y => match y with
    | .d (.list ds) => ∃ ys, strsD ds = some ys ∧ joinOk a ys ∧ Q (.d (.str (Txt.join a ys)))
    | .own ds => ∃ ys, strsD ds = some ys ∧ joinOk a ys ∧ Q (.d (.str (Txt.join a ys)))
    | _ => False
  | _ => False
theorem de_join {ta' : DE} {apos : Pos} (ho : PE X a (lE X.K W ta')) (he : PE X e (lE X.K W te)) (hs : starEach [e] X.env = [(false, eval e X.env)] := by rfl) (hbase : attributeBase a "join" X.env (eval a X.env) = eval a X.env := by rfl) (hline : (apos.endLine == pos.line) = true := by rfl) :
    PE X (.Call (.Attribute a "join" apos) [e] [] pos) (lE X.K W (dJoin ta' te)) := (pe_join ho he hs hbase hline).imp fun σ H Q h => by
  obtain ⟨z, H0, G0, G, ρ, Wd, Qd, so, h, q, w⟩ := h
  refine ⟨z, H0, G0, G, ρ, Wd, _, so, h, fun x hx v G1 H1 e1 so1 r1 => ?_, w⟩
  split at hx
  · obtain rfl := rp_str r1
    refine ⟨⟨_, rfl⟩, z, H0, G0, G1, ρ, Wd, _, so1, hx, fun y hy u G2 H2 e2 so2 r2 => ?_, w.mono e1.ex⟩
    split at hy
    · obtain ⟨ys, e, hj, hq⟩ := hy
      obtain ⟨p, vs, rfl, h1, rr⟩ := rp_list r2
      obtain rfl := strsD_of rr e
      exact ⟨_, p, ys, rfl, rfl, .inl (.inl (so2.ok.sub.rd h1)), hj, q _ hq _ G2 H2 (e1.trans e2) so2 (.str _)⟩
    · obtain ⟨ys, e, hj, hq⟩ := hy
      obtain ⟨p, vs, rfl, h1, _, _, _, rr⟩ := r2
      obtain rfl := strsD_of rr e
      exact ⟨_, p, ys, rfl, rfl, .inl (SqL.of h1), hj, q _ hq _ G2 H2 (e1.trans e2) so2 (.str _)⟩
    · exact hy.elim
  · exact hx.elim
end
end DL

set_option Elab.async false
set_option linter.all false
set_option maxRecDepth 100000
set_option maxHeartbeats 2000000
namespace DL
open PySem PySem.Spec PyProof.Rows L2

/-! ### zip of a tuple and a list -/
abbrev zm1 (h : Heap) (l1 : Addr) : Heap := h.push { cls := .type "tuple_iterator", data := .fields #[.ref l1, .int 0 0] }
abbrev zm2 (h : Heap) (l1 l2 : Addr) : Heap := (zm1 h l1).push { cls := .type "list_iterator", data := .fields #[.ref l2, .int 0 0] }
abbrev zm3 (h : Heap) (l1 l2 : Addr) : Heap := (zm2 h l1 l2).push { cls := .type "tuple", data := .seq #[.ref h.objs.size, .ref (zm1 h l1).objs.size] }
abbrev zm4 (h : Heap) (l1 l2 : Addr) : Heap := (zm3 h l1 l2).push { cls := .type "tuple", data := .seq #[.none, .none] }
abbrev zm5 (h : Heap) (l1 l2 : Addr) : Heap := (zm4 h l1 l2).push { cls := .type "zip", data := .fields #[.none, .bool false, .bool false, .ref (zm2 h l1 l2).objs.size, .ref (zm3 h l1 l2).objs.size] }
theorem meets_zm (l1 l2 : Addr) (xs ys : Array Value) :
    Meets (Builtin.«zip.__new__» ⟨[.type "zip", .ref l1, .ref l2], []⟩) (fun _ R s => s.heap.IsTuple l1 xs ∧ s.heap.IsList l2 ys ∧ R (.ok (.ret (.ref (zm4 s.heap l1 l2).objs.size))) { s with heap := zm5 s.heap l1 l2 }) :=
  .of_wp fun prog w A R s h => by
    obtain ⟨hp, g, d, tk, os⟩ := s
    obtain ⟨hl1, hl2, h⟩ := h
    have hsub := sub_zip
    have hL1 : Heap.IsTuple (Shared.heap ⟨hp, g, d, tk, os⟩) l1 xs := hl1
    have hL2 : Heap.IsList (Shared.heap ⟨hp.push { cls := .type "tuple_iterator", data := .fields #[.ref l1, .int 0 0] }, g, d, tk, os⟩) l2 ys := Heap.IsList.push hl2 _
    wp_walk using wpAny_pyIter_tuple hL1, wpAny_pyIter_list hL2
    exact ⟨_, rfl, h⟩
theorem call_zm {prog : Program} {w : World} {A : Around} {E : Value → Shared → Prop} {s : Shared} {l1 l2 : Addr} {xs ys : Array Value} {Q : Value → Shared → Prop} (hl1 : s.heap.IsTuple l1 xs) (hl2 : s.heap.IsList l2 ys)
    (h : ∀ n h', n = s.heap.objs.size → IsZip h' (n + 4) (n + 2) (n + 3) .none → IsPair h' (n + 2) (.ref n) (.ref (n + 1)) → IsPair h' (n + 3) .none .none → h'.IsTupleIter n l1 0 → h'.IsListIter (n + 1) l2 0 → (∀ c o, s.heap.get? c = some o → h'.get? c = some o) → Q (.ref (n + 4)) { s with heap := h' }) :
    wpAny (model prog w) A (call (.type "zip") [.ref l1, .ref l2]) Q E s := by
  refine callType_new F.called_zip (by decide) (F.typeCall_zip_2 _ _) (F.newCall_zip_2 _ _) (fun obj => F.args_object_init_3 obj _ _) F.entry_zip_new (meets_zm l1 l2 xs ys) ⟨hl1, hl2, ?_⟩
  have e1 : (zm1 s.heap l1).objs.size = s.heap.objs.size + 1 := Heap.size_push ..
  have e2 : (zm2 s.heap l1 l2).objs.size = s.heap.objs.size + 2 := by rw [Heap.size_push, e1]
  have e3 : (zm3 s.heap l1 l2).objs.size = s.heap.objs.size + 3 := by rw [Heap.size_push, e2]
  have e4 : (zm4 s.heap l1 l2).objs.size = s.heap.objs.size + 4 := by rw [Heap.size_push, e3]
  have up : ∀ c o, (zm4 s.heap l1 l2).get? c = some o → (zm5 s.heap l1 l2).get? c = some o := fun c o x => Heap.get?_push_of_some _ x
  have up4 : ∀ c o, (zm3 s.heap l1 l2).get? c = some o → (zm5 s.heap l1 l2).get? c = some o := fun c o x => up c o (Heap.get?_push_of_some _ x)
  have up3 : ∀ c o, (zm2 s.heap l1 l2).get? c = some o → (zm5 s.heap l1 l2).get? c = some o := fun c o x => up4 c o (Heap.get?_push_of_some _ x)
  have up2 : ∀ c o, (zm1 s.heap l1).get? c = some o → (zm5 s.heap l1 l2).get? c = some o := fun c o x => up3 c o (Heap.get?_push_of_some _ x)
  have g5 : (zm5 s.heap l1 l2).get? (zm4 s.heap l1 l2).objs.size = some _ := Heap.get?_push_size _ rfl
  have g4 : (zm5 s.heap l1 l2).get? (zm3 s.heap l1 l2).objs.size = some _ := up _ _ (Heap.get?_push_size _ rfl)
  have g3 : (zm5 s.heap l1 l2).get? (zm2 s.heap l1 l2).objs.size = some _ := up4 _ _ (Heap.get?_push_size _ rfl)
  have g2 : (zm5 s.heap l1 l2).get? (zm1 s.heap l1).objs.size = some _ := up3 _ _ (Heap.get?_push_size _ rfl)
  have g1 : (zm5 s.heap l1 l2).get? s.heap.objs.size = some _ := up2 _ _ (Heap.get?_push_size _ rfl)
  rw [e2, e3, e4] at g5
  rw [e3] at g4
  rw [e1, e2] at g3
  rw [e1] at g2
  show _ ∧ _
  rw [e4]
  exact ⟨⟨_, g5, rfl⟩, h _ _ rfl g5 g3 g4 ⟨_, g1, rfl, rfl⟩ ⟨_, g2, rfl, rfl⟩ fun c o x => up2 c o (Heap.get?_push_of_some _ x)⟩
/-- the tuple at a and the list at b, the items in new pairs -/
def ItzM (K : PySem.W.Frag) (a b : Addr) : It :=
  ⟨fun i H => ∃ (xs ys : List V) (x y : V), SqT K H a xs ∧ SqL K H b ys ∧ xs[i]? = some x ∧ ys[i]? = some y,
    fun i H v H' => ∃ T x y, v = .ref T ∧ H T = none ∧ H' = upd H T (.tup [x, y]) ∧ (∀ xs, SqT K H a xs → xs[i]? = some x) ∧ ∀ ys, SqL K H b ys → ys[i]? = some y,
    fun i H => ∃ xs ys : List V, SqT K H a xs ∧ SqL K H b ys ∧ ((xs.length = i ∧ i ≤ ys.length) ∨ (ys.length = i ∧ i ≤ xs.length))⟩
theorem sep_of {z TI TO i1 i2 a b : Addr} (D : ZipApart z TI TO i1 i2 a b) : ZipSep2 z TI TO i1 i2 [i1, a] [i2, b] where
  TIz := D.TIz
  TOz := D.TOz
  TITO := D.TITO
  TIi1 := D.TIi1
  mem1 := by simp
  zf1 := by simp [D.i1z.symm, D.l1z.symm]
  Tf1 := by simp [D.TOi1, D.l1TO.symm]
  TIi2 := D.TIi2
  mem2 := by simp
  zf2 := by simp [D.i2z.symm, D.l2z.symm]
  Tf2 := by simp [D.TOi2, D.l2TO.symm]
  sep1_2 := by simp [D.i12, D.l2i1.symm]
  sep2_1 := by simp [D.i12.symm, D.l1i2.symm]
theorem turn_zipM {P : Program} {w : World} {K : PySem.W.Frag} {elts : List Expr} {kk : Nat} {tpos : Pos} {a b z TI TO i1 i2 : Addr} (D : ZipApart z TI TO i1 i2 a b) :
    Turn P w K (.Tuple elts kk tpos) (ItzM K a b) [z, TI, TO, i1, i2] z (fun i h => IsZip h z TI TO .none ∧ IsPair h TI (.ref i1) (.ref i2) ∧ (∃ x y, IsPair h TO x y) ∧ h.IsTupleIter i1 a i ∧ h.IsListIter i2 b i) where
  mem := List.mem_cons_self ..
  obj := fun i h st c hc => by
    obtain ⟨hz, hTI, ⟨x, y, hTO⟩, ⟨o1, e1, _, d1⟩, ⟨o2, e2, _, d2⟩⟩ := st
    simp only [List.mem_cons, List.not_mem_nil, or_false] at hc
    rcases hc with rfl | rfl | rfl | rfl | rfl
    · exact ⟨_, hz, fun v q => nomatch q⟩
    · exact ⟨_, hTI, fun v q => nomatch q⟩
    · exact ⟨_, hTO, fun v q => nomatch q⟩
    · exact ⟨o1, e1, fun v q => by rw [d1] at q; cases q⟩
    · exact ⟨o2, e2, fun v q => by rw [d2] at q; cases q⟩
  keep := fun i h h' st k => by
    obtain ⟨hz, hTI, ⟨x, y, hTO⟩, h1, h2⟩ := st
    exact ⟨k z (by simp) _ hz, k TI (by simp) _ hTI, ⟨x, y, k TO (by simp) _ hTO⟩, h1.at fun o q => k i1 (by simp) o q, h2.at fun o q => k i2 (by simp) o q⟩
  item := by
    intro X hP hw hK hc i pins s σ H E I hf st hg
    subst hP hw hK
    obtain ⟨hz, hTI, ⟨x0, y0, hTO⟩, h1, h2⟩ := st
    obtain ⟨xs, ys, x, y, hqx, hqy, hx, hy⟩ := hg
    obtain ⟨its, rv, p, _⟩ := I.tuple hqx
    obtain ⟨its2, rv2, p2, _⟩ := I.list hqy
    obtain ⟨u, hu, ru⟩ := rv.get hx
    obtain ⟨u2, hu2, ru2⟩ := rv2.get hy
    have hA : X.A.in1.handled = none := I.ok.hd hc
    have n1 : i < its.toArray.size := by simpa using (List.getElem?_eq_some_iff.mp hu).1
    have n2 : i < its2.toArray.size := by simpa using (List.getElem?_eq_some_iff.mp hu2).1
    refine wpAny_pyNext_zipD2_item (sep_of D) (Draws.tuple hA i1 a D.l1i1 its.toArray) (Draws.list hA i2 b D.l2i2 its2.toArray) hz hTI hTO ⟨h1, p⟩ ⟨h2, p2.isList⟩ n1 n2 fun x1 x2 h' tk y1 y2 z' TO' st1 st2 hT hsz hk => ?_
    have q1 : its.toArray[i]? = some x1 := y1
    have q2 : its2.toArray[i]? = some x2 := y2
    have f1 : x1 = u := by
      have : its[i]? = some x1 := by simpa using q1
      rw [hu] at this
      exact (Option.some.inj this).symm
    have f2 : x2 = u2 := by
      have : its2[i]? = some x2 := by simpa using q2
      rw [hu2] at this
      exact (Option.some.inj this).symm
    subst f1 f2
    have lt : ∀ {c o}, s.heap.get? c = some o → c < s.heap.objs.size := fun e => Heap.lt_size e
    refine ⟨_, rfl, wpAny_letOwnedTupleGo_zip (s := { s with heap := h', toks := tk }) z' fun h'' z'' sb => ?_⟩
    have hT2 : h''.get? s.heap.objs.size = some { cls := .type "tuple", data := .seq #[x1, x2] } := (sb.2 _ (Nat.ne_of_gt (lt hz))).trans hT
    have new : ObjOk X.prog X.w (upd H s.heap.objs.size (.tup [x, y])) h'' s.heap.objs.size (.tup [x, y]) := ⟨by show 2 ≤ sizeLine; decide, [x1, x2], .cons ru (.cons ru2 .nil), ⟨_, hT2, rfl, _, rfl⟩⟩
    have I1 : Inv X pins σ (upd H s.heap.objs.size (.tup [x, y])) { s with heap := h'', toks := tk } :=
      I.turnedNew (t' := tk) (ch := [z, TI, TO, i1, i2]) (fun c o hb q => by
        simp only [List.mem_cons, List.not_mem_nil, or_false, not_or] at hb
        exact (sb.2 c hb.1).trans (hk c o hb.1 hb.2.2.1 hb.2.2.2.1 hb.2.2.2.2 q)) hf (Nat.le_refl _) new
    refine ⟨.ref s.heap.objs.size, _, I1, rfl, ⟨_, x, y, rfl, I.hok.fresh (Nat.le_refl _), rfl, fun l hl => by rw [I.tuple_inj hl hqx]; exact hx, fun l hl => by rw [I.list_inj hl hqy]; exact hy⟩, ⟨z'', ?_, ⟨x1, x2, ?_⟩, ?_, ?_⟩, fun c hcm => ?_⟩
    · exact (sb.2 _ D.TIz).trans (hk _ _ D.TIz D.TITO D.TIi1 D.TIi2 hTI)
    · exact (sb.2 _ D.TOz).trans TO'
    · exact st1.1.at fun o q => (sb.2 _ D.i1z).trans q
    · exact st2.1.at fun o q => (sb.2 _ D.i2z).trans q
    · have hlt : c < s.heap.objs.size := by
        simp only [List.mem_cons, List.not_mem_nil, or_false] at hcm
        obtain ⟨_, e1, _⟩ := h1
        obtain ⟨_, e2, _⟩ := h2
        rcases hcm with rfl | rfl | rfl | rfl | rfl
        · exact lt hz
        · exact lt hTI
        · exact lt hTO
        · exact lt e1
        · exact lt e2
      rw [upd_ne (Nat.ne_of_lt hlt)]
      exact (hf c hcm).1
  done := by
    intro X hP hw hK hc i pins s σ H E I hf st hg
    subst hP hw hK
    obtain ⟨hz, hTI, ⟨x0, y0, hTO⟩, h1, h2⟩ := st
    obtain ⟨xs, ys, hqx, hqy, hend⟩ := hg
    obtain ⟨its, rv, p, _⟩ := I.tuple hqx
    obtain ⟨its2, rv2, p2, _⟩ := I.list hqy
    have l1 := rv.length
    have l2 := rv2.length
    have hA : X.A.in1.handled = none := I.ok.hd hc
    have z1 : its.toArray.size = xs.length := by simp [l1]
    have z2 : its2.toArray.size = ys.length := by simp [l2]
    refine wpAny_pyNext_zipD2_end (i := i) (sep_of D) (Draws.tuple hA i1 a D.l1i1 its.toArray) (Draws.list hA i2 b D.l2i2 its2.toArray) hz hTI hTO ⟨h1, p⟩ ⟨h2, p2.isList⟩ (by omega) (by omega) (by omega) fun h' tk hk => ⟨rfl, ?_⟩
    exact I.turnedL (t' := tk) (ch := [z, TI, TO, i1, i2]) (fun c o hb q => by
      simp only [List.mem_cons, List.not_mem_nil, or_false, not_or] at hb
      exact hk c o hb.1 hb.2.2.1 hb.2.2.2.1 hb.2.2.2.2 q) hf
  self := fun A i s Q E st h => wpAny_pyIter_zip st.1 h
def iZipU (K : PySem.W.Frag) (ta : TA) : TI := fun σ H R => ta σ H fun vs H1 => ∃ a b xs ys, vs = [.ref a, .ref b] ∧ SqT K H1 a xs ∧ ((SqL K H1 b ys ∧ R (ItzM K a b) H1) ∨ (SqT K H1 b ys ∧ R (RZ.ItzT K a b) H1))
theorem pi_zipU {X : Cx} {e e2 : Expr} {ta : TA} {p pos tpos : Pos} {elts : List Expr} {kk : Nat} (hg : Gl X "zip") (hm : X.mg "zip" = none) (ha : PA X [e, e2] ta)
    (hs : starEach [e, e2] X.env = (false, eval e X.env) :: starEach [e2] X.env := by rfl) (hpl : (backTo pos (starEach [e2] X.env)).any (·.1) = false := by rfl) : PI X (.Tuple elts kk tpos) (.Call (.Name "zip" p) [e, e2] [] pos) (iZipU X.K ta) := by
  refine ⟨fun pins s σ H R I h => Call_ (ld_blt I hg hm PyProof.Rows.boot_zip (PyProof.Rows.callWith_type1 (thn (ha.run pos pins s σ H _ I h) fun us s1 ⟨vs, H1, I1, r1, q1⟩ => ?_) hs hpl))⟩
  obtain ⟨a, b, xs, ys, rfl, hqx, q1⟩ := q1
  obtain ⟨u1, u2, rfl, r, r'⟩ := r1.two
  cases r
  cases r'
  obtain ⟨its, rv, p1, _⟩ := I1.tuple hqx
  obtain ⟨o1, ho1, _⟩ := id p1
  have fr : ∀ c, c ∈ [s1.heap.objs.size + 4, s1.heap.objs.size + 2, s1.heap.objs.size + 3, s1.heap.objs.size, s1.heap.objs.size + 1] → FpOk X pins H1 c := fun c hcm => by
    have hle : s1.heap.objs.size ≤ c := by
      simp only [List.mem_cons, List.not_mem_nil, or_false] at hcm
      omega
    exact I1.fpOk hle (I1.hok.fresh hle)
  rcases q1 with ⟨hqy, q⟩ | ⟨hqy, q⟩
  · obtain ⟨its2, rv2, p2, _⟩ := I1.list hqy
    refine call_zm (show s1.heap.IsTuple a its.toArray from p1) p2.isList fun n h' en hz hTI hTO h1 h2 hk => wpAny_pyIter_zip hz ?_
    subst en
    exact ⟨_, _, _, _, H1, rfl, I1.kept (t' := s1.toks) hk, turn_zipM (zipApart_new (Heap.lt_size ho1) p2.lt), ⟨hz, hTI, ⟨_, _, hTO⟩, h1, h2⟩, fr, q⟩
  · obtain ⟨its2, rv2, p2, _⟩ := I1.tuple hqy
    obtain ⟨o2, ho2, _⟩ := id p2
    refine RZ.call_zipT (show s1.heap.IsTuple a its.toArray from p1) (show s1.heap.IsTuple b its2.toArray from p2) fun h' hz hTI hTO h1 h2 hsz hk => wpAny_pyIter_zip hz ?_
    exact ⟨_, _, _, _, H1, rfl, I1.kept (t' := s1.toks) hk, RZ.turn_zipT (zipApart_new (Heap.lt_size ho1) (Heap.lt_size ho2)), ⟨hz, hTI, ⟨_, _, hTO⟩, h1, h2⟩, fr, q⟩
/-! over data -/
def zipD : List D → List D → List D
  | x :: xs, y :: ys => .tuple [x, y] :: zipD xs ys
  | _, _ => []
theorem zipD_length : ∀ (xs ys : List D), (zipD xs ys).length = min xs.length ys.length
  | [], ys => by simp [zipD]
  | x :: xs, [] => by simp [zipD]
  | x :: xs, y :: ys => by
    show (zipD xs ys).length + 1 = _
    rw [zipD_length, List.length_cons, List.length_cons]
    omega
theorem zipD_get : ∀ {xs ys : List D} {i : Nat} {d : D}, (zipD xs ys)[i]? = some d → ∃ x y, xs[i]? = some x ∧ ys[i]? = some y ∧ d = .tuple [x, y]
  | [], _, _, _, h => by simp [zipD] at h
  | _ :: _, [], _, _, h => by simp [zipD] at h
  | x :: xs, y :: ys, 0, d, h => by
    simp [zipD] at h
    exact ⟨x, y, rfl, rfl, h.symm⟩
  | x :: xs, y :: ys, i + 1, d, h => by
    obtain ⟨a, b, h1, h2, h3⟩ := zipD_get (xs := xs) (ys := ys) (i := i) (by simpa [zipD] using h)
    exact ⟨a, b, by simpa using h1, by simpa using h2, h3⟩
section
variable {K : PySem.W.Frag} {z : Zn} {H0 G0 G H : Hp} {a b : Addr} {xs ys : List V} {ds es : List D}
theorem pair_new {ρ : Ro} {σ : L2.St} {G2 H2 : Hp} {x y : V} {d1 d2 : D} (so : SO K z H0 G0 ρ σ G2 H2) (r1 : Rp K G2 x d1) (r2 : Rp K G2 y d2) {T : Addr} (nT : H2 T = none) :
    ∃ G3, Go z G2 H2 G3 (upd H2 T (.tup [x, y])) ∧ SO K z H0 G0 ρ σ G3 (upd H2 T (.tup [x, y])) ∧ Rp K G3 (.ref T) (.tuple [d1, d2]) := by
  have gT := so.ok.sub.free nT
  exact ⟨upd G2 T (.tup [x, y]), Go.new gT nT, so.new nT, Rp.tup (.inl (.inl upd_same)) (.cons (Rp.mono (Ex.new gT) r1) (.cons (Rp.mono (Ex.new gT) r2) .nil))⟩
theorem wlk_zipM (h1 : SqT K G a xs) (r1 : Rps K G xs ds) (h2 : Rd G b (.lst ys)) (r2 : Rps K G ys es) : Wlk K z H0 G0 G (ItzM K a b) (zipD ds es) := fun i ρ σ G2 H2 e so => by
  have q1 : SqT K H2 a xs := so.ok.sub.sqT (e.sqT h1)
  have q2 : SqL K H2 b ys := .inl (so.ok.sub.rd (e.rd h2))
  have l1 := r1.length
  have l2 := r2.length
  refine ⟨fun d hd => ?_, fun hl => ⟨xs, ys, q1, q2, ?_⟩⟩
  · obtain ⟨d1, d2, g1, g2, rfl⟩ := zipD_get hd
    obtain ⟨v1, f1, rv1⟩ := r1.get g1
    obtain ⟨v2, f2, rv2⟩ := r2.get g2
    refine ⟨⟨xs, ys, v1, v2, q1, q2, f1, f2⟩, fun x H3 y => ?_⟩
    obtain ⟨T, x1, x2, rfl, nT, rfl, y1, y2⟩ := y
    have e1 := y1 xs q1
    have e2 := y2 ys q2
    rw [f1] at e1
    rw [f2] at e2
    cases e1
    cases e2
    exact pair_new so (Rp.mono e rv1) (Rp.mono e rv2) nT
  · rw [zipD_length] at hl
    omega
theorem wlk_zipT (h1 : SqT K G a xs) (r1 : Rps K G xs ds) (h2 : SqT K G b ys) (r2 : Rps K G ys es) : Wlk K z H0 G0 G (RZ.ItzT K a b) (zipD ds es) := fun i ρ σ G2 H2 e so => by
  have q1 : SqT K H2 a xs := so.ok.sub.sqT (e.sqT h1)
  have q2 : SqT K H2 b ys := so.ok.sub.sqT (e.sqT h2)
  have l1 := r1.length
  have l2 := r2.length
  refine ⟨fun d hd => ?_, fun hl => ⟨xs, ys, q1, q2, ?_⟩⟩
  · obtain ⟨d1, d2, g1, g2, rfl⟩ := zipD_get hd
    obtain ⟨v1, f1, rv1⟩ := r1.get g1
    obtain ⟨v2, f2, rv2⟩ := r2.get g2
    refine ⟨⟨xs, ys, v1, v2, q1, q2, f1, f2⟩, fun x H3 y => ?_⟩
    obtain ⟨T, x1, x2, rfl, nT, rfl, y1, y2⟩ := y
    have e1 := y1 xs q1
    have e2 := y2 ys q2
    rw [f1] at e1
    rw [f2] at e2
    cases e1
    cases e2
    exact pair_new so (Rp.mono e rv1) (Rp.mono e rv2) nT
  · rw [zipD_length] at hl
    omega
end
def dZip (ta tb : DE) : DI := fun Wd ρ Q => ta Wd ρ fun x => tb Wd ρ fun y => match x, y with
  | .d (.tuple ds), .d (.list es) => Q (zipD ds es)
  | .d (.tuple ds), .d (.tuple es) => Q (zipD ds es)
  | _, _ => False
theorem di_zip {X : Cx} {W : WX} {e e2 : Expr} {te t2 : DE} {p pos tpos : Pos} {elts : List Expr} {kk : Nat} (hg : Gl X "zip") (hm : X.mg "zip" = none) (he : PE X e (lE X.K W te)) (h2 : PE X e2 (lE X.K W t2))
    (hs2 : starEach [e2] X.env = (false, eval e2 X.env) :: starEach [] X.env := by rfl) (hs : starEach [e, e2] X.env = (false, eval e X.env) :: starEach [e2] X.env := by rfl) (hpl : (backTo pos (starEach [e2] X.env)).any (·.1) = false := by rfl) :
    PI X (.Tuple elts kk tpos) (.Call (.Name "zip" p) [e, e2] [] pos) (lI X.K W (dZip te t2)) := (pi_zipU hg hm (pa_cons he (pa_cons h2 pa_nil hs2) hs) hs hpl).imp fun σ H R h => by
  obtain ⟨z, H0, G0, G, ρ, Wd, Qd, so, h, q, w⟩ := h
  refine ⟨z, H0, G0, G, ρ, Wd, _, so, h, fun x hx v G1 H1 e1 so1 r1 => ?_, w⟩
  refine ⟨z, H0, G0, G1, ρ, Wd, _, so1, hx, fun y hy u G2 H2 e2 so2 r2 => ?_, w.mono e1.ex⟩
  split at hy
  · obtain ⟨a, xs, rfl, g1, rr1⟩ := rp_tuple (Rp.mono e2.ex r1)
    obtain ⟨b, ys, rfl, g2, rr2⟩ := rp_list r2
    exact ⟨a, b, xs, ys, rfl, so2.ok.sub.sqT g1, .inl ⟨.inl (so2.ok.sub.rd g2), q _ hy _ G2 H2 (e1.trans e2) so2 (wlk_zipM g1 rr1 g2 rr2)⟩⟩
  · obtain ⟨a, xs, rfl, g1, rr1⟩ := rp_tuple (Rp.mono e2.ex r1)
    obtain ⟨b, ys, rfl, g2, rr2⟩ := rp_tuple r2
    exact ⟨a, b, xs, ys, rfl, so2.ok.sub.sqT g1, .inr ⟨so2.ok.sub.sqT g2, q _ hy _ G2 H2 (e1.trans e2) so2 (wlk_zipT g1 rr1 g2 rr2)⟩⟩
  · exact hy.elim
end DL

set_option Elab.async false
set_option linter.all false
set_option maxRecDepth 100000
set_option maxHeartbeats 2000000
namespace DL
open PySem PySem.Spec PyProof.Rows L2

/-! ### a call with a new room: f(e0, [e1], e2, e3) -/
def Zn.more (z : Zn) (p : Addr) (h : ¬ z.F p) : Zn := ⟨z.bags, p :: z.rooms, fun r hr t ht => by
  rcases List.mem_cons.mp hr with rfl | hr
  · exact ⟨fun e => h (.inl ⟨t, ht, .inl e⟩), fun e => h (.inl ⟨t, ht, .inr (.inl e)⟩), fun e => h (.inl ⟨t, ht, .inr (.inr e)⟩)⟩
  · exact z.ap r hr t ht, z.one⟩
theorem Zn.more_F {z : Zn} {p : Addr} {h : ¬ z.F p} {a : Addr} (n : ¬ z.F a) (ne : a ≠ p) : ¬ (z.more p h).F a := fun q => by
  rcases q with ⟨t, ht, q⟩ | q
  · exact n (.inl ⟨t, ht, q⟩)
  · rcases List.mem_cons.mp q with e | q
    · exact ne e
    · exact n (.inr q)
theorem Zn.F_more {z : Zn} {p : Addr} {h : ¬ z.F p} {a : Addr} (n : z.F a) : (z.more p h).F a := by
  rcases n with ⟨t, ht, q⟩ | q
  · exact .inl ⟨t, ht, q⟩
  · exact .inr (List.mem_cons_of_mem _ q)
theorem Ok.more {z : Zn} {H0 G0 G H : Hp} (ok : Ok z H0 G0 G H) {p : Addr} {n : Int} (h : ¬ z.F p) (g : G p = none) (hp : H p = some (.lst [.int n])) : Ok (z.more p h) H G G H :=
  ⟨ok.sub, ok.bag, fun r hr => by
    rcases List.mem_cons.mp hr with rfl | hr
    · exact ⟨n, hp⟩
    · exact ok.room r hr, fun a ha => by
    rcases ha with ⟨t, ht, q⟩ | q
    · exact ok.dis a (.inl ⟨t, ht, q⟩)
    · rcases List.mem_cons.mp q with rfl | q
      · exact g
      · exact ok.dis a (.inr q), fun _ _ _ e => e, fun _ _ _ e => e, Ex.refl G⟩
/-- the room is given up -/
theorem SO.less {K : PySem.W.Frag} {z : Zn} {H0 G0 G H G' H' : Hp} {ρ : Ro} {σ : L2.St} (so : SO K z H0 G0 ρ σ G H) {p : Addr} (l : Lone z H0 ρ σ G H p) (o2 : Ok (z.more p l.f) H G G' H') : SO K z H0 G0 ρ σ G' H' := by
  have ne0 : ∀ {a o}, H0 a = some o → a ≠ p := fun {a o} e z => by
    subst z
    rw [l.h0] at e
    cases e
  refine ⟨⟨o2.sub, o2.bag, fun r hr => o2.room r (List.mem_cons_of_mem _ hr), fun a ha => o2.dis a (Zn.F_more ha), fun a o n e => o2.keep a o (Zn.more_F n (ne0 e)) (so.ok.keep a o n e), fun a o e g => ?_, so.ok.grow.trans o2.grow⟩, so.len, fun i x e => ?_, so.apart⟩
  · by_cases hF : z.F a
    · exact o2.dis a (Zn.F_more hF)
    · exact o2.old a o (so.ok.keep a o hF e) (so.ok.old a o e g)
  · obtain ⟨v, e1, r⟩ := so.slot i x e
    refine ⟨v, e1, ?_⟩
    cases x with
    | own xs =>
      obtain ⟨q, us, rfl, g1, g2, g3, g4, g5⟩ := r
      have hq : q ≠ p := fun z => by
        subst z
        exact l.no i xs e e1
      exact ⟨q, us, rfl, o2.keep q _ (Zn.more_F g3 hq) g1, o2.old q _ g1 g2, g3, g4, Rps.mono o2.grow g5⟩
    | d _ => exact Rp.mono o2.grow r
    | bag => exact r
    | room => exact r
    | ref _ => exact r
    | err _ _ _ => exact RV.mono o2.grow r fun _ z => nomatch z
theorem Go.less {z : Zn} {G0 H0 G H G' H' : Hp} {p : Addr} (hp : H0 p = none) (hF : ¬ z.F p) (e : Go z G0 H0 G H) (o2 : Ok (z.more p hF) H G G' H') : Go z G0 H0 G' H' :=
  ⟨e.ex.trans o2.grow, fun a o n ea => o2.keep a o (Zn.more_F n (ne_of_none ea hp)) (e.kp a o n ea), fun a o n ea g => o2.old a o (e.kp a o n ea) (e.nw a o n ea g)⟩
def dCallR (t : DSp) (t0 t1 t2 t3 : DE) : DE := fun Wd ρ Q => t0 Wd ρ fun x0 => t1 Wd ρ fun y => match y with
  | .d (.int _) => t2 Wd ρ fun x2 => t3 Wd ρ fun x3 => (nown x0 ∧ nown x2 ∧ nown x3) ∧ t [x0, .room, x2, x3] noX fun x => match x with
    | .d d => Q (.d d)
    | _ => False
  | _ => False
theorem RV.more {K : PySem.W.Frag} {z : Zn} {H0 G H H1 : Hp} {p : Addr} {hF : ¬ z.F p} {v : V} : ∀ {x : DV}, RV K z H0 G H v x → nown x → RV K (z.more p hF) H1 G H1 v x
  | .d _, h, _ => h
  | .bag, h, _ => h
  | .room, ⟨r, hr, e⟩, _ => ⟨r, List.mem_cons_of_mem _ hr, e⟩
  | .ref _, h, _ => h
  | .err _ _ _, h, _ => h
  | .own _, _, n => n.elim
section
variable {X : Cx} {W : WX} {k j : Nat} {t : DSp} {x : Str} {p pl pos : Pos} {e0 e1 e2 e3 : Expr} {t0 t1 t2 t3 : DE}
theorem de_callR (c : CalD X.prog X.w X.K X.mg X.base k x (lo0 t) []) (hr : Room j X.A) (hk : k ≤ j) (hg : Gl X x) (h0 : PE X e0 (lE X.K W t0)) (h1 : PE X e1 (lE X.K W t1)) (h2 : PE X e2 (lE X.K W t2)) (h3 : PE X e3 (lE X.K W t3))
    (s1 : starEach [e1] X.env = (false, eval e1 X.env) :: starEach [] X.env := by rfl) (s3 : starEach [e3] X.env = (false, eval e3 X.env) :: starEach [] X.env := by rfl) (s2 : starEach [e2, e3] X.env = (false, eval e2 X.env) :: starEach [e3] X.env := by rfl)
    (sl : starEach [.List [e1] pl, e2, e3] X.env = (false, eval (.List [e1] pl) X.env) :: starEach [e2, e3] X.env := by rfl) (he : starEach [e0, .List [e1] pl, e2, e3] X.env = (false, eval e0 X.env) :: starEach [.List [e1] pl, e2, e3] X.env := by rfl)
    (hdb : (x == ("__debug__" : Str)) = false := by decide) (hpl : (backTo pos (starEach [.List [e1] pl, e2, e3] X.env)).any (·.1) = false := by rfl) :
    PE X (.Call (.Name x p) [e0, .List [e1] pl, e2, e3] [] pos) (lE X.K W (dCallR (lo0 t) t0 t1 t2 t3)) := by
  obtain ⟨f, fd, ps, ds, dvs, F, hm, kp, hb, hd, hdd⟩ := c.ex
  have ed : dvs = [] := List.length_eq_zero_iff.mp ((hdd (fun _ => none)).length)
  subst ed
  refine (pe_call F (hr.mono hk) hg hm kp hb hd (E := fun _ _ _ => False) pass0 (pa_cons h0 (pa_cons (pe_lst (pa_cons h1 pa_nil s1)) (pa_cons h2 (pa_cons h3 pa_nil s3) s2) sl) he) hdb he hpl).imp fun σ H Q h => ?_
  obtain ⟨z, H0, G0, G, ρ, Wd, Qd, so, h, q, w⟩ := h
  refine ⟨z, H0, G0, G, ρ, Wd, _, so, h, fun x0 hx v0 G1 H1 g1 so1 r0 => ?_, w⟩
  refine ⟨z, H0, G0, G1, ρ, Wd, _, so1, hx, fun y hy v1 G2 H2 g2 so2 r1 => ?_, w.mono g1.ex⟩
  split at hy
  · rename_i n
    obtain rfl := rp_int r1
    refine ⟨by show 1 ≤ sizeLine; decide, fun r hr => ?_⟩
    have l2 := (so2.free hr).heap (H' := upd H2 r (.lst [.int n]))
    refine ⟨z, H0, G0, G2, ρ, Wd, _, so2.newOwn hr, hy, fun x2 hx2 v2 G3 H3 g3 so3 rv2 => ?_, w.mono (g1.trans g2).ex⟩
    obtain ⟨l3, hr3⟩ := l2.go upd_same g3
    refine ⟨z, H0, G0, G3, ρ, Wd, _, so3, hx2, fun x3 hx3 v3 G4 H4 g4 so4 rv3 => ?_, w.mono ((g1.trans g2).ex.trans g3.ex)⟩
    obtain ⟨l4, hr4⟩ := l3.go hr3 g4
    obtain ⟨⟨n0, n2, n3⟩, ht⟩ := hx3
    have g34 : Go z G2 (upd H2 r (.lst [.int n])) G4 H4 := g3.trans g4
    have g24 : Go z G2 H2 G4 H4 := ((Go.refl z G2 H2).put hr).trans g34
    have r0' : RV X.K z H0 G4 H4 v0 x0 := r0.go (g2.trans g24)
    have r2' : RV X.K z H0 G4 H4 v2 x2 := rv2.go g4
    have rr0 : RV X.K (z.more r l4.f) H4 G4 H4 (.ref r) .room := ⟨r, List.mem_cons_self .., rfl⟩
    refine ⟨z.more r l4.f, G4, _, noX, _, so4.ok.more l4.f l4.g hr4, .cons (r0'.more n0) n0.ne (.cons rr0 (fun _ z => nomatch z) (.cons (r2'.more n2) n2.ne (.cons (rv3.more n3) n3.ne .nil))), ht, fun y hy ny v G' H' ok2 rr => ?_, fun y hy => hy.elim⟩
    split at hy
    · exact q _ hy v G' H' (g1.trans (g2.trans (Go.less hr l4.f g24 ok2))) (so4.less l4 ok2) rr
    · exact hy.elim
  · exact hy.elim
end
/-! ### more tests -/
theorem lT_lE {K : PySem.W.Frag} {W : WX} {t : DE} {σ : L2.St} {H : Hp} {Q : Bool → Hp → Prop} (h : lT K W (dB t) σ H Q) : lE K W t σ H fun v H' => ∃ c, v = .bl c ∧ Q c H' := by
  obtain ⟨z, H0, G0, G, ρ, Wd, Qd, so, h, q, w⟩ := h
  refine ⟨z, H0, G0, G, ρ, Wd, _, so, h, fun x hx v G1 H1 e1 so1 r1 => ?_, w⟩
  obtain ⟨b, _, rfl, hb⟩ := bv_of hx r1
  exact ⟨b, rfl, q b hb G1 H1 e1 so1⟩
section
variable {X : Cx} {W : WX} {x : Str} {p pos : Pos} {a b : Expr} {ta tb te : DE}
theorem dt_inK (hu : X.A.units + 1 < cLine) (ha : PE X a (lE X.K W ta)) (hb : PE X b (lE X.K W tb)) (hm : behindInMarks .In b = false := by with_unfolding_all rfl) : PT X (.Compare a [.In] [b] pos) (lT X.K W (dB (dOp (oInK false) ta tb))) :=
  (pt_cmp (pc_din hu ha hb) hm).imp fun σ H Q h => by
    have := lE_inK (lT_lE h)
    simp only [bne_false] at this
    exact this
theorem dt_notinK (hu : X.A.units + 1 < cLine) (ha : PE X a (lE X.K W ta)) (hb : PE X b (lE X.K W tb)) (hm : behindInMarks .NotIn b = false := by with_unfolding_all rfl) : PT X (.Compare a [.NotIn] [b] pos) (lT X.K W (dB (dOp (oInK true) ta tb))) :=
  (pt_cmp (pc_dnotin hu ha hb) hm).imp fun σ H Q h => by
    have := lE_inK (lT_lE h)
    simp only [bne_true] at this
    exact this
theorem dt_kin {tbl : List (Str × D)} (c : KTab X.mg X.K X.w x tbl) (hg : Gl X x) (ha : PE X a (lE X.K W te)) (hm : behindInMarks .In (.Name x p) = false := by with_unfolding_all rfl) (hd : (x == ("__debug__" : Str)) = false := by decide) :
    PT X (.Compare a [.In] [.Name x p] pos) (lT X.K W (dB (dUn (oKin false tbl) te))) := by
  obtain ⟨d, es, n, hmg, D, h⟩ := c.is
  refine (pt_cmpR (op_in_kd D) ha (pe_glob (v := .ref d) hg hmg rfl hd) hm).imp fun σ H Q hq => ?_
  obtain ⟨z, H0, G0, G, ρ, Wd, Qd, so, hq, q, w⟩ := lT_lE hq
  refine ⟨z, H0, G0, G, ρ, Wd, _, so, hq, fun y hy v G' H' e so' r => ?_, w⟩
  unfold oKin at hy
  split at hy
  · rename_i s
    obtain rfl := rp_str r
    obtain ⟨r, h1, h2, _⟩ := h s
    refine ⟨s, r, rfl, rfl, h1, q _ hy _ G' H' e so' ?_⟩
    rw [h2, bne_false]
    exact .bl _
  · exact hy.elim
theorem dt_knotin {tbl : List (Str × D)} (c : KTab X.mg X.K X.w x tbl) (hg : Gl X x) (ha : PE X a (lE X.K W te)) (hm : behindInMarks .NotIn (.Name x p) = false := by with_unfolding_all rfl) (hd : (x == ("__debug__" : Str)) = false := by decide) :
    PT X (.Compare a [.NotIn] [.Name x p] pos) (lT X.K W (dB (dUn (oKin true tbl) te))) := by
  obtain ⟨d, es, n, hmg, D, h⟩ := c.is
  refine (pt_cmpR (op_notIn_kd D) ha (pe_glob (v := .ref d) hg hmg rfl hd) hm).imp fun σ H Q hq => ?_
  obtain ⟨z, H0, G0, G, ρ, Wd, Qd, so, hq, q, w⟩ := lT_lE hq
  refine ⟨z, H0, G0, G, ρ, Wd, _, so, hq, fun y hy v G' H' e so' r => ?_, w⟩
  unfold oKin at hy
  split at hy
  · rename_i s
    obtain rfl := rp_str r
    obtain ⟨r, h1, h2, _⟩ := h s
    refine ⟨s, r, rfl, rfl, h1, q _ hy _ G' H' e so' ?_⟩
    rw [h2, bne_true]
    exact .bl _
  · exact hy.elim
end
/-- no exception is wanted -/
def W0 : WX := fun _ _ _ _ => False
/-- a def of the module: where it stands -/
structure Df (K : PySem.W.Frag) (mg : Str → Option Value) (x : Str) (st : Stmt) (dvs : List V) : Prop where
  ex : ∃ f fd, FunD K x x (defArgs st) (defBody st) (defScope st) dvs [] f fd ∧ mg x = some (.ref f)
section
variable {P : Program} {w : World} {K : PySem.W.Frag} {mg : Str → Option Value} {base : Heap} {x : Str} {st : Stmt} {N ps : List Str} {k : Nat} {t : DSp} {bt : DS}
/-- .. keeps a promise, all its arguments written -/
theorem cal_d (F : Df K mg x st []) (S : FnScope N ps (defScope st)) (hb : ∀ (kV doc pm : Value) (an : Option Addr) (cdv ct : Value) (us : List Value), us.length = ps.length → bindArgs (PySem.W.fnOf x x (defArgs st) (defBody st) (defScope st) .none kV doc pm an cdv ct) ⟨us, []⟩ = pure (ps.zip us))
    (len : ∀ as Wd Qd, t as Wd Qd → as.length = ps.length)
    (hbody : ∀ (f : Addr) (cdv : Value) (A : Around) (outer : List Env) (s : Shared) (H : Hp) (E : XK), Room k (A.deeper (envOfC x (defScope st) s.heap.objs.size f cdv)) → ∃ W : WX, PSs (cxOf CX0 P w K mg base N x (defScope st) f cdv A outer s H E).nox (defBody st) (lS K W bt))
    (sem : Body N.length bt (lo0 t)) : CalD P w K mg base (k + 1) x (lo0 t) [] := by
  obtain ⟨f, fd, F, hm⟩ := F.ex
  exact ⟨f, fd, ps, [], [], fn_d F S len (fun cdv A outer s H E hr => hbody f cdv A outer s H E hr) sem, hm, F.kp, F.bindsN hb, .nil, fun _ => .nil⟩
/-- .. with defaults: n arguments are written -/
theorem cal_dd {dvs : List V} {dd : List D} (F : Df K mg x st dvs) (S : FnScope N ps (defScope st)) (n j : Nat) (hd : dvs ≠ []) (hn : n + (dvs.length - j) = ps.length) (hdd : RpsC K (dvs.drop j) dd)
    (hb : ∀ (T : Addr) (kV doc pm : Value) (an : Option Addr) (cdv ct : Value) (us its : List Value), us.length = n → its.length = dvs.length →
      ∃ k, bindArgs (PySem.W.fnOf x x (defArgs st) (defBody st) (defScope st) (.ref T) kV doc pm an cdv ct) ⟨us, []⟩ = seqItems? (.ref T) >>= k ∧ k (some its.toArray) = pure (ps.zip (us ++ its.drop j)))
    (len : ∀ as Wd Qd, t as Wd Qd → as.length = ps.length)
    (hbody : ∀ (f : Addr) (cdv : Value) (A : Around) (outer : List Env) (s : Shared) (H : Hp) (E : XK), Room k (A.deeper (envOfC x (defScope st) s.heap.objs.size f cdv)) → ∃ W : WX, PSs (cxOf CX0 P w K mg base N x (defScope st) f cdv A outer s H E).nox (defBody st) (lS K W bt))
    (sem : Body N.length bt (lo0 t)) : CalD P w K mg base (k + 1) x (lo0 t) dd := by
  obtain ⟨f, fd, F, hm⟩ := F.ex
  obtain ⟨ds, h1, h2⟩ := F.binds1 n j hd hn hb
  exact ⟨f, fd, ps, ds, dvs.drop j, fn_d F S len (fun cdv A outer s H E hr => hbody f cdv A outer s H E hr) sem, hm, F.kp, h2, h1, hdd⟩
end
end DL

set_option Elab.async false
set_option linter.all false
set_option maxRecDepth 100000
set_option maxHeartbeats 4000000
namespace DL
open PySem PySem.Spec PyProof.Rows L2

/-! ### helpers to run a reading -/
theorem ifB {b : Bool} {A B : Prop} (h1 : b = true → A) (h2 : b = false → B) : if b = true then A else B := by
  cases b with
  | true => exact h1 rfl
  | false => exact h2 rfl
theorem ifT {b : Bool} {A B : Prop} (h : b = true) (a : A) : if b = true then A else B := by
  rw [if_pos h]
  exact a
theorem ifF {b : Bool} {A B : Prop} (h : b = false) (a : B) : if b = true then A else B := by
  rw [if_neg (by rw [h]; exact Bool.false_ne_true)]
  exact a
theorem not_t {b : Bool} (h : (!b) = true) : b = false := by
  cases b with
  | true => cases h
  | false => rfl
theorem not_f {b : Bool} (h : (!b) = false) : b = true := by
  cases b with
  | true => rfl
  | false => cases h
theorem dec_t {p : Prop} [Decidable p] (h : (!decide p) = true) : ¬ p := of_decide_eq_false (not_t h)
theorem dec_f {p : Prop} [Decidable p] (h : (!decide p) = false) : p := of_decide_eq_true (not_f h)
theorem nle {a b : Nat} (h : Nat.ble a b = true) : a ≤ b := Nat.le_of_ble_eq_true h
theorem sz_lit : (1000 : Nat) ≤ sizeLine := by decide
theorem le_sz {n : Nat} (h : n ≤ 1000) : n ≤ sizeLine := Nat.le_trans h sz_lit
/-- a row: a list or a tuple -/
def isRow : D → Bool
  | .list _ => true
  | .tuple _ => true
  | _ => false
def mkRow (b : Bool) (xs : List D) : D := if b then .list xs else .tuple xs
def rowOf : D → List D
  | .list xs => xs
  | .tuple xs => xs
  | _ => []
theorem isRow_T (d : D) : (isT "list" d || isT "tuple" d) = isRow d := by cases d <;> simp [isT, isRow]
/-- loops that end with False at the first item that fails -/
theorem dLoop_all {g : DG} {tb : DS} {E : DEnds} {p : D → Bool} {F : Prop} (inv : Ro → Prop) : ∀ (ds : List D) (ρ : Ro), inv ρ →
    (∀ d ∈ ds, ∀ (ρ : Ro) (nx : Ro → Prop), inv ρ → (p d = true → ∀ ρ', inv ρ' → nx ρ') → (p d = false → F) → g d ρ fun ρ1 => tb { E with nx := nx, ct := nx, bk := E.nx } ρ1) →
    (ds.all p = true → ∀ ρ', inv ρ' → E.nx ρ') → (ds.all p = false → F) → dLoop g tb E ds ρ
  | [], ρ, i, _, h1, _ => h1 rfl ρ i
  | d :: ds, ρ, i, st, h1, h2 => by
    refine st d (List.mem_cons_self ..) ρ _ i (fun hp ρ' i' => ?_) (fun hp => h2 (by rw [List.all_cons, hp, Bool.false_and]))
    refine dLoop_all inv ds ρ' i' (fun d hd => st d (List.mem_cons_of_mem _ hd)) (fun ha => h1 (by rw [List.all_cons, hp, ha] <;> rfl)) (fun ha => h2 (by rw [List.all_cons, ha, Bool.and_false]))
/-- comprehensions that compute a function -/
theorem dMap_fn {g : DG} {te : DE} {Wd : DW} {ρ : Ro} (f : D → D) : ∀ {ds : List D} {Q : List D → Prop}, (∀ d ∈ ds, ∀ Q' : DV → Prop, Q' (.d (f d)) → g d ρ fun ρ1 => te Wd ρ1 Q') → Q (ds.map f) → dMap g dtYes te Wd ρ ds Q
  | [], Q, _, h => h
  | d :: ds, Q, st, h => by
    have h2 : dMap g dtYes te Wd ρ ds fun ys => Q (f d :: ys) := dMap_fn f (fun d hd => st d (List.mem_cons_of_mem _ hd)) h
    exact st d (List.mem_cons_self ..) _ h2
/-- .. that give values with a property -/
theorem dMap_ok {g : DG} {te : DE} {Wd : DW} {ρ : Ro} (p : D → Prop) : ∀ {ds : List D} {Q : List D → Prop}, (∀ d ∈ ds, ∀ Q' : DV → Prop, (∀ y, p y → Q' (.d y)) → g d ρ fun ρ1 => te Wd ρ1 Q') →
    (∀ ys : List D, ys.length = ds.length → (∀ y ∈ ys, p y) → Q ys) → dMap g dtYes te Wd ρ ds Q
  | [], Q, _, h => h [] rfl fun _ z => nomatch z
  | d :: ds, Q, st, h => by
    have hm := fun (y : D) (hy : p y) => dMap_ok (g := g) (te := te) (Wd := Wd) (ρ := ρ) p (ds := ds) (Q := fun ys => Q (y :: ys)) (fun d hd => st d (List.mem_cons_of_mem _ hd))
      (fun ys hl ha => h (y :: ys) (by rw [List.length_cons, List.length_cons, hl]) fun z hz => by
        rcases List.mem_cons.mp hz with rfl | hz
        · exact hy
        · exact ha z hz)
    exact st d (List.mem_cons_self ..) _ hm
/-- the item at a place -/
theorem atI_in {α : Type} {xs : List α} {i : Int} (h : 0 ≤ i) (h2 : i < xs.length) : ∃ x, atI xs i = some x ∧ xs[i.toNat]? = some x := by
  have hi : i.toNat < xs.length := by omega
  have := atI_nat (xs := xs) (j := i.toNat) (v := xs[i.toNat]) (by simp [hi])
  rw [Int.toNat_of_nonneg h] at this
  exact ⟨_, this, by simp [hi]⟩
theorem oIx_list {ds : List D} {i : Int} {Q : DV → Prop} (h : 0 ≤ i) (h2 : i < ds.length) (q : ∀ d ∈ ds, Q (.d d)) : oIx (.d (.list ds)) (.d (.int i)) Q := by
  obtain ⟨x, e, e2⟩ := atI_in h h2
  unfold oIx
  simp only [e]
  exact q x (List.mem_of_getElem? e2)
theorem oIx_at {ds : List D} {i : Int} {d : D} {Q : DV → Prop} (h : 0 ≤ i) (e : ds[i.toNat]? = some d) (q : Q (.d d)) : oIx (.d (.list ds)) (.d (.int i)) Q := by
  obtain ⟨x, e1, e2⟩ := atI_in (xs := ds) h (by have := (List.getElem?_eq_some_iff.mp e).1; omega)
  unfold oIx
  simp only [e1]
  rw [e] at e2
  cases e2
  exact q
theorem oIx_tup {ds : List D} {i : Int} {d : D} {Q : DV → Prop} (h : 0 ≤ i) (e : ds[i.toNat]? = some d) (q : Q (.d d)) : oIx (.d (.tuple ds)) (.d (.int i)) Q := by
  obtain ⟨x, e1, e2⟩ := atI_in (xs := ds) h (by have := (List.getElem?_eq_some_iff.mp e).1; omega)
  unfold oIx
  simp only [e1]
  rw [e] at e2
  cases e2
  exact q
theorem oKget_some {tbl : List (Str × D)} {z : Str} {y : D} {Q : DV → Prop} (e : tbl.lookup z = some y) (q : Q (.d y)) : oKget tbl (.d (.str z)) Q := by
  unfold oKget
  simp only [e]
  exact q
theorem oKin_is {tbl : List (Str × D)} {z : Str} {b : Bool} {Q : DV → Prop} (e : (tbl.lookup z).isSome = b) (q : Q (.d (.bool b))) : oKin false tbl (.d (.str z)) Q := by
  unfold oKin
  subst e
  exact q
theorem oIx_row {b : Bool} {ds : List D} {i : Int} {d : D} {Q : DV → Prop} (h : 0 ≤ i) (e : ds[i.toNat]? = some d) (q : Q (.d d)) : oIx (.d (mkRow b ds)) (.d (.int i)) Q := by
  obtain ⟨x, e1, e2⟩ := atI_in (xs := ds) h (by have := (List.getElem?_eq_some_iff.mp e).1; omega)
  rw [e] at e2
  cases e2
  cases b with
  | true =>
    unfold oIx mkRow
    simp only [e1, if_true]
    exact q
  | false =>
    unfold oIx mkRow
    simp only [e1, Bool.false_eq_true, if_false]
    exact q
theorem oIx_str {s : Str} {i : Int} {Q : DV → Prop} (hz : s.length ≤ sizeLine) (h : 0 ≤ i) (h2 : i < s.cps.toList.length) (q : ∀ c ∈ s.cps.toList, Q (.d (.str ⟨#[c]⟩))) : oIx (.d (.str s)) (.d (.int i)) Q := by
  obtain ⟨x, e, e2⟩ := atI_in h h2
  unfold oIx
  simp only [e]
  exact ⟨hz, q x (List.mem_of_getElem? e2)⟩
/-! ### short clean texts -/
def okC (c : Nat) : Bool := (decide (32 ≤ c) && decide (c ≤ 126)) || c == 10
def okS (s : Str) : Bool := s.cps.toList.all okC
def wS (n : Nat) (s : Str) : Prop := s.length ≤ n ∧ okS s = true
theorem wS.mono {m n : Nat} {s : Str} (h : wS m s) (l : m ≤ n) : wS n s := ⟨Nat.le_trans h.1 l, h.2⟩
theorem len_toList (s : Str) : s.cps.toList.length = s.length := by simp [Str.length]
theorem cut_list (s : Str) (lo hi : Option Int) : (cutS s lo hi).cps.toList = (s.cps.toList.drop (HT.sIx s.length 0 lo)).take (HT.sIx s.length s.length hi - HT.sIx s.length 0 lo) := by
  unfold cutS
  simp
theorem cut_len (s : Str) (lo hi : Option Int) : (cutS s lo hi).length ≤ s.length := by
  rw [← len_toList, cut_list, List.length_take, List.length_drop, len_toList]
  omega
theorem wS_cut {n : Nat} {s : Str} (h : wS n s) (lo hi : Option Int) : wS n (cutS s lo hi) := by
  refine ⟨Nat.le_trans (cut_len s lo hi) h.1, ?_⟩
  unfold okS
  rw [cut_list, List.all_eq_true]
  intro c hc
  exact List.all_eq_true.mp h.2 c (List.mem_of_mem_drop (List.mem_of_mem_take hc))
theorem app_list (a b : Str) : (a ++ b).cps.toList = a.cps.toList ++ b.cps.toList := by
  show (a.cps ++ b.cps).toList = _
  rw [Array.toList_append]
theorem app_len (a b : Str) : (a ++ b).length = a.length + b.length := by
  rw [← len_toList, app_list, List.length_append, len_toList, len_toList]
theorem wS_app {m n : Nat} {a b : Str} (h : wS m a) (h2 : wS n b) : wS (m + n) (a ++ b) := by
  refine ⟨by rw [app_len]; exact Nat.add_le_add h.1 h2.1, ?_⟩
  unfold okS
  rw [app_list, List.all_append, Bool.and_eq_true]
  exact ⟨h.2, h2.2⟩
theorem wS_sz {n : Nat} {s : Str} (h : wS n s) (l : n ≤ 1000) : s.length ≤ sizeLine := le_sz (Nat.le_trans h.1 l)
/-- a literal -/
theorem wS_lit {n : Nat} {s : Str} (h : (decide (s.length ≤ n) && okS s) = true) : wS n s := by
  rw [Bool.and_eq_true] at h
  exact ⟨of_decide_eq_true h.1, h.2⟩
theorem join_S (ys : List Str) : (Str.join ("" : Str) ys).cps.toList = (ys.map fun y => y.cps.toList).flatten := by
  match ys with
  | [] => rfl
  | [x] => simp [Str.join]
  | x :: y :: r =>
    have h := join_S (y :: r)
    show (x ++ ("" : Str) ++ Str.join ("" : Str) (y :: r)).cps.toList = _
    rw [app_list, app_list, h]
    show x.cps.toList ++ ([] : List Nat) ++ _ = _
    rw [List.append_nil] <;> rfl
theorem join_one (ys : List Str) : (Txt.join ("" : Str) ys).cps.toList = (ys.map fun y => y.cps.toList).flatten := by
  rw [TL.join_eq, join_S]
/-- joined signs -/
theorem wS_join {ys : List Str} {n : Nat} (h : ∀ y ∈ ys, wS 1 y) (l : ys.length ≤ n) : wS n (Txt.join ("" : Str) ys) := by
  have key : ∀ ys : List Str, (∀ y ∈ ys, wS 1 y) → ((ys.map fun y => y.cps.toList).flatten).length ≤ ys.length ∧ ((ys.map fun y => y.cps.toList).flatten).all okC = true := by
    intro ys
    induction ys with
    | nil => intro _; exact ⟨Nat.le_refl _, rfl⟩
    | cons y r ih =>
      intro h
      obtain ⟨h1, h2⟩ := ih fun z hz => h z (List.mem_cons_of_mem _ hz)
      obtain ⟨h3, h4⟩ := h y (List.mem_cons_self ..)
      rw [List.map_cons, List.flatten_cons, List.length_append, List.length_cons, List.all_append, Bool.and_eq_true, len_toList]
      exact ⟨by omega, h4, h2⟩
  obtain ⟨h1, h2⟩ := key ys h
  refine ⟨?_, ?_⟩
  · rw [← len_toList, join_one]
    omega
  · unfold okS
    rw [join_one]
    exact h2
end DL

set_option Elab.async false
set_option linter.all false
set_option maxRecDepth 100000
set_option maxHeartbeats 2000000
namespace DL
open PySem PySem.Spec PyProof.Rows L2

/-! ### data as the heap reads them -/
section
variable {X : Cx} {pins : List (Addr × Obj)} {σ : L2.St} {H : Hp} {s : Shared}
theorem rd_some {a : Addr} {u : HO} (h : Rd H a u) : H a ≠ none := by
  rcases h with h | ⟨o, h⟩ <;> rw [h] <;> simp
mutual
theorem reads_of (I : Inv X pins σ H s) : ∀ {d : D} {v : V} {u : Value}, Rp X.K H v d → RelV v u → ∃ as, Reads s.heap u d as ∧ ∀ b ∈ as, H b ≠ none
  | .none, _, _, h, r => by
    cases h
    obtain rfl : _ = Value.none := r
    exact ⟨[], .none, fun b hb => nomatch hb⟩
  | .bool b, _, _, h, r => by
    cases h
    obtain rfl : _ = Value.bool b := r
    exact ⟨[], .bool b, fun b hb => nomatch hb⟩
  | .int i, _, _, h, r => by
    cases h
    obtain ⟨t, rfl⟩ := r
    exact ⟨[], .int i t, fun b hb => nomatch hb⟩
  | .str x, _, _, h, r => by
    cases h
    obtain ⟨t, rfl⟩ := r
    exact ⟨[], .str x t, fun b hb => nomatch hb⟩
  | .list ds, _, _, h, r => by
    cases h with
    | lst hs ha =>
      rename_i a xs
      obtain rfl : _ = Value.ref a := r
      obtain ⟨z, its, n, rv, e⟩ := hs.ok I.hok
      obtain ⟨as, h1, h2⟩ := readsAll_of I ha rv
      refine ⟨a :: as, .list e rfl rfl (by simpa using h1), fun b hb => ?_⟩
      rcases List.mem_cons.mp hb with rfl | hb
      · exact rd_some hs
      · exact h2 b hb
  | .tuple ds, _, _, h, r => by
    cases h with
    | tup hs ha =>
      rename_i a xs
      obtain rfl : _ = Value.ref a := r
      obtain ⟨its, rv, ⟨o, e, hc, n, hd⟩, z⟩ := I.tuple hs
      obtain ⟨as, h1, h2⟩ := readsAll_of I ha rv
      exact ⟨as, .tuple e hc hd (by simpa using h1), h2⟩
  | .dict ds, _, _, h, r => by
    cases h with
    | dic hs ha =>
      rename_i a kvs
      obtain rfl : _ = Value.ref a := r
      obtain ⟨z, hm, vs, rv, o, es, ep, e, ex, hd, hk, hp, _⟩ := dk_rd I.hok hs
      obtain ⟨as, bs, h1, h2, h3⟩ := readsKv_of I ha rv hp
      refine ⟨a :: as ++ bs, .dict e ex.1 hd h1 h2, fun b hb => ?_⟩
      rw [List.cons_append] at hb
      rcases List.mem_cons.mp hb with rfl | hb
      · exact rd_some hs
      · exact h3 b hb
theorem readsAll_of (I : Inv X pins σ H s) : ∀ {ds : List D} {vs : List V} {us : List Value}, Rps X.K H vs ds → Vals vs us → ∃ as, ReadsAll s.heap us ds as ∧ ∀ b ∈ as, H b ≠ none
  | [], _, _, h, r => by
    cases h
    cases r
    exact ⟨[], .nil, fun b hb => nomatch hb⟩
  | d :: ds, _, _, h, r => by
    cases h with
    | cons h1 h2 =>
      cases r with
      | cons r1 r2 =>
        obtain ⟨as, a1, a2⟩ := reads_of I h1 r1
        obtain ⟨bs, b1, b2⟩ := readsAll_of I h2 r2
        refine ⟨as ++ bs, .cons a1 b1, fun b hb => ?_⟩
        rcases List.mem_append.mp hb with hb | hb
        · exact a2 b hb
        · exact b2 b hb
theorem readsKv_of (I : Inv X pins σ H s) : ∀ {ds : List (D × D)} {kvs : List (Key × V)} {rs : List (Key × Value)} {es : List DictEntry}, RpKv X.K H kvs ds → KV kvs rs → Pairs (mixKind X.prog X.w) es rs →
    ∃ as bs, ReadsAll s.heap (es.map (·.key)) (ds.map (·.1)) as ∧ ReadsAll s.heap (es.map (·.val)) (ds.map (·.2)) bs ∧ ∀ b ∈ as ++ bs, H b ≠ none
  | [], _, _, _, h, r, p => by
    cases h
    cases r
    cases p
    exact ⟨[], [], .nil, .nil, fun b hb => nomatch hb⟩
  | (_, d) :: ds, _, _, _, h, r, p => by
    cases h with
    | cons h1 h2 =>
      rename_i k v kvs
      cases r with
      | cons r1 r2 =>
        rename_i q rs
        obtain ⟨k', u⟩ := q
        obtain ⟨rfl, r1⟩ := r1
        cases p with
        | cons p1 p2 p3 =>
          rename_i e es
          obtain ⟨bs, b1, b2⟩ := reads_of I h1 r1
          obtain ⟨as, cs, c1, c2, c3⟩ := readsKv_of I h2 r2 p3
          have hkey : Reads s.heap e.key (keyD k) [] := by
            rcases keyIs_shape (show keyIs k e.key = true from p1) with ⟨i, t, e1, e2⟩ | ⟨x, t, e1, e2⟩
            · subst e1
              rw [e2]
              exact .int i t
            · subst e1
              rw [e2]
              exact .str x t
          have hval : Reads s.heap e.val d bs := by
            rw [p2]
            exact b1
          refine ⟨[] ++ as, bs ++ cs, .cons hkey c1, .cons hval c2, fun b hb => ?_⟩
          rw [List.nil_append] at hb
          rcases List.mem_append.mp hb with hb | hb
          · exact c3 b (List.mem_append_left _ hb)
          · rcases List.mem_append.mp hb with hb | hb
            · exact b2 b hb
            · exact c3 b (List.mem_append_right _ hb)
end
end
/-! ### repr -/
def oRepr : DV → (DV → Prop) → Prop
  | .d v, Q => (v.showable = true ∧ v.shown.length ≤ sizeLine ∧ v.depth ≤ 1000) ∧ Q (.d (.str v.shown))
  | _, _ => False
def rReprD (K : PySem.W.Frag) : List V → Hp → VK → Prop := fun xs H Q => ∃ v d, xs = [v] ∧ Rp K H v d ∧ (d.showable = true ∧ d.shown.length ≤ sizeLine ∧ d.depth ≤ 1000) ∧ Q (.str d.shown) H
theorem call_reprD {X : Cx} (hg : X.A.guards = some []) (hu : X.A.units + 1001 < cLine) (hs : X.base.get? sysModules ≠ none) : CallR X (.builtin "repr") (rReprD X.K) := by
  intro pins s σ H xs us Q I r h
  obtain ⟨v, d, rfl, rp, ⟨h1, h2, h3⟩, q⟩ := h
  obtain ⟨u, rfl, ru⟩ := vals1 r
  have hH : H sysModules = none := by
    cases e : X.base.get? sysModules with
    | none => exact absurd e hs
    | some o => exact (I.bs sysModules o e).2
  obtain ⟨as, hr, ha⟩ := reads_of I rp ru
  have hsm : d.hasDict = true → sysModules ∉ as := fun _ hm => ha _ hm hH
  have onref : ∀ a, u = .ref a → wpAny (model X.prog X.w) X.A (call (.builtin "repr") [u]) (EP X pins σ Q) X.xe s := fun a e => by
    subst e
    exact repr_of_reads' hr h1 hsm hg (by omega) (fun _ _ e => e) (fun h' w tk hk => ⟨.str _, H, I.kept hk, ⟨w, rfl⟩, q⟩) h2
  cases hr with
  | none => exact PySem.P.repr_of_none ⟨.str _, H, I.tok _, ⟨_, rfl⟩, q⟩
  | bool b => exact PySem.P.repr_of_bool ⟨.str _, H, I.tok _, ⟨_, rfl⟩, q⟩
  | int i t => exact PySem.P.repr_of_int (by simpa [PyData.showable] using h1) ⟨.str _, H, I.tok _, ⟨_, rfl⟩, q⟩
  | str x t => exact PySem.P.repr_of_str ⟨.str _, H, I.tok _, ⟨_, rfl⟩, q⟩ h2
  | list _ _ _ _ => exact onref _ rfl
  | tuple _ _ _ _ => exact onref _ rfl
  | dict _ _ _ _ _ => exact onref _ rfl
theorem op1Repr {K : PySem.W.Frag} : Op1 K oRepr (fun v H Q => rReprD K [v] H Q) := by
  intro z H0 G0 G H ρ σ x v Qd Q so rx h q
  unfold oRepr at h
  split at h
  · exact ⟨v, _, rfl, Rp.mono so.ok.sub rx, h.1, same_d so (.str _) h.2 q⟩
  · exact h.elim
section
variable {X : Cx} {W : WX} {a : Expr} {ta : DE} {p pos : Pos}
theorem de_repr (hgd : X.A.guards = some []) (hu : X.A.units + 1001 < cLine) (hs : X.base.get? sysModules ≠ none) (hg : Gl X "repr") (hm : X.mg "repr" = none) (ha : PE X a (lE X.K W ta)) (he : starEach [a] X.env = (false, eval a X.env) :: starEach [] X.env := by rfl) :
    PE X (.Call (.Name "repr" p) [a] [] pos) (lE X.K W (dUn oRepr ta)) := de_callB (call_reprD hgd hu hs) op1Repr hg hm (by decide +kernel) ha (he := he)
end
/-! ### f(k = e) -/
theorem pe_callK0 {X : Cx} {k : Nat} {f : Addr} {fd : FuncData} {ps ks : List Str} {sp : Sp} {E : XK} {CX : CXT} {x : Str} {p pos : Pos} {kws : List Keyword} {tk : TA} {g : List Value → List Value → List Value} {gV : List V → List V → List V}
    (F : FnOk X.prog X.w X.K X.mg X.base CX k f fd ps sp) (hr : Room k X.A) (hg : Gl X x) (hm : X.mg x = some (.ref f)) (hk : PySem.W.keepIn X.K (.ref f) = true) (hb : KBinds X.K fd ps ks g gV) (hx : Passes CX X E)
    (hkw : PK X kws tk) (hall : (backToKw pos (keywordEach kws X.env)).all (·.1.isSome) = true := by rfl) (hks : (backToKw pos (keywordEach kws X.env)).filterMap (·.1) = ks := by rfl)
    (hdb : (x == ("__debug__" : Str)) = false := by decide) (hpl : ((backTo pos (starEach [] X.env)).any (·.1) || (backToKw pos (keywordEach kws X.env)).any (·.1.isNone)) = false := by rfl) :
    PE X (.Call (.Name x p) [] kws pos) (tCallK sp gV E tNil tk) := by
  refine ⟨fun pins s σ H Q I h => ?_⟩
  refine wpAny_Call_Name_kw (ld_glob I hg hm ?_ hdb)
  refine PySem.W.callWith_KW0 (h₀ := X.base) I.ok.mod.kin hk hall (thn (hkw.run pos pins s σ H _ I h) fun ws s2 ⟨zs, H2, I2, rz, q2⟩ => ⟨I2.kIn, ?_⟩) hpl
  rw [hks]
  exact run_fnk F hr hb hx I2 .nil rz q2
structure CalK (P : Program) (w : World) (K : PySem.W.Frag) (mg : Str → Option Value) (base : Heap) (k : Nat) (x : Str) (ks : List Str) (t : DSp) : Prop where
  ex : ∃ (f : Addr) (fd : FuncData) (ps : List Str), FnOk P w K mg base CX0 k f fd ps (lSp K t) ∧ mg x = some (.ref f) ∧ PySem.W.keepIn K (.ref f) = true ∧ KBinds K fd ps ks (fun us ws => us ++ ws) (fun vs zs => vs ++ zs)
theorem kb_of {K : PySem.W.Frag} {x qual : Str} {params : Arguments} {body : List Stmt} {scope : Scope} {f : Addr} {fd : FuncData} {ps ks : List Str} (F : FunD K x qual params body scope [] [] f fd)
    (h : ∀ (kV doc pm : Value) (an : Option Addr) (cdv ct : Value) (us ws : List Value), (us ++ ws).length = ps.length → bindArgs (PySem.W.fnOf x qual params body scope .none kV doc pm an cdv ct) ⟨us, ks.zip ws⟩ = pure (ps.zip (us ++ ws))) : KBinds K fd ps ks (fun us ws => us ++ ws) (fun vs zs => vs ++ zs) := by
  obtain ⟨oc, od, dV, kV, doc, pm, an, cdv, ct, osl, rfl, lk, hcd, hD, hK⟩ := F.ex
  rcases hD with ⟨_, rfl⟩ | ⟨e, _⟩
  · exact ⟨fun s us ws _ hl => .of_eq (h kV doc pm an cdv ct us ws hl), fun r1 r2 => r1.append r2⟩
  · exact absurd rfl e
section
variable {X : Cx} {W : WX} {k j : Nat} {x kw : Str} {t : DSp} {e : Expr} {te : DE} {p pos kpos : Pos}
theorem de_ck (c : CalK X.prog X.w X.K X.mg X.base k x [kw] (lo0 t)) (hr : Room j X.A) (hk : k ≤ j) (hg : Gl X x) (he : PE X e (lE X.K W te)) (hall : (backToKw pos (keywordEach [⟨some kw, e, kpos⟩] X.env)).all (·.1.isSome) = true := by rfl) (hks : (backToKw pos (keywordEach [⟨some kw, e, kpos⟩] X.env)).filterMap (·.1) = [kw] := by rfl)
    (hdb : (x == ("__debug__" : Str)) = false := by decide) (hpl : ((backTo pos (starEach [] X.env)).any (·.1) || (backToKw pos (keywordEach [⟨some kw, e, kpos⟩] X.env)).any (·.1.isNone)) = false := by rfl) :
    PE X (.Call (.Name x p) [] [⟨some kw, e, kpos⟩] pos) (lE X.K W (dCall (lo0 t) [] (dCons te dNil))) := by
  obtain ⟨f, fd, ps, F, hm, kp, hb⟩ := c.ex
  refine (pe_callK0 F (hr.mono hk) hg hm kp hb pass0 (pk_cons he pk_nil) hall hks hdb hpl).imp fun σ H Q h => ?_
  obtain ⟨z, H0, G0, G, ρ, Wd, Qd, so, h, q, w⟩ := h
  show lE X.K W te σ H fun v H1 => lSp X.K (lo0 t) [v] H1 Q _
  refine ⟨z, H0, G0, G, ρ, Wd, _, so, h, fun x hx v G1 H1 e1 so1 r1 => ?_, w⟩
  have hx2 : nown x ∧ lo0 t [x] noX fun y => nown y → Qd y := hx
  refine ⟨z, G1, [x], noX, _, so1.ok.entry, .cons (r1.h0 hx2.1 fun _ _ q => q) hx2.1.ne .nil, hx2.2, fun y hy ny v G2 H2 ok2 r2 => ?_, fun y hy => hy.elim⟩
  have g2 := ok2.go
  exact q y (hy ny) v G2 H2 (e1.trans g2) (so1.go g2 (so1.ok.back ok2)) (r2.h0 ny fun _ _ q => q)
end
end DL

set_option Elab.async false
set_option linter.all false
set_option maxRecDepth 100000
set_option maxHeartbeats 2000000
namespace DL
open PySem PySem.Spec PyProof.Rows L2

/-! ### the law itself: it is called once, by the claim's caller -/
/-- the promise of a def at one place -/
def AtA (A : Around) (P : Program) (w : World) (K : PySem.W.Frag) (mg : Str → Option Value) (base : Heap) (f : Addr) (fd : FuncData) (ps : List Str) (sp : Sp) : Prop :=
  ∀ (outer : List Env) (s : Shared) (H : Hp) (args : Args) (us : List Value) (vs : List V) (Q : VK) (E : XK), Env0 P w K mg base A outer s H → BindsTo s fd args (ps.zip us) → Vals vs us → sp vs H Q E →
    codeAny (model P w) A (.call (.ref f) args) (CR CX0 outer P w H s Q E) s
theorem at_of {A : Around} {P : Program} {w : World} {K : PySem.W.Frag} {mg : Str → Option Value} {base : Heap} {x qual : Str} {params : Arguments} {body : List Stmt} {scope : Scope} {dvs : List V} {kws : List (Str × V)} {f : Addr} {fd : FuncData} {N ps : List Str} {sp : Sp} {k : Nat}
    (F : FunD K x qual params body scope dvs kws f fd) (S : FnScope N ps scope) (hr : Room (k + 1) A) (len : ∀ vs H Q E, sp vs H Q E → vs.length = ps.length)
    (hbody : ∀ (cdv : Value) (outer : List Env) (s : Shared) (H : Hp) (vs : List V) (Q : VK) (E : XK), Room k (A.deeper (envOfC qual scope s.heap.objs.size f cdv)) → sp vs H Q E →
      ∃ t, PSs (cxOf CX0 P w K mg base N qual scope f cdv A outer s H E) body t ∧ t { nx := fun _ H' => Q .non H', rt := Q } (start N vs) H) : AtA A P w K mg base f fd ps sp := by
  intro outer s H args us vs Q E e0 hb r hsp
  obtain ⟨oc, od, dV, kV, doc, pm, an, cdv, ct, osl, rfl, lk, hcd, _, _⟩ := F.ex
  have KX : K.In s.heap := e0.mod.kin.keeps fun b o e => (e0.bs b o e).1
  have lim : s.heap.NoLimit := e0.mod.nolimit.keeps fun b o e => (e0.bs b o e).1
  refine codeAny_call_function hr.depth (KX _ _ lk) rfl S.co S.gen rfl (PySem.W.codeRec_of KX hcd) (hb _ _ _ _ ?_)
  refine wpAny_newFunctionEnv_cells S.kind (fun ⟨n, v⟩ hy => ?_) fun env he s1 x => ?_
  · rcases S.par n (List.of_mem_zip hy).1 with q | q
    · exact .inl q
    · exact .inr ⟨q, PySem.W.cellsFrom_some _ _ _ (.inl q)⟩
  subst he
  refine ⟨lim.keeps x.toInCall.keep, codeAny_func ?_⟩
  obtain ⟨t, ht, hq⟩ := hbody cdv outer s H vs Q E (hr.deeper _) hsp
  refine wpAny_mono (ht.run [] s1 (start N vs) H _ (inv_start S hr.hd e0 (len _ _ _ _ hsp) r x) hq) (fun fl s' hs => ?_) fun e s' hs => hs
  cases fl with
  | ret u =>
    obtain ⟨v, σ', H', J, rv, q⟩ := hs
    exact ⟨v, H', J.os, J.bare, J.base, J.hok, rv, q⟩
  | next =>
    obtain ⟨σ', H', J, q⟩ := hs
    exact ⟨V.non, H', J.os, J.bare, J.base, J.hok, rfl, q⟩
  | brk =>
    obtain ⟨_, _, _, q⟩ := hs
    exact False.elim q
  | cont =>
    obtain ⟨_, _, _, q⟩ := hs
    exact False.elim q
/-- the script alone is tracked, if it is none of the module's own objects -/
theorem law_at {P : Program} {w : World} {K : PySem.W.Frag} {mg mb : Str → Option Value} {fa a : Addr} {fd : FuncData} {x : Str} {sp : Sp} {s₁ : Shared} {vs : List Value} {ns : List Int}
    (KX : K.In s₁.heap) (hns : s₁.heap.Ns mainGlobals mg) (hb : s₁.heap.Ns builtinsNs mb) (hbb : ∀ x : Str, x ≠ "__name__" → mb x = bootBuiltins x) (hlim : s₁.heap.NoLimit) (hg : s₁.gens = #[])
    (ha : s₁.heap.get? a = some { cls := .type "list", data := .seq vs.toArray }) (hi : IntsAre vs ns) (hl : ns.length ≤ sizeLine)
    (F : ∀ base : Heap, K.In base → base.Ns mainGlobals mg → AtA callerA P w K mg base fa fd [x] sp) (hbind : ∀ (s : Shared) (u : Value), BindsTo s fd ⟨[u], []⟩ [(x, u)])
    (hsp : ∀ H : Hp, Only H → SqL K H a (ns.map V.int) → sp [.ref a] H (fun v _ => v = .bl true) fun _ _ _ => False) :
    codeAny (model P w) callerA (.call (.ref fa) ⟨[.ref a], []⟩) (fun r s' => r = .ok (.ret (.bool true)) ∧ OldK s₁.heap s'.heap ∧ s'.os = s₁.os ∧ AllBare s'.gens) s₁ := by
  have rv := vals_ints hi
  have main : ∀ H : Hp, Only H → SqL K H a (ns.map V.int) → HOk P w H s₁.heap → (∀ b, H b ≠ none → b = a) → (H a ≠ none → K.lookup a = none) →
      codeAny (model P w) callerA (.call (.ref fa) ⟨[.ref a], []⟩) (fun r s' => r = .ok (.ret (.bool true)) ∧ OldK s₁.heap s'.heap ∧ s'.os = s₁.os ∧ AllBare s'.gens) s₁ := by
    intro H hO hS hok hA hK
    have none_of : ∀ {b : Addr} {o : Obj}, s₁.heap.get? b = some o → (∀ es ep, o.data = .dict es ep → False) ∨ H b = none := fun {b o} e => by
      cases q : H b with
      | none => exact .inr rfl
      | some u =>
        obtain rfl : b = a := hA b (by rw [q]; simp)
        rw [ha] at e
        cases e
        exact .inl fun es ep d => by
          have d' : Data.seq vs.toArray _ = Data.dict es ep := d
          cases d'
    have nsK : ∀ {b : Addr} {m : Str → Option Value}, s₁.heap.Ns b m → (hidT s₁.heap H).Ns b m := fun {b m} ⟨o, es, ep, e, d, r⟩ => ⟨o, es, ep, hidT_get e (by
      rcases none_of e with h | h
      · exact (h es ep d).elim
      · exact h), d, r⟩
    have hKb : K.In (hidT s₁.heap H) := fun b o e => hidT_get (KX b o e) (by
      cases q : H b with
      | none => rfl
      | some u =>
        obtain rfl : b = a := hA b (by rw [q]; simp)
        rw [hK (by rw [q]; simp)] at e
        cases e)
    have hM : Mod K mg (hidT s₁.heap H) := ⟨hKb, nsK hns, ⟨mb, nsK hb, hbb⟩, let ⟨mc, h1, h2⟩ := hlim; ⟨mc, nsK h1, h2⟩⟩
    have e0 : Env0 P w K mg (hidT s₁.heap H) callerA [] s₁ H := ⟨rfl, hM, fun b o e => of_hidT e, Nat.le_of_eq (hidT_size _ _), trivial, fun b hb => absurd (show b ∈ ([] : List Addr) from hb) (by simp), hok, .of_eq hg⟩
    refine codeAny_mono (F _ hKb (nsK hns) [] s₁ H ⟨[.ref a], []⟩ [.ref a] [.ref a] _ _ e0 (hbind s₁ (.ref a)) (.cons rfl .nil) (hsp H hO hS)) fun r s' h => ?_
    cases r with
    | error e => exact (show False from h).elim
    | ok fl =>
      cases fl with
      | ret u =>
        obtain ⟨v, H', os, bare, un, hok', r', q⟩ := h
        obtain rfl : v = .bl true := q
        obtain rfl : u = Value.bool true := r'
        refine ⟨rfl, OldK.of_keep fun b o e => ?_, os, bare⟩
        cases q : H b with
        | none => exact un.keep b o e q (by intro z; exact absurd (show b ∈ ([] : List Addr) from z) (by simp)) (by simp)
        | some u =>
          rcases hO b with z | ⟨ob, xs, z⟩
          · rw [q] at z
            cases z
          · obtain ⟨e1, _⟩ := hok b _ z
            obtain ⟨e2, _⟩ := hok' b _ (un.frzs b ob _ z)
            rw [e] at e1
            cases e1
            exact e2
      | next => exact False.elim h
      | brk => exact False.elim h
      | cont => exact False.elim h
  cases hk : K.lookup a with
  | some o =>
    have e := KX a o hk
    rw [ha] at e
    cases e
    exact main (fun _ => none) (fun _ => .inl rfl) (.inr ⟨_, vs.toArray, _, hk, rfl, rfl, rfl, by rw [List.size_toArray, hi.length]; exact hl, by simpa using rv⟩) (fun b u z => nomatch z) (fun b z => absurd rfl z) fun z => absurd rfl z
  | none =>
    refine main (fun b => if b = a then some (.frz { cls := .type "list", data := .seq vs.toArray } (.lst (ns.map V.int))) else none) (fun b => ?_) (.inl (.inr ⟨{ cls := .type "list", data := .seq vs.toArray }, if_pos rfl⟩)) (fun b u z => ?_) (fun b z => ?_) fun _ => hk
    · by_cases hb : b = a
      · exact .inr ⟨_, _, if_pos hb⟩
      · exact .inl (if_neg hb)
    · by_cases hb : b = a
      · have z' := (if_pos hb).symm.trans z
        cases z'
        subst hb
        exact ⟨ha, by rw [List.length_map]; exact hl, vs, _, rv, ha⟩
      · have z' := (if_neg hb).symm.trans z
        cases z'
    · by_cases hb : b = a
      · exact hb
      · exact absurd (if_neg hb) z
theorem walk_at {l : PySem.W.OpenLaw} {n : Nat} {q : Program} {loose : List Str} {XP : (Str → Option Value) → Heap → Prop} {YP : World → Heap → Prop} {d : DefRec} {x : Str} (hn : l.most = some n) (hn2 : n ≤ sizeLine) (hdf : d.params.defaults = [])
    (F : ∀ (w : World) (mg : Str → Option Value) (fa : Addr) (h : Heap), YP w h → h.Ns mainGlobals mg → mg d.name = some (.ref fa) →
      ∃ (K : PySem.W.Frag) (fd : FuncData) (sp : Sp), K.In h ∧ (∀ (s : Shared) (u : Value), BindsTo s fd ⟨[u], []⟩ [(x, u)]) ∧
        (∀ (H : Hp) (a : Addr) (ns : List Int), ns.length ≤ n → Only H → SqL K H a (ns.map V.int) → sp [.ref a] H (fun v _ => v = .bl true) fun _ _ _ => False) ∧
        ∀ base : Heap, K.In base → base.Ns mainGlobals mg → AtA callerA l.prog w K mg base fa fd [x] sp) : PySem.W.WalkO q loose XP YP l.row.toRowW d [] (fun f vs => PySem.call f vs) := by
  refine Att.attach_call hn hdf fun w s₀ s₁ mg mb fa o pm cd doc a vs ns G Y ho hd hcd hmg hobj hints hlen hg => ?_
  obtain ⟨K, fd, sp, KX, hb, hsp, hF⟩ := F w mg fa _ Y G.T.g hmg
  exact law_at KX G.T.g G.T.b G.T.builtins G.T.nolimit hg hobj hints (Nat.le_trans hlen hn2) hF hb fun H hO hS => hsp H a ns hlen hO hS
end DL

set_option Elab.async false
set_option linter.all false
set_option maxRecDepth 100000
set_option maxHeartbeats 4000000
namespace K
open PySem PySem.Spec PyProof.Rows L2 DL
def cWORDS : D := .tuple (.str "mod" :: .str "nothing" :: .str "first" :: .str "no" :: .str "if" :: .str "most" :: .str "again" :: .str "to" :: .str "items" :: .str "every" :: .str "while" :: .str "do" :: .str "call" :: .str "back" :: .str "out" :: .str "fall" :: .str "keep" :: .str "ask" :: .str "anew" :: .str "scan" :: .str "move" :: .str "tab" :: .str "find" :: .str "reach" :: .str "many" :: .str "match" :: .str "here" :: .str "put" :: .str "take" :: .str "size" :: .str "at" :: .str "place" :: .str "say" :: .str "is" :: .str "isnt" :: .str "list" :: [])
def cOP_WORDS : D := .tuple [.str "+", .str "-", .str "*", .str "/", .str "mod", .str "."]
def cTEST_WORDS : D := .tuple [.str "<", .str "<=", .str "=", .str "<>", .str "is", .str "isnt"]
def cLEAVING : D := .tuple [.str "back", .str "out", .str "fall"]
def cDEPTH : D := .int 8
def cLONGEST_NAME : D := .int 8
def cLONGEST_TEXT : D := .int 20
def cGREATEST_NUMBER : D := .int 999
def cGREATEST_MOST : D := .int 20
def tSHAPES : List (Str × D) := ("nothing", .tuple []) :: ("number", .tuple [.str "number"]) :: ("text", .tuple [.str "text"]) :: ("name", .tuple [.str "name"]) :: ("list", .tuple [.str "items"]) :: ("op", .tuple [.str "op", .str "part", .str "part"]) :: ("test", .tuple [.str "test", .str "part", .str "part"]) :: ("or", .tuple [.str "part", .str "part"]) :: ("and", .tuple [.str "part", .str "part"]) :: ("first", .tuple [.str "part"]) :: ("no", .tuple [.str "part"]) :: ("if", .tuple [.str "part", .str "part", .str "part"]) :: ("most", .tuple [.str "most", .str "part"]) :: ("again", .tuple [.str "part"]) :: ("to", .tuple [.str "part", .str "part"]) :: ("items", .tuple [.str "part"]) :: ("give", .tuple [.str "name", .str "part"]) :: ("lend", .tuple [.str "name", .str "part"]) :: ("every", .tuple [.str "part", .str "part"]) :: ("while", .tuple [.str "part", .str "part"]) :: ("do", .tuple [.str "steps"]) :: ("call", .tuple [.str "part", .str "handed"]) :: ("back", .tuple [.str "part"]) :: ("out", .tuple [.str "part"]) :: ("fall", .tuple []) :: ("keep", .tuple [.str "part"]) :: ("ask", .tuple [.str "part"]) :: ("anew", .tuple [.str "part"]) :: ("scan", .tuple [.str "part", .str "part"]) :: ("move", .tuple [.str "part"]) :: ("tab", .tuple [.str "part"]) :: ("find", .tuple [.str "part"]) :: ("reach", .tuple [.str "part"]) :: ("many", .tuple [.str "part"]) :: ("match", .tuple [.str "part"]) :: ("here", .tuple []) :: ("put", .tuple [.str "part", .str "part"]) :: ("take", .tuple [.str "part"]) :: ("size", .tuple [.str "part"]) :: ("at", .tuple [.str "part", .str "part"]) :: ("place", .tuple [.str "part", .str "part", .str "part"]) :: ("say", .tuple [.str "part"]) :: []
def tROW_SIZES : List (Str × D) := ("items", .tuple [.int 0, .int 4]) :: ("steps", .tuple [.int 1, .int 6]) :: ("handed", .tuple [.int 0, .int 3]) :: []
structure Tx (mg : Str → Option Value) (K : PySem.W.Frag) (w : World) : Prop where
  n_len : mg "len" = none
  n_isinstance : mg "isinstance" = none
  n_list : mg "list" = none
  n_tuple : mg "tuple" = none
  n_str : mg "str" = none
  n_int : mg "int" = none
  n_abs : mg "abs" = none
  n_ord : mg "ord" = none
  n_all : mg "all" = none
  n_max : mg "max" = none
  n_min : mg "min" = none
  n_range : mg "range" = none
  n_zip : mg "zip" = none
  n_repr : mg "repr" = none
  n_bool : mg "bool" = none
  g_WORDS : GlD mg K "WORDS" cWORDS
  g_OP_WORDS : GlD mg K "OP_WORDS" cOP_WORDS
  g_TEST_WORDS : GlD mg K "TEST_WORDS" cTEST_WORDS
  g_LEAVING : GlD mg K "LEAVING" cLEAVING
  g_DEPTH : GlD mg K "DEPTH" cDEPTH
  g_LONGEST_NAME : GlD mg K "LONGEST_NAME" cLONGEST_NAME
  g_LONGEST_TEXT : GlD mg K "LONGEST_TEXT" cLONGEST_TEXT
  g_GREATEST_NUMBER : GlD mg K "GREATEST_NUMBER" cGREATEST_NUMBER
  g_GREATEST_MOST : GlD mg K "GREATEST_MOST" cGREATEST_MOST
  t_SHAPES : KTab mg K w "SHAPES" tSHAPES
  t_ROW_SIZES : KTab mg K w "ROW_SIZES" tROW_SIZES
abbrev N_is_row : List Str := ["value"]
abbrev P_is_row : List Str := ["value"]
def b_is_row : DS := sRet (dUn (oIs2 "list" "tuple") (dVar 0))
abbrev N_is_integer : List Str := ["value"]
abbrev P_is_integer : List Str := ["value"]
def b_is_integer : DS := sRet (dAndV (dUn (oIs "int") (dVar 0)) (dNotV (dUn (oIs "bool") (dVar 0))))
abbrev N_is_letter : List Str := ["sign"]
abbrev P_is_letter : List Str := ["sign"]
def b_is_letter : DS := sRet (dChain oLe oLe (dC (.str "a")) (dVar 0) (dC (.str "z")))
abbrev N_is_text_sign : List Str := ["sign"]
abbrev P_is_text_sign : List Str := ["sign"]
def b_is_text_sign : DS := sRet (dAndV (dChain oLe oLe (dC (.str " ")) (dVar 0) (dC (.str "~"))) (dAndV (dOp (oEq true) (dVar 0) (dC (.str "'"))) (dOp (oEq true) (dUn oOrd (dVar 0)) (dC (.int 37)))))
abbrev N_is_name : List Str := ["value", "sign"]
abbrev P_is_name : List Str := ["value"]
def b_is_name_1 (t_is_letter : DSp) : DS := sRet (dAndV (dOp (oIn true) (dVar 0) (dC cWORDS)) (dUn oAll (dComp (dOver (dVar 0)) [1] (dgN 1) (dtYes) (dCall (lo0 t_is_letter) [] (dCons (dVar 1) (dNil))))))
def b_is_name (t_is_letter : DSp) : DS := sSeq (sIf (dOr (dNot (dB (dUn (oIs "str") (dVar 0)))) (dNot (dB (dChain oLe oLe (dC (.int 1)) (dUn oLen (dVar 0)) (dC cLONGEST_NAME))))) (sRet (dC (.bool false))) (sNext)) (b_is_name_1 t_is_letter)
abbrev N_is_text : List Str := ["value", "sign"]
abbrev P_is_text : List Str := ["value"]
def b_is_text_1 (t_is_text_sign : DSp) : DS := sRet (dUn oAll (dComp (dOver (dVar 0)) [1] (dgN 1) (dtYes) (dCall (lo0 t_is_text_sign) [] (dCons (dVar 1) (dNil)))))
def b_is_text (t_is_text_sign : DSp) : DS := sSeq (sIf (dOr (dNot (dB (dUn (oIs "str") (dVar 0)))) (dB (dOp oGt (dUn oLen (dVar 0)) (dC cLONGEST_TEXT)))) (sRet (dC (.bool false))) (sNext)) (b_is_text_1 t_is_text_sign)
abbrev N_field_fits : List Str := ["kind", "thing", "words"]
abbrev P_field_fits : List Str := ["kind", "thing"]
def b_field_fits_5 (t_is_integer t_is_text t_is_name : DSp) : DS := sRet (dAndV (dUn (oIs "str") (dVar 1)) (dOp (oIn false) (dVar 1) (dVar 2)))
def b_field_fits_4 (t_is_integer t_is_text t_is_name : DSp) : DS := sSeq (sSet 2 (dIfE (dB (dOp (oEq false) (dVar 0) (dC (.str "op")))) (dC cOP_WORDS) (dC cTEST_WORDS))) (b_field_fits_5 t_is_integer t_is_text t_is_name)
def b_field_fits_3 (t_is_integer t_is_text t_is_name : DSp) : DS := sSeq (sIf (dB (dOp (oEq false) (dVar 0) (dC (.str "name")))) (sRet (dCall (lo0 t_is_name) [] (dCons (dVar 1) (dNil)))) (sNext)) (b_field_fits_4 t_is_integer t_is_text t_is_name)
def b_field_fits_2 (t_is_integer t_is_text t_is_name : DSp) : DS := sSeq (sIf (dB (dOp (oEq false) (dVar 0) (dC (.str "text")))) (sRet (dCall (lo0 t_is_text) [] (dCons (dVar 1) (dNil)))) (sNext)) (b_field_fits_3 t_is_integer t_is_text t_is_name)
def b_field_fits_1 (t_is_integer t_is_text t_is_name : DSp) : DS := sSeq (sIf (dB (dOp (oEq false) (dVar 0) (dC (.str "most")))) (sRet (dAndV (dCall (lo0 t_is_integer) [] (dCons (dVar 1) (dNil))) (dChain oLe oLe (dC (.int 0)) (dVar 1) (dC cGREATEST_MOST)))) (sNext)) (b_field_fits_2 t_is_integer t_is_text t_is_name)
def b_field_fits (t_is_integer t_is_text t_is_name : DSp) : DS := sSeq (sIf (dB (dOp (oEq false) (dVar 0) (dC (.str "number")))) (sRet (dAndV (dCall (lo0 t_is_integer) [] (dCons (dVar 1) (dNil))) (dChain oLe oLe (dUn oNeg (dC cGREATEST_NUMBER)) (dVar 1) (dC cGREATEST_NUMBER)))) (sNext)) (b_field_fits_1 t_is_integer t_is_text t_is_name)
abbrev N_row_fits : List Str := ["kind", "thing", "least", "greatest"]
abbrev P_row_fits : List Str := ["kind", "thing"]
def b_row_fits_1 (t_is_row : DSp) : DS := sRet (dAndV (dCall (lo0 t_is_row) [] (dCons (dVar 1) (dNil))) (dChain oLe oLe (dVar 2) (dUn oLen (dVar 1)) (dVar 3)))
def b_row_fits (t_is_row : DSp) : DS := sSeq (sTo (dUn (oKget tROW_SIZES) (dVar 0)) (dgTup 2 (dgCons (dgN 2) (dgCons (dgN 3) (dgNil))))) (b_row_fits_1 t_is_row)
abbrev N_has_shape : List Str := ["value", "word"]
abbrev P_has_shape : List Str := ["value"]
def b_has_shape_2 (t_is_row : DSp) : DS := sRet (dAndV (dUn (oIs "str") (dVar 1)) (dAndV (dUn (oKin false tSHAPES) (dVar 1)) (dOp (oEq false) (dUn oLen (dVar 0)) (dOp oAdd (dUn oLen (dUn (oKget tSHAPES) (dVar 1))) (dC (.int 1))))))
def b_has_shape_1 (t_is_row : DSp) : DS := sSeq (sSet 1 (dOp oIx (dVar 0) (dC (.int 0)))) (b_has_shape_2 t_is_row)
def b_has_shape (t_is_row : DSp) : DS := sSeq (sIf (dOr (dNot (dB (dCall (lo0 t_is_row) [] (dCons (dVar 0) (dNil))))) (dB (dOp (oEq false) (dUn oLen (dVar 0)) (dC (.int 0))))) (sRet (dC (.bool false))) (sNext)) (b_has_shape_1 t_is_row)
abbrev N_fits : List Str := ["value", "depth", "kept", "word", "kind", "thing", "right", "part"]
abbrev P_fits : List Str := ["value", "depth", "kept"]
def b_fits_q0 (t_has_shape t_fits_3 t_row_fits t_field_fits : DSp) : DS := sIf (dNot (dB (dVar 6))) (sRet (dC (.bool false))) (sNext)
def b_fits_f0 (t_has_shape t_fits_3 t_row_fits t_field_fits : DSp) : DS := sSeq (sIf (dB (dOp (oEq false) (dVar 4) (dC (.str "part")))) (sSet 6 (dCall (lo0 t_fits_3) [] (dCons (dVar 5) (dCons (dOp oSub (dVar 1) (dC (.int 1))) (dCons (dVar 2) (dNil)))))) (sIf (dB (dUn (oKin false tROW_SIZES) (dVar 4))) (sSet 6 (dAndV (dCall (lo0 t_row_fits) [] (dCons (dVar 4) (dCons (dVar 5) (dNil)))) (dUn oAll (dComp (dOver (dVar 5)) [7] (dgN 7) (dtYes) (dCall (lo0 t_fits_3) [] (dCons (dVar 7) (dCons (dOp oSub (dVar 1) (dC (.int 1))) (dCons (dVar 2) (dNil))))))))) (sSet 6 (dCall (lo0 t_field_fits) [] (dCons (dVar 4) (dCons (dVar 5) (dNil))))))) (b_fits_q0 t_has_shape t_fits_3 t_row_fits t_field_fits)
def b_fits_5 (t_has_shape t_fits_3 t_row_fits t_field_fits : DSp) : DS := sRet (dC (.bool true))
def b_fits_4 (t_has_shape t_fits_3 t_row_fits t_field_fits : DSp) : DS := sSeq (sFor (dZip (dUn (oKget tSHAPES) (dVar 3)) (dSl (dVar 0) (dPart (dC (.int 1))) (dNoPart))) (dgTup 2 (dgCons (dgN 4) (dgCons (dgN 5) (dgNil)))) (b_fits_f0 t_has_shape t_fits_3 t_row_fits t_field_fits)) (b_fits_5 t_has_shape t_fits_3 t_row_fits t_field_fits)
def b_fits_3 (t_has_shape t_fits_3 t_row_fits t_field_fits : DSp) : DS := sSeq (sSet 2 (dOrV (dVar 2) (dOp (oEq false) (dVar 3) (dC (.str "keep"))))) (b_fits_4 t_has_shape t_fits_3 t_row_fits t_field_fits)
def b_fits_2 (t_has_shape t_fits_3 t_row_fits t_field_fits : DSp) : DS := sSeq (sIf (dAnd (dB (dVar 2)) (dB (dOp (oIn false) (dVar 3) (dC cLEAVING)))) (sRet (dC (.bool false))) (sNext)) (b_fits_3 t_has_shape t_fits_3 t_row_fits t_field_fits)
def b_fits_1 (t_has_shape t_fits_3 t_row_fits t_field_fits : DSp) : DS := sSeq (sSet 3 (dOp oIx (dVar 0) (dC (.int 0)))) (b_fits_2 t_has_shape t_fits_3 t_row_fits t_field_fits)
def b_fits (t_has_shape t_fits_3 t_row_fits t_field_fits : DSp) : DS := sSeq (sIf (dOr (dB (dOp (oEq false) (dVar 1) (dC (.int 0)))) (dNot (dB (dCall (lo0 t_has_shape) [] (dCons (dVar 0) (dNil)))))) (sRet (dC (.bool false))) (sNext)) (b_fits_1 t_has_shape t_fits_3 t_row_fits t_field_fits)
abbrev N_is_expression : List Str := ["value"]
abbrev P_is_expression : List Str := ["value"]
def b_is_expression (t_fits_1 : DSp) : DS := sRet (dCall (lo0 t_fits_1) [.int 8, .bool false] (dCons (dVar 0) (dNil)))
abbrev N__law_mixed : List Str := ["cell", "turn", "number"]
abbrev P__law_mixed : List Str := ["cell", "turn"]
def b__law_mixed_2 : DS := sRet (dOp oMod (dOp oMul (dVar 2) (dOp oAdd (dOp oFdiv (dVar 2) (dC (.int 2003))) (dC (.int 40692)))) (dC (.int 2147483399)))
def b__law_mixed_1 : DS := sSeq (sSet 2 (dOp oMod (dOp oMul (dVar 2) (dOp oAdd (dOp oFdiv (dVar 2) (dC (.int 1009))) (dC (.int 69621)))) (dC (.int 2147483647)))) (b__law_mixed_2)
def b__law_mixed : DS := sSeq (sSet 2 (dOp oMod (dOp oMul (dOp oAdd (dOp oAdd (dOp oMod (dUn oInt (dVar 0)) (dC (.int 2147483647))) (dOp oMul (dC (.int 7919)) (dVar 1))) (dC (.int 1))) (dC (.int 48271))) (dC (.int 2147483647)))) (b__law_mixed_1)
abbrev N__law_words : List Str := ["words"]
abbrev P__law_words : List Str := []
def b__law_words_2 : DS := sRet (dOp oAdd (dVar 0) (dLst (dCons (dC (.str "here")) (dCons (dC (.str "put")) (dCons (dC (.str "take")) (dCons (dC (.str "size")) (dCons (dC (.str "at")) (dCons (dC (.str "place")) (dCons (dC (.str "say")) (dCons (dC (.str "is")) (dCons (dC (.str "isnt")) (dCons (dC (.str "list")) (dCons (dC (.str "mod")) (dNil))))))))))))))
def b__law_words_1 : DS := sSeq (sSet 0 (dOp oAdd (dVar 0) (dLst (dCons (dC (.str "out")) (dCons (dC (.str "fall")) (dCons (dC (.str "keep")) (dCons (dC (.str "ask")) (dCons (dC (.str "anew")) (dCons (dC (.str "scan")) (dCons (dC (.str "move")) (dCons (dC (.str "tab")) (dCons (dC (.str "find")) (dCons (dC (.str "reach")) (dCons (dC (.str "many")) (dCons (dC (.str "match")) (dNil)))))))))))))))) (b__law_words_2)
def b__law_words : DS := sSeq (sSet 0 (dLst (dCons (dC (.str "nothing")) (dCons (dC (.str "first")) (dCons (dC (.str "no")) (dCons (dC (.str "if")) (dCons (dC (.str "most")) (dCons (dC (.str "again")) (dCons (dC (.str "to")) (dCons (dC (.str "items")) (dCons (dC (.str "every")) (dCons (dC (.str "while")) (dCons (dC (.str "do")) (dCons (dC (.str "call")) (dCons (dC (.str "back")) (dNil)))))))))))))))) (b__law_words_1)
abbrev N__law_letters : List Str := ["bag", "size", "k"]
abbrev P__law_letters : List Str := ["bag", "size"]
def b__law_letters (t__law_draw : DSp) : DS := sRet (dJoin (dC (.str "")) (dComp (dRng1 (dVar 1)) [2] (dgN 2) (dtYes) (dOp oIx (dC (.str "abcdefghijklmnopqrstuvwxyz")) (dCall (lo0 t__law_draw) [] (dCons (dVar 0) (dCons (dC (.int 26)) (dNil)))))))
abbrev N__law_name : List Str := ["bag", "choice", "word", "more"]
abbrev P__law_name : List Str := ["bag"]
def b__law_name_5 (t__law_draw t__law_words t__law_letters : DSp) : DS := sRet (dVar 2)
def b__law_name_4 (t__law_draw t__law_words t__law_letters : DSp) : DS := sSeq (sIf (dB (dOp (oIn false) (dVar 2) (dCall (lo0 t__law_words) [] dNil))) (sRet (dOp oAdd (dC (.str "z")) (dSl (dVar 2) (dPart (dC (.int 1))) (dNoPart)))) (sNext)) (b__law_name_5 t__law_draw t__law_words t__law_letters)
def b__law_name_3 (t__law_draw t__law_words t__law_letters : DSp) : DS := sSeq (sSet 2 (dOp oIx (dLst (dCons (dOp oAdd (dSl (dVar 2) (dNoPart) (dPart (dC (.int 7)))) (dSl (dVar 3) (dNoPart) (dPart (dC (.int 1))))) (dCons (dSl (dVar 2) (dNoPart) (dPart (dUn oNeg (dC (.int 1))))) (dCons (dVar 3) (dCons (dC (.str "x")) (dCons (dC (.str "y")) (dCons (dC (.str "n")) (dCons (dC (.str "main")) (dNil))))))))) (dVar 1))) (b__law_name_4 t__law_draw t__law_words t__law_letters)
def b__law_name_2 (t__law_draw t__law_words t__law_letters : DSp) : DS := sSeq (sSet 3 (dCall (lo0 t__law_letters) [] (dCons (dVar 0) (dCons (dOp oAdd (dC (.int 1)) (dCall (lo0 t__law_draw) [] (dCons (dVar 0) (dCons (dC (.int 8)) (dNil))))) (dNil))))) (b__law_name_3 t__law_draw t__law_words t__law_letters)
def b__law_name_1 (t__law_draw t__law_words t__law_letters : DSp) : DS := sSeq (sSet 2 (dOp oIx (dCall (lo0 t__law_words) [] dNil) (dCall (lo0 t__law_draw) [] (dCons (dVar 0) (dCons (dC (.int 36)) (dNil)))))) (b__law_name_2 t__law_draw t__law_words t__law_letters)
def b__law_name (t__law_draw t__law_words t__law_letters : DSp) : DS := sSeq (sSet 1 (dCall (lo0 t__law_draw) [] (dCons (dVar 0) (dCons (dC (.int 7)) (dNil))))) (b__law_name_1 t__law_draw t__law_words t__law_letters)
abbrev N__law_written : List Str := ["bag", "characters", "size", "k"]
abbrev P__law_written : List Str := ["bag"]
def b__law_written_3 (t__law_draw : DSp) : DS := sRet (dJoin (dC (.str "")) (dComp (dRng1 (dVar 2)) [3] (dgN 3) (dtYes) (dOp oIx (dVar 1) (dCall (lo0 t__law_draw) [] (dCons (dVar 0) (dCons (dUn oLen (dVar 1)) (dNil)))))))
def b__law_written_2 (t__law_draw : DSp) : DS := sSeq (sIf (dB (dOp (oEq false) (dVar 2) (dC (.int 5)))) (sSet 2 (dCall (lo0 t__law_draw) [] (dCons (dVar 0) (dCons (dC (.int 21)) (dNil))))) (sNext)) (b__law_written_3 t__law_draw)
def b__law_written_1 (t__law_draw : DSp) : DS := sSeq (sSet 2 (dCall (lo0 t__law_draw) [] (dCons (dVar 0) (dCons (dC (.int 6)) (dNil))))) (b__law_written_2 t__law_draw)
def b__law_written (t__law_draw : DSp) : DS := sSeq (sSet 1 (dC (.str " !\"#$&()*+,-./0123456789:;<=>?@ABCDEFGHIJKLMNOPQRSTUVWXYZ[\\]^_`abcdefghijklmnopqrstuvwxyz{|}~"))) (b__law_written_1 t__law_draw)
abbrev N__law_leaf : List Str := ["bag", "kept", "choice"]
abbrev P__law_leaf : List Str := ["bag", "kept"]
def b__law_leaf_5 (t__law_draw t__law_name t__law_written : DSp) : DS := sRet (dOp oIx (dLst (dCons (dTup (dCons (dC (.str "nothing")) (dNil))) (dCons (dC .none) (dCons (dC .none) (dCons (dTup (dCons (dC (.str "list")) (dCons (dLst (dNil)) (dNil)))) (dCons (dTup (dCons (dC (.str "fall")) (dNil))) (dCons (dLst (dCons (dC (.str "here")) (dNil))) (dNil)))))))) (dVar 2))
def b__law_leaf_4 (t__law_draw t__law_name t__law_written : DSp) : DS := sSeq (sIf (dB (dOp (oEq false) (dVar 2) (dC (.int 2)))) (sRet (dTup (dCons (dC (.str "text")) (dCons (dCall (lo0 t__law_written) [] (dCons (dVar 0) (dNil))) (dNil))))) (sNext)) (b__law_leaf_5 t__law_draw t__law_name t__law_written)
def b__law_leaf_3 (t__law_draw t__law_name t__law_written : DSp) : DS := sSeq (sIf (dB (dOp (oEq false) (dVar 2) (dC (.int 1)))) (sRet (dTup (dCons (dC (.str "number")) (dCons (dOp oSub (dCall (lo0 t__law_draw) [] (dCons (dVar 0) (dCons (dC (.int 1999)) (dNil)))) (dC (.int 999))) (dNil))))) (sNext)) (b__law_leaf_4 t__law_draw t__law_name t__law_written)
def b__law_leaf_2 (t__law_draw t__law_name t__law_written : DSp) : DS := sSeq (sIf (dB (dOp oGt (dVar 2) (dC (.int 5)))) (sRet (dTup (dCons (dC (.str "name")) (dCons (dCall (lo0 t__law_name) [] (dCons (dVar 0) (dNil))) (dNil))))) (sNext)) (b__law_leaf_3 t__law_draw t__law_name t__law_written)
def b__law_leaf_1 (t__law_draw t__law_name t__law_written : DSp) : DS := sSeq (sIf (dAnd (dB (dOp (oEq false) (dVar 2) (dC (.int 4)))) (dB (dOp (oEq false) (dVar 1) (dC (.int 1))))) (sRet (dTup (dCons (dC (.str "nothing")) (dNil)))) (sNext)) (b__law_leaf_2 t__law_draw t__law_name t__law_written)
def b__law_leaf (t__law_draw t__law_name t__law_written : DSp) : DS := sSeq (sSet 2 (dCall (lo0 t__law_draw) [] (dCons (dVar 0) (dCons (dC (.int 7)) (dNil))))) (b__law_leaf_1 t__law_draw t__law_name t__law_written)
abbrev N__law_item : List Str := ["bag", "letter", "room", "depth", "kept", "many", "turn", "row", "k"]
abbrev P__law_item : List Str := ["bag", "letter", "room", "depth", "kept"]
def b__law_item_q0 (t__law_expression t__law_draw t__law_name t__law_written : DSp) : DS := sRet (dOp oIx (dVar 7) (dOp oAdd (dCall (lo0 t__law_draw) [] (dCons (dVar 0) (dCons (dC (.int 6)) (dNil)))) (dOp oMul (dC (.int 6)) (dUn oInt (dOp (oEq false) (dVar 1) (dC (.str "c")))))))
def b__law_item_9 (t__law_expression t__law_draw t__law_name t__law_written : DSp) : DS := sRet (dOp oIx (dLst (dCons (dVar 7) (dCons (dUn oTup (dVar 7)) (dNil)))) (dVar 6))
def b__law_item_8 (t__law_expression t__law_draw t__law_name t__law_written : DSp) : DS := sSeq (sSet 7 (dComp (dRng1 (dVar 5)) [8] (dgN 8) (dtYes) (dCall (lo0 t__law_expression) [] (dCons (dVar 0) (dCons (dVar 2) (dCons (dVar 3) (dCons (dVar 4) (dNil)))))))) (b__law_item_9 t__law_expression t__law_draw t__law_name t__law_written)
def b__law_item_7 (t__law_expression t__law_draw t__law_name t__law_written : DSp) : DS := sSeq (sSet 6 (dCall (lo0 t__law_draw) [] (dCons (dVar 0) (dCons (dC (.int 2)) (dNil))))) (b__law_item_8 t__law_expression t__law_draw t__law_name t__law_written)
def b__law_item_6 (t__law_expression t__law_draw t__law_name t__law_written : DSp) : DS := sSeq (sSet 5 (dOp oAdd (dCall (lo0 t__law_draw) [] (dCons (dVar 0) (dCons (dOp oGet (dDict [(.inr "l", dC (.int 5)), (.inr "d", dC (.int 6)), (.inr "a", dC (.int 4))]) (dVar 1)) (dNil)))) (dUn oInt (dOp (oEq false) (dVar 1) (dC (.str "d")))))) (b__law_item_7 t__law_expression t__law_draw t__law_name t__law_written)
def b__law_item_5 (t__law_expression t__law_draw t__law_name t__law_written : DSp) : DS := sSeq (sIf (dB (dOp (oEq false) (dVar 1) (dC (.str "t")))) (sRet (dCall (lo0 t__law_written) [] (dCons (dVar 0) (dNil)))) (sNext)) (b__law_item_6 t__law_expression t__law_draw t__law_name t__law_written)
def b__law_item_4 (t__law_expression t__law_draw t__law_name t__law_written : DSp) : DS := sSeq (sIf (dB (dOp (oEq false) (dVar 1) (dC (.str "x")))) (sRet (dCall (lo0 t__law_name) [] (dCons (dVar 0) (dNil)))) (sNext)) (b__law_item_5 t__law_expression t__law_draw t__law_name t__law_written)
def b__law_item_3 (t__law_expression t__law_draw t__law_name t__law_written : DSp) : DS := sSeq (sIf (dB (dOp (oIn false) (dVar 1) (dC (.str "oc")))) (sSeq (sSet 7 (dLst (dCons (dC (.str "+")) (dCons (dC (.str "-")) (dCons (dC (.str "*")) (dCons (dC (.str "/")) (dCons (dC (.str "mod")) (dCons (dC (.str ".")) (dCons (dC (.str "<")) (dCons (dC (.str "<=")) (dCons (dC (.str "=")) (dCons (dC (.str "<>")) (dCons (dC (.str "is")) (dCons (dC (.str "isnt")) (dNil))))))))))))))) (b__law_item_q0 t__law_expression t__law_draw t__law_name t__law_written)) (sNext)) (b__law_item_4 t__law_expression t__law_draw t__law_name t__law_written)
def b__law_item_2 (t__law_expression t__law_draw t__law_name t__law_written : DSp) : DS := sSeq (sIf (dB (dOp (oEq false) (dVar 1) (dC (.str "m")))) (sRet (dCall (lo0 t__law_draw) [] (dCons (dVar 0) (dCons (dC (.int 21)) (dNil))))) (sNext)) (b__law_item_3 t__law_expression t__law_draw t__law_name t__law_written)
def b__law_item_1 (t__law_expression t__law_draw t__law_name t__law_written : DSp) : DS := sSeq (sIf (dB (dOp (oEq false) (dVar 1) (dC (.str "n")))) (sRet (dOp oSub (dCall (lo0 t__law_draw) [] (dCons (dVar 0) (dCons (dC (.int 1999)) (dNil)))) (dC (.int 999)))) (sNext)) (b__law_item_2 t__law_expression t__law_draw t__law_name t__law_written)
def b__law_item (t__law_expression t__law_draw t__law_name t__law_written : DSp) : DS := sSeq (sIf (dB (dOp (oEq false) (dVar 1) (dC (.str "e")))) (sRet (dCall (lo0 t__law_expression) [] (dCons (dVar 0) (dCons (dVar 2) (dCons (dVar 3) (dCons (dVar 4) (dNil))))))) (sNext)) (b__law_item_1 t__law_expression t__law_draw t__law_name t__law_written)
abbrev N__law_expression : List Str := ["bag", "room", "depth", "kept", "shapes", "kind", "within", "row", "letter"]
abbrev P__law_expression : List Str := ["bag", "room", "depth", "kept"]
def b__law_expression_f0 (t__law_leaf t__law_shapes t__law_draw t__law_item : DSp) : DS := sApp 7 (dCall (lo0 t__law_item) [] (dCons (dVar 0) (dCons (dVar 8) (dCons (dVar 1) (dCons (dOp oSub (dVar 2) (dC (.int 1))) (dCons (dVar 6) (dNil)))))))
def b__law_expression_8 (t__law_leaf t__law_shapes t__law_draw t__law_item : DSp) : DS := sFrz 7 (sRet (dOp oIx (dLst (dCons (dVar 7) (dCons (dUn oTup (dVar 7)) (dNil)))) (dOp oMin (dCall (lo0 t__law_draw) [] (dCons (dVar 0) (dCons (dC (.int 3)) (dNil)))) (dC (.int 1)))))
def b__law_expression_7 (t__law_leaf t__law_shapes t__law_draw t__law_item : DSp) : DS := sSeq (sFor (dOver (dOp oGet (dVar 4) (dVar 5))) (dgN 8) (b__law_expression_f0 t__law_leaf t__law_shapes t__law_draw t__law_item)) (b__law_expression_8 t__law_leaf t__law_shapes t__law_draw t__law_item)
def b__law_expression_6 (t__law_leaf t__law_shapes t__law_draw t__law_item : DSp) : DS := sSeq (sOwnL 7 (dCons (dVar 5) (dNil))) (b__law_expression_7 t__law_leaf t__law_shapes t__law_draw t__law_item)
def b__law_expression_5 (t__law_leaf t__law_shapes t__law_draw t__law_item : DSp) : DS := sSeq (sSet 6 (dOp oMax (dVar 3) (dUn oInt (dOp (oEq false) (dVar 5) (dC (.str "keep")))))) (b__law_expression_6 t__law_leaf t__law_shapes t__law_draw t__law_item)
def b__law_expression_4 (t__law_leaf t__law_shapes t__law_draw t__law_item : DSp) : DS := sSeq (sIf (dAnd (dB (dOp (oEq false) (dVar 3) (dC (.int 1)))) (dB (dOp (oIn false) (dVar 5) (dLst (dCons (dC (.str "back")) (dCons (dC (.str "out")) (dCons (dC (.str "fall")) (dNil)))))))) (sSet 5 (dC (.str "say"))) (sNext)) (b__law_expression_5 t__law_leaf t__law_shapes t__law_draw t__law_item)
def b__law_expression_3 (t__law_leaf t__law_shapes t__law_draw t__law_item : DSp) : DS := sSeq (sSet 5 (dOp oIx (dUn oListD (dVar 4)) (dCall (lo0 t__law_draw) [] (dCons (dVar 0) (dCons (dUn oLenD (dVar 4)) (dNil)))))) (b__law_expression_4 t__law_leaf t__law_shapes t__law_draw t__law_item)
def b__law_expression_2 (t__law_leaf t__law_shapes t__law_draw t__law_item : DSp) : DS := sSeq (sSet 4 (dCall (lo0 t__law_shapes) [] dNil)) (b__law_expression_3 t__law_leaf t__law_shapes t__law_draw t__law_item)
def b__law_expression_1 (t__law_leaf t__law_shapes t__law_draw t__law_item : DSp) : DS := sSeq (sIf (dOr (dB (dOp oLe (dVar 2) (dC (.int 1)))) (dB (dOp oLe (dRoom 1) (dC (.int 0))))) (sRet (dCall (lo0 t__law_leaf) [] (dCons (dVar 0) (dCons (dVar 3) (dNil))))) (sNext)) (b__law_expression_2 t__law_leaf t__law_shapes t__law_draw t__law_item)
def b__law_expression (t__law_leaf t__law_shapes t__law_draw t__law_item : DSp) : DS := sSeq (sRoom 1 (dOp oSub (dRoom 1) (dC (.int 1)))) (b__law_expression_1 t__law_leaf t__law_shapes t__law_draw t__law_item)
abbrev N__law_is_name : List Str := ["tree", "letter"]
abbrev P__law_is_name : List Str := ["tree"]
def b__law_is_name_1 (t__law_words : DSp) : DS := sRet (dUn oAll (dComp (dOver (dVar 0)) [1] (dgN 1) (dtYes) (dAndV (dOp oLe (dC (.int 97)) (dUn oOrd (dVar 1))) (dOp oLe (dUn oOrd (dVar 1)) (dC (.int 122))))))
def b__law_is_name (t__law_words : DSp) : DS := sSeq (sIf (dOr (dNot (dB (dUn (oIs "str") (dVar 0)))) (dOr (dB (dOp oLt (dUn oLen (dVar 0)) (dC (.int 1)))) (dOr (dB (dOp oGt (dUn oLen (dVar 0)) (dC (.int 8)))) (dB (dOp (oIn false) (dVar 0) (dCall (lo0 t__law_words) [] dNil)))))) (sRet (dC (.bool false))) (sNext)) (b__law_is_name_1 t__law_words)
abbrev N__law_is_text : List Str := ["tree", "sign"]
abbrev P__law_is_text : List Str := ["tree"]
def b__law_is_text_1 : DS := sRet (dUn oAll (dComp (dOver (dVar 0)) [1] (dgN 1) (dtYes) (dAndV (dOp oLe (dC (.int 32)) (dUn oOrd (dVar 1))) (dAndV (dOp oLe (dUn oOrd (dVar 1)) (dC (.int 126))) (dAndV (dOp (oEq true) (dUn oOrd (dVar 1)) (dC (.int 37))) (dOp (oEq true) (dUn oOrd (dVar 1)) (dC (.int 39))))))))
def b__law_is_text : DS := sSeq (sIf (dOr (dNot (dB (dUn (oIs "str") (dVar 0)))) (dB (dOp oGt (dUn oLen (dVar 0)) (dC (.int 20))))) (sRet (dC (.bool false))) (sNext)) (b__law_is_text_1)
abbrev N__law_is_item : List Str := ["letter", "item", "room", "kept", "piece", "words", "low", "high"]
abbrev P__law_is_item : List Str := ["letter", "item", "room", "kept"]
def b__law_is_item_q0 (t__law_is t__law_is_name t__law_is_text : DSp) : DS := sRet (dAndV (dUn (oIs "int") (dVar 1)) (dAndV (dNotV (dUn (oIs "bool") (dVar 1))) (dAndV (dOp oLe (dVar 6) (dVar 1)) (dOp oLe (dVar 1) (dVar 7)))))
def b__law_is_item_q1 (t__law_is t__law_is_name t__law_is_text : DSp) : DS := sRet (dAndV (dUn (oIs "str") (dVar 1)) (dOp (oIn false) (dVar 1) (dVar 5)))
def b__law_is_item_f0 (t__law_is t__law_is_name t__law_is_text : DSp) : DS := sIf (dNot (dB (dCall (lo0 t__law_is) [] (dCons (dVar 4) (dCons (dVar 2) (dCons (dVar 3) (dNil))))))) (sRet (dC (.bool false))) (sNext)
def b__law_is_item_7 (t__law_is t__law_is_name t__law_is_text : DSp) : DS := sRet (dOrV (dOp (oEq true) (dVar 0) (dC (.str "d"))) (dOp oGt (dUn oLen (dVar 1)) (dC (.int 0))))
def b__law_is_item_6 (t__law_is t__law_is_name t__law_is_text : DSp) : DS := sSeq (sFor (dOver (dVar 1)) (dgN 4) (b__law_is_item_f0 t__law_is t__law_is_name t__law_is_text)) (b__law_is_item_7 t__law_is t__law_is_name t__law_is_text)
def b__law_is_item_5 (t__law_is t__law_is_name t__law_is_text : DSp) : DS := sSeq (sIf (dOr (dNot (dB (dUn (oIs2 "list" "tuple") (dVar 1)))) (dB (dOp oGt (dUn oLen (dVar 1)) (dOp oGet (dDict [(.inr "l", dC (.int 4)), (.inr "d", dC (.int 6)), (.inr "a", dC (.int 3))]) (dVar 0))))) (sRet (dC (.bool false))) (sNext)) (b__law_is_item_6 t__law_is t__law_is_name t__law_is_text)
def b__law_is_item_4 (t__law_is t__law_is_name t__law_is_text : DSp) : DS := sSeq (sIf (dB (dOp (oIn false) (dVar 0) (dC (.str "oc")))) (sSeq (sSet 5 (dOp oGet (dDict [(.inr "o", dLst (dCons (dC (.str "+")) (dCons (dC (.str "-")) (dCons (dC (.str "*")) (dCons (dC (.str "/")) (dCons (dC (.str "mod")) (dCons (dC (.str ".")) (dNil)))))))), (.inr "c", dLst (dCons (dC (.str "<")) (dCons (dC (.str "<=")) (dCons (dC (.str "=")) (dCons (dC (.str "<>")) (dCons (dC (.str "is")) (dCons (dC (.str "isnt")) (dNil))))))))]) (dVar 0))) (b__law_is_item_q1 t__law_is t__law_is_name t__law_is_text)) (sNext)) (b__law_is_item_5 t__law_is t__law_is_name t__law_is_text)
def b__law_is_item_3 (t__law_is t__law_is_name t__law_is_text : DSp) : DS := sSeq (sIf (dB (dOp (oEq false) (dVar 0) (dC (.str "t")))) (sRet (dCall (lo0 t__law_is_text) [] (dCons (dVar 1) (dNil)))) (sNext)) (b__law_is_item_4 t__law_is t__law_is_name t__law_is_text)
def b__law_is_item_2 (t__law_is t__law_is_name t__law_is_text : DSp) : DS := sSeq (sIf (dB (dOp (oEq false) (dVar 0) (dC (.str "x")))) (sRet (dCall (lo0 t__law_is_name) [] (dCons (dVar 1) (dNil)))) (sNext)) (b__law_is_item_3 t__law_is t__law_is_name t__law_is_text)
def b__law_is_item_1 (t__law_is t__law_is_name t__law_is_text : DSp) : DS := sSeq (sIf (dB (dOp (oIn false) (dVar 0) (dC (.str "nm")))) (sSeq (sPar 6 7 (dCons (dOp oIx (dLst (dCons (dUn oNeg (dC (.int 999))) (dCons (dC (.int 0)) (dNil)))) (dUn oInt (dOp (oEq false) (dVar 0) (dC (.str "m"))))) (dCons (dOp oIx (dLst (dCons (dC (.int 999)) (dCons (dC (.int 20)) (dNil)))) (dUn oInt (dOp (oEq false) (dVar 0) (dC (.str "m"))))) (dNil)))) (b__law_is_item_q0 t__law_is t__law_is_name t__law_is_text)) (sNext)) (b__law_is_item_2 t__law_is t__law_is_name t__law_is_text)
def b__law_is_item (t__law_is t__law_is_name t__law_is_text : DSp) : DS := sSeq (sIf (dB (dOp (oEq false) (dVar 0) (dC (.str "e")))) (sRet (dCall (lo0 t__law_is) [] (dCons (dVar 1) (dCons (dVar 2) (dCons (dVar 3) (dNil)))))) (sNext)) (b__law_is_item_1 t__law_is t__law_is_name t__law_is_text)
abbrev N__law_is : List Str := ["tree", "room", "kept", "shapes", "kind", "k"]
abbrev P__law_is : List Str := ["tree", "room", "kept"]
def b__law_is_f0 (t__law_shapes t__law_is_item : DSp) : DS := sIf (dNot (dB (dCall (lo0 t__law_is_item) [] (dCons (dOp oIx (dOp oGet (dVar 3) (dVar 4)) (dVar 5)) (dCons (dOp oIx (dVar 0) (dOp oAdd (dVar 5) (dC (.int 1)))) (dCons (dOp oSub (dVar 1) (dC (.int 1))) (dCons (dOrV (dVar 2) (dOp (oEq false) (dVar 4) (dC (.str "keep")))) (dNil)))))))) (sRet (dC (.bool false))) (sNext)
def b__law_is_6 (t__law_shapes t__law_is_item : DSp) : DS := sRet (dC (.bool true))
def b__law_is_5 (t__law_shapes t__law_is_item : DSp) : DS := sSeq (sFor (dRng1 (dUn oLen (dOp oGet (dVar 3) (dVar 4)))) (dgN 5) (b__law_is_f0 t__law_shapes t__law_is_item)) (b__law_is_6 t__law_shapes t__law_is_item)
def b__law_is_4 (t__law_shapes t__law_is_item : DSp) : DS := sSeq (sIf (dAnd (dB (dVar 2)) (dB (dOp (oIn false) (dVar 4) (dLst (dCons (dC (.str "back")) (dCons (dC (.str "out")) (dCons (dC (.str "fall")) (dNil)))))))) (sRet (dC (.bool false))) (sNext)) (b__law_is_5 t__law_shapes t__law_is_item)
def b__law_is_3 (t__law_shapes t__law_is_item : DSp) : DS := sSeq (sIf (dOr (dNot (dB (dUn (oIs "str") (dVar 4)))) (dOr (dB (dOp (oInK true) (dVar 4) (dVar 3))) (dB (dOp (oEq true) (dUn oLen (dVar 0)) (dOp oAdd (dUn oLen (dOp oGet (dVar 3) (dVar 4))) (dC (.int 1))))))) (sRet (dC (.bool false))) (sNext)) (b__law_is_4 t__law_shapes t__law_is_item)
def b__law_is_2 (t__law_shapes t__law_is_item : DSp) : DS := sSeq (sSet 4 (dOp oIx (dVar 0) (dC (.int 0)))) (b__law_is_3 t__law_shapes t__law_is_item)
def b__law_is_1 (t__law_shapes t__law_is_item : DSp) : DS := sSeq (sSet 3 (dCall (lo0 t__law_shapes) [] dNil)) (b__law_is_2 t__law_shapes t__law_is_item)
def b__law_is (t__law_shapes t__law_is_item : DSp) : DS := sSeq (sIf (dOr (dNot (dB (dUn (oIs2 "list" "tuple") (dVar 0)))) (dOr (dB (dOp (oEq false) (dUn oLen (dVar 0)) (dC (.int 0)))) (dB (dOp oLt (dVar 1) (dC (.int 1)))))) (sRet (dC (.bool false))) (sNext)) (b__law_is_1 t__law_shapes t__law_is_item)
abbrev N__law_parts : List Str := ["tree", "parts", "shape", "k"]
abbrev P__law_parts : List Str := ["tree"]
def b__law_parts_f0 (t__law_shapes : DSp) : DS := sIf (dB (dOp (oEq false) (dOp oIx (dVar 2) (dVar 3)) (dC (.str "e")))) (sApp 1 (dOp oIx (dVar 0) (dOp oAdd (dVar 3) (dC (.int 1))))) (sIf (dB (dOp (oIn false) (dOp oIx (dVar 2) (dVar 3)) (dC (.str "lda")))) (sExt 1 (dOp oIx (dVar 0) (dOp oAdd (dVar 3) (dC (.int 1))))) (sNext))
def b__law_parts_3 (t__law_shapes : DSp) : DS := sFrz 1 (sRet (dVar 1))
def b__law_parts_2 (t__law_shapes : DSp) : DS := sSeq (sFor (dRng1 (dUn oLen (dVar 2))) (dgN 3) (b__law_parts_f0 t__law_shapes)) (b__law_parts_3 t__law_shapes)
def b__law_parts_1 (t__law_shapes : DSp) : DS := sSeq (sSet 2 (dOp oGet (dCall (lo0 t__law_shapes) [] dNil) (dOp oIx (dVar 0) (dC (.int 0))))) (b__law_parts_2 t__law_shapes)
def b__law_parts (t__law_shapes : DSp) : DS := sSeq (sOwnL 1 (dNil)) (b__law_parts_1 t__law_shapes)
abbrev N__law_walk : List Str := ["tree", "way", "rows", "parts", "k"]
abbrev P__law_walk : List Str := ["tree", "way"]
def b__law_walk_f0 (t__law_parts t__law_walk : DSp) : DS := sExt 2 (dCall (lo0 t__law_walk) [] (dCons (dOp oIx (dVar 3) (dVar 4)) (dCons (dOp oAdd (dVar 1) (dTup (dCons (dVar 4) (dNil)))) (dNil))))
def b__law_walk_3 (t__law_parts t__law_walk : DSp) : DS := sFrz 2 (sRet (dVar 2))
def b__law_walk_2 (t__law_parts t__law_walk : DSp) : DS := sSeq (sFor (dRng1 (dUn oLen (dVar 3))) (dgN 4) (b__law_walk_f0 t__law_parts t__law_walk)) (b__law_walk_3 t__law_parts t__law_walk)
def b__law_walk_1 (t__law_parts t__law_walk : DSp) : DS := sSeq (sSet 3 (dCall (lo0 t__law_parts) [] (dCons (dVar 0) (dNil)))) (b__law_walk_2 t__law_parts t__law_walk)
def b__law_walk (t__law_parts t__law_walk : DSp) : DS := sSeq (sOwnL 2 (dCons (dTup (dCons (dVar 1) (dCons (dVar 0) (dNil)))) (dNil))) (b__law_walk_1 t__law_parts t__law_walk)
abbrev N__law_with : List Str := ["tree", "way", "piece", "row", "shape", "many", "k", "inner"]
abbrev P__law_with : List Str := ["tree", "way", "piece"]
def b__law_with_q0 (t__law_shapes t__law_with : DSp) : DS := sPut 3 (dOp oAdd (dVar 6) (dC (.int 1))) (dOp oIx (dLst (dCons (dUn oTup (dVar 7)) (dCons (dOp oIx (dVar 7) (dC (.int 0))) (dNil)))) (dUn oInt (dOp (oEq false) (dOp oIx (dVar 4) (dVar 6)) (dC (.str "e")))))
def b__law_with_q1 (t__law_shapes t__law_with : DSp) : DS := sSet 5 (dOp oSub (dVar 5) (dUn oLen (dVar 7)))
def b__law_with_q2 (t__law_shapes t__law_with : DSp) : DS := sSeq (sIf (dAnd (dB (dOp oLe (dC (.int 0)) (dVar 5))) (dB (dOp oLt (dVar 5) (dUn oLen (dVar 7))))) (sSeq (sPut 7 (dVar 5) (dCall (lo0 t__law_with) [] (dCons (dOp oIx (dVar 7) (dVar 5)) (dCons (dSl (dVar 1) (dPart (dC (.int 1))) (dNoPart)) (dCons (dVar 2) (dNil)))))) (b__law_with_q0 t__law_shapes t__law_with)) (sNext)) (b__law_with_q1 t__law_shapes t__law_with)
def b__law_with_q3 (t__law_shapes t__law_with : DSp) : DS := sSeq (sIf (dB (dOp (oEq false) (dOp oIx (dVar 4) (dVar 6)) (dC (.str "e")))) (sOwnL 7 (dCons (dOp oIx (dVar 0) (dOp oAdd (dVar 6) (dC (.int 1)))) (dNil))) (sIf (dB (dOp (oIn false) (dOp oIx (dVar 4) (dVar 6)) (dC (.str "lda")))) (sOwnC 7 (dOp oIx (dVar 0) (dOp oAdd (dVar 6) (dC (.int 1))))) (sNext))) (b__law_with_q2 t__law_shapes t__law_with)
def b__law_with_f0 (t__law_shapes t__law_with : DSp) : DS := sSeq (sOwnL 7 (dNil)) (b__law_with_q3 t__law_shapes t__law_with)
def b__law_with_5 (t__law_shapes t__law_with : DSp) : DS := sFrz 3 (sRet (dUn oTup (dVar 3)))
def b__law_with_4 (t__law_shapes t__law_with : DSp) : DS := sSeq (sFor (dRng1 (dUn oLen (dVar 4))) (dgN 6) (b__law_with_f0 t__law_shapes t__law_with)) (b__law_with_5 t__law_shapes t__law_with)
def b__law_with_3 (t__law_shapes t__law_with : DSp) : DS := sSeq (sSet 5 (dOp oIx (dVar 1) (dC (.int 0)))) (b__law_with_4 t__law_shapes t__law_with)
def b__law_with_2 (t__law_shapes t__law_with : DSp) : DS := sSeq (sSet 4 (dOp oGet (dCall (lo0 t__law_shapes) [] dNil) (dOp oIx (dVar 0) (dC (.int 0))))) (b__law_with_3 t__law_shapes t__law_with)
def b__law_with_1 (t__law_shapes t__law_with : DSp) : DS := sSeq (sOwnC 3 (dVar 0)) (b__law_with_2 t__law_shapes t__law_with)
def b__law_with (t__law_shapes t__law_with : DSp) : DS := sSeq (sIf (dB (dOp (oEq false) (dUn oLen (dVar 1)) (dC (.int 0)))) (sRet (dVar 2)) (sNext)) (b__law_with_1 t__law_shapes t__law_with)
abbrev N__law_wrap : List Str := ["bag", "tree", "choice"]
abbrev P__law_wrap : List Str := ["bag", "tree"]
def b__law_wrap_8 (t__law_draw : DSp) : DS := sRet (dTup (dCons (dC (.str "call")) (dCons (dLst (dCons (dC (.str "here")) (dNil))) (dCons (dLst (dCons (dVar 1) (dNil))) (dNil)))))
def b__law_wrap_7 (t__law_draw : DSp) : DS := sSeq (sIf (dB (dOp (oEq false) (dVar 2) (dC (.int 6)))) (sRet (dTup (dCons (dC (.str "keep")) (dCons (dVar 1) (dNil))))) (sNext)) (b__law_wrap_8 t__law_draw)
def b__law_wrap_6 (t__law_draw : DSp) : DS := sSeq (sIf (dB (dOp (oEq false) (dVar 2) (dC (.int 5)))) (sRet (dLst (dCons (dC (.str "call")) (dCons (dVar 1) (dCons (dLst (dNil)) (dNil)))))) (sNext)) (b__law_wrap_7 t__law_draw)
def b__law_wrap_5 (t__law_draw : DSp) : DS := sSeq (sIf (dB (dOp (oEq false) (dVar 2) (dC (.int 4)))) (sRet (dTup (dCons (dC (.str "give")) (dCons (dC (.str "x")) (dCons (dVar 1) (dNil)))))) (sNext)) (b__law_wrap_6 t__law_draw)
def b__law_wrap_4 (t__law_draw : DSp) : DS := sSeq (sIf (dB (dOp (oEq false) (dVar 2) (dC (.int 3)))) (sRet (dTup (dCons (dC (.str "if")) (dCons (dTup (dCons (dC (.str "here")) (dNil))) (dCons (dTup (dCons (dC (.str "here")) (dNil))) (dCons (dVar 1) (dNil))))))) (sNext)) (b__law_wrap_5 t__law_draw)
def b__law_wrap_3 (t__law_draw : DSp) : DS := sSeq (sIf (dB (dOp (oEq false) (dVar 2) (dC (.int 2)))) (sRet (dTup (dCons (dC (.str "list")) (dCons (dTup (dCons (dVar 1) (dNil))) (dNil))))) (sNext)) (b__law_wrap_4 t__law_draw)
def b__law_wrap_2 (t__law_draw : DSp) : DS := sSeq (sIf (dB (dOp (oEq false) (dVar 2) (dC (.int 1)))) (sRet (dTup (dCons (dC (.str "do")) (dCons (dLst (dCons (dVar 1) (dNil))) (dNil))))) (sNext)) (b__law_wrap_3 t__law_draw)
def b__law_wrap_1 (t__law_draw : DSp) : DS := sSeq (sIf (dB (dOp (oEq false) (dVar 2) (dC (.int 0)))) (sRet (dLst (dCons (dC (.str "first")) (dCons (dVar 1) (dNil))))) (sNext)) (b__law_wrap_2 t__law_draw)
def b__law_wrap (t__law_draw : DSp) : DS := sSeq (sSet 2 (dCall (lo0 t__law_draw) [] (dCons (dVar 0) (dCons (dC (.int 8)) (dNil))))) (b__law_wrap_1 t__law_draw)
abbrev N__law_odd : List Str := ["bag", "choice", "turn", "here", "row"]
abbrev P__law_odd : List Str := ["bag"]
def b__law_odd_q0 (t__law_draw t__law_letters t__law_words : DSp) : DS := sSet 4 (dOp oAdd (dVar 4) (dLst (dCons (dTup (dCons (dC (.str "text")) (dCons (dC (.str "a\nc")) (dNil)))) (dCons (dTup (dCons (dC (.str "text")) (dCons (dC (.str " ~")) (dNil)))) (dCons (dTup (dCons (dC (.str "text")) (dCons (dC (.str "")) (dNil)))) (dCons (dTup (dCons (dC (.str "number")) (dCons (dC (.int 999)) (dNil)))) (dCons (dTup (dCons (dC (.str "number")) (dCons (dUn oNeg (dC (.int 1000))) (dNil)))) (dCons (dTup (dCons (dC (.str "most")) (dCons (dC (.int 20)) (dCons (dLst (dCons (dVar 3) (dNil))) (dNil))))) (dNil)))))))))
def b__law_odd_q1 (t__law_draw t__law_letters t__law_words : DSp) : DS := sSeq (sSet 4 (dOp oAdd (dVar 4) (dLst (dCons (dTup (dCons (dC (.str "name")) (dCons (dOp oIx (dCall (lo0 t__law_words) [] dNil) (dCall (lo0 t__law_draw) [] (dCons (dVar 0) (dCons (dC (.int 36)) (dNil))))) (dNil)))) (dCons (dTup (dCons (dC (.str "text")) (dCons (dOp oMul (dC (.str "b")) (dOp oFdiv (dVar 2) (dC (.int 2)))) (dNil)))) (dCons (dTup (dCons (dC (.str "text")) (dCons (dC (.str "a!'c")) (dNil)))) (dNil))))))) (b__law_odd_q0 t__law_draw t__law_letters t__law_words)
def b__law_odd_q2 (t__law_draw t__law_letters t__law_words : DSp) : DS := sSet 4 (dOp oAdd (dVar 4) (dLst (dCons (dTup (dCons (dVar 3) (dNil))) (dCons (dTup (dCons (dLst (dNil)) (dNil))) (dCons (dTup (dCons (dC .none) (dCons (dVar 3) (dNil)))) (dCons (dTup (dCons (dC (.str "number")) (dCons (dC (.bool true)) (dNil)))) (dCons (dTup (dCons (dC (.str "number")) (dCons (dC (.str "1")) (dNil)))) (dCons (dTup (dCons (dC (.str "number")) (dCons (dC .none) (dNil)))) (dCons (dTup (dCons (dC (.str "Here")) (dNil))) (dNil))))))))))
def b__law_odd_q3 (t__law_draw t__law_letters t__law_words : DSp) : DS := sSet 4 (dOp oAdd (dVar 4) (dLst (dCons (dTup (dCons (dC (.str "call")) (dCons (dVar 3) (dCons (dTup (dNil)) (dNil))))) (dCons (dTup (dCons (dC (.str "call")) (dCons (dVar 3) (dCons (dOp oMul (dLst (dCons (dVar 3) (dNil))) (dC (.int 3))) (dNil))))) (dCons (dTup (dCons (dC (.str "call")) (dCons (dVar 3) (dCons (dOp oMul (dLst (dCons (dVar 3) (dNil))) (dC (.int 4))) (dNil))))) (dCons (dLst (dCons (dC (.str "call")) (dCons (dVar 3) (dNil)))) (dNil)))))))
def b__law_odd_q4 (t__law_draw t__law_letters t__law_words : DSp) : DS := sSeq (sSet 4 (dOp oAdd (dVar 4) (dLst (dCons (dTup (dCons (dC (.str "list")) (dCons (dOp oMul (dLst (dCons (dVar 3) (dNil))) (dC (.int 4))) (dNil)))) (dCons (dLst (dCons (dC (.str "list")) (dCons (dOp oMul (dLst (dCons (dVar 3) (dNil))) (dC (.int 5))) (dNil)))) (dCons (dTup (dCons (dC (.str "do")) (dCons (dTup (dNil)) (dNil)))) (dCons (dTup (dCons (dC (.str "do")) (dCons (dOp oMul (dLst (dCons (dVar 3) (dNil))) (dC (.int 6))) (dNil)))) (dCons (dTup (dCons (dC (.str "do")) (dCons (dOp oMul (dLst (dCons (dVar 3) (dNil))) (dC (.int 7))) (dNil)))) (dNil))))))))) (b__law_odd_q3 t__law_draw t__law_letters t__law_words)
def b__law_odd_q5 (t__law_draw t__law_letters t__law_words : DSp) : DS := sSeq (sSet 4 (dOp oAdd (dVar 4) (dLst (dCons (dTup (dCons (dC (.str "most")) (dCons (dC (.bool true)) (dCons (dVar 3) (dNil))))) (dCons (dTup (dCons (dC (.str "most")) (dCons (dVar 3) (dNil)))) (dCons (dTup (dCons (dC (.str "most")) (dCons (dC (.str "2")) (dCons (dVar 3) (dNil))))) (dCons (dTup (dCons (dC (.str "most")) (dCons (dVar 3) (dCons (dC (.int 2)) (dNil))))) (dCons (dTup (dCons (dC (.str "name")) (dNil))) (dNil))))))))) (b__law_odd_q4 t__law_draw t__law_letters t__law_words)
def b__law_odd_q6 (t__law_draw t__law_letters t__law_words : DSp) : DS := sSet 4 (dOp oAdd (dVar 4) (dLst (dCons (dTup (dCons (dC (.str "back")) (dCons (dVar 3) (dNil)))) (dCons (dTup (dCons (dC (.str "out")) (dCons (dVar 3) (dNil)))) (dCons (dTup (dCons (dC (.str "keep")) (dCons (dTup (dCons (dC (.str "fall")) (dNil))) (dNil)))) (dCons (dTup (dCons (dC (.str "keep")) (dCons (dTup (dCons (dC (.str "back")) (dCons (dVar 3) (dNil)))) (dNil)))) (dCons (dLst (dCons (dC (.str "list")) (dCons (dLst (dNil)) (dNil)))) (dNil))))))))
def b__law_odd_q7 (t__law_draw t__law_letters t__law_words : DSp) : DS := sSeq (sSet 4 (dOp oAdd (dVar 4) (dLst (dCons (dTup (dCons (dC (.str "op")) (dCons (dC (.int 3)) (dCons (dVar 3) (dCons (dVar 3) (dNil)))))) (dCons (dTup (dCons (dC (.str "give")) (dCons (dC (.str "no")) (dCons (dVar 3) (dNil))))) (dCons (dTup (dCons (dC (.str "give")) (dCons (dVar 3) (dCons (dVar 3) (dNil))))) (dCons (dTup (dCons (dC (.str "lend")) (dCons (dC (.str "")) (dCons (dVar 3) (dNil))))) (dCons (dTup (dCons (dC (.str "fall")) (dNil))) (dNil))))))))) (b__law_odd_q6 t__law_draw t__law_letters t__law_words)
def b__law_odd_q8 (t__law_draw t__law_letters t__law_words : DSp) : DS := sSeq (sSet 4 (dOp oAdd (dVar 4) (dLst (dCons (dTup (dCons (dC (.str "op")) (dCons (dC (.str "<")) (dCons (dVar 3) (dCons (dVar 3) (dNil)))))) (dCons (dTup (dCons (dC (.str "test")) (dCons (dC (.str "+")) (dCons (dVar 3) (dCons (dVar 3) (dNil)))))) (dCons (dTup (dCons (dC (.str "op")) (dCons (dC (.str "//")) (dCons (dVar 3) (dCons (dVar 3) (dNil)))))) (dCons (dTup (dCons (dC (.str "or")) (dCons (dVar 3) (dNil)))) (dNil)))))))) (b__law_odd_q7 t__law_draw t__law_letters t__law_words)
def b__law_odd_4 (t__law_draw t__law_letters t__law_words : DSp) : DS := sRet (dOp oIx (dVar 4) (dOp oMod (dUn oInt (dVar 2)) (dUn oLen (dVar 4))))
def b__law_odd_3 (t__law_draw t__law_letters t__law_words : DSp) : DS := sSeq (sIf (dB (dOp (oEq false) (dVar 1) (dC (.int 0)))) (sSeq (sSet 4 (dLst (dCons (dTup (dCons (dC (.str "number")) (dCons (dOp oSub (dCall (lo0 t__law_draw) [] (dCons (dVar 0) (dCons (dC (.int 4001)) (dNil)))) (dC (.int 2000))) (dNil)))) (dCons (dTup (dCons (dC (.str "name")) (dCons (dCall (lo0 t__law_letters) [] (dCons (dVar 0) (dCons (dOp oFdiv (dVar 2) (dC (.int 5))) (dNil)))) (dNil)))) (dCons (dTup (dCons (dC (.str "most")) (dCons (dOp oSub (dVar 2) (dC (.int 29))) (dCons (dVar 3) (dNil))))) (dNil)))))) (b__law_odd_q1 t__law_draw t__law_letters t__law_words)) (sIf (dB (dOp (oEq false) (dVar 1) (dC (.int 1)))) (sSeq (sSet 4 (dLst (dCons (dC .none) (dCons (dC (.bool true)) (dCons (dC (.int 7)) (dCons (dC (.str "here")) (dCons (dTup (dNil)) (dCons (dC (.dict [])) (dCons (dDict [(.inl 0, dVar 3)]) (dCons (dTup (dCons (dC (.str "plus")) (dCons (dVar 3) (dCons (dVar 3) (dNil))))) (dCons (dTup (dCons (dC (.str "nothing")) (dCons (dVar 3) (dNil)))) (dCons (dTup (dCons (dC (.str "number")) (dNil))) (dNil))))))))))))) (b__law_odd_q2 t__law_draw t__law_letters t__law_words)) (sIf (dB (dOp (oEq false) (dVar 1) (dC (.int 2)))) (sSeq (sSet 4 (dLst (dCons (dTup (dCons (dC (.str "text")) (dCons (dC (.int 5)) (dNil)))) (dCons (dTup (dCons (dC (.str "text")) (dCons (dC .none) (dNil)))) (dCons (dTup (dCons (dC (.str "name")) (dCons (dC (.str "")) (dNil)))) (dCons (dTup (dCons (dC (.str "name")) (dCons (dC (.str "A")) (dNil)))) (dCons (dTup (dCons (dC (.str "name")) (dCons (dC (.str "a1")) (dNil)))) (dCons (dTup (dCons (dC (.str "name")) (dCons (dC (.int 3)) (dNil)))) (dCons (dTup (dCons (dC (.str "name")) (dCons (dC (.str "aB")) (dNil)))) (dNil)))))))))) (b__law_odd_q5 t__law_draw t__law_letters t__law_words)) (sSeq (sSet 4 (dLst (dCons (dTup (dCons (dC (.str "list")) (dCons (dC .none) (dNil)))) (dCons (dTup (dCons (dC (.str "list")) (dCons (dVar 3) (dNil)))) (dCons (dTup (dCons (dC (.str "do")) (dCons (dVar 3) (dNil)))) (dCons (dTup (dCons (dC (.str "call")) (dCons (dVar 3) (dNil)))) (dCons (dTup (dCons (dC (.str "call")) (dCons (dLst (dCons (dVar 3) (dNil))) (dCons (dVar 3) (dNil))))) (dCons (dTup (dCons (dC (.str "if")) (dCons (dVar 3) (dCons (dVar 3) (dNil))))) (dNil))))))))) (b__law_odd_q8 t__law_draw t__law_letters t__law_words))))) (b__law_odd_4 t__law_draw t__law_letters t__law_words)
def b__law_odd_2 (t__law_draw t__law_letters t__law_words : DSp) : DS := sSeq (sSet 3 (dTup (dCons (dC (.str "here")) (dNil)))) (b__law_odd_3 t__law_draw t__law_letters t__law_words)
def b__law_odd_1 (t__law_draw t__law_letters t__law_words : DSp) : DS := sSeq (sSet 2 (dCall (lo0 t__law_draw) [] (dCons (dVar 0) (dCons (dC (.int 60)) (dNil))))) (b__law_odd_2 t__law_draw t__law_letters t__law_words)
def b__law_odd (t__law_draw t__law_letters t__law_words : DSp) : DS := sSeq (sSet 1 (dCall (lo0 t__law_draw) [] (dCons (dVar 0) (dCons (dC (.int 5)) (dNil))))) (b__law_odd_1 t__law_draw t__law_letters t__law_words)
abbrev N__law_told : List Str := ["tree"]
abbrev P__law_told : List Str := ["tree"]
def b__law_told_1 (t__law_is : DSp) : DS := sRet (dC (.str "False"))
def b__law_told (t__law_is : DSp) : DS := sSeq (sIf (dB (dCall (lo0 t__law_is) [] (dCons (dVar 0) (dCons (dC (.int 8)) (dCons (dC (.bool false)) (dNil)))))) (sRet (dC (.str "True"))) (sNext)) (b__law_told_1 t__law_is)
abbrev N_law : List Str := ["script", "bag", "spoil", "spot", "deep", "tree", "k", "before", "due", "first", "second", "walked"]
abbrev P_law : List Str := ["script"]
def b_law_q0 (t__law_draw t__law_expression t__law_walk t__law_with t__law_odd t__law_wrap t__law_told t_is_expression : DSp) : DS := sSet 5 (dCall (lo0 t__law_with) [] (dCons (dVar 5) (dCons (dOp oIx (dOp oIx (dVar 11) (dOp oMod (dUn oInt (dVar 3)) (dUn oLen (dVar 11)))) (dC (.int 0))) (dCons (dCall (lo0 t__law_odd) [] (dCons (dVar 1) (dNil))) (dNil)))))
def b_law_f0 (t__law_draw t__law_expression t__law_walk t__law_with t__law_odd t__law_wrap t__law_told t_is_expression : DSp) : DS := sSet 5 (dCall (lo0 t__law_wrap) [] (dCons (dVar 1) (dCons (dVar 5) (dNil))))
def b_law_11 (t__law_draw t__law_expression t__law_walk t__law_with t__law_odd t__law_wrap t__law_told t_is_expression : DSp) : DS := sRet (dAndV (dOp (oEq false) (dUn oStr (dVar 9)) (dVar 8)) (dAndV (dOp (oEq false) (dUn oStr (dVar 10)) (dVar 8)) (dOp (oEq false) (dUn oRepr (dVar 5)) (dVar 7))))
def b_law_10 (t__law_draw t__law_expression t__law_walk t__law_with t__law_odd t__law_wrap t__law_told t_is_expression : DSp) : DS := sSeq (sIf (dOr (dNot (dB (dUn (oIs "bool") (dVar 9)))) (dNot (dB (dUn (oIs "bool") (dVar 10))))) (sRet (dC (.bool false))) (sNext)) (b_law_11 t__law_draw t__law_expression t__law_walk t__law_with t__law_odd t__law_wrap t__law_told t_is_expression)
def b_law_9 (t__law_draw t__law_expression t__law_walk t__law_with t__law_odd t__law_wrap t__law_told t_is_expression : DSp) : DS := sSeq (sSet 10 (dCall (lo0 t_is_expression) [] (dCons (dVar 5) dNil))) (b_law_10 t__law_draw t__law_expression t__law_walk t__law_with t__law_odd t__law_wrap t__law_told t_is_expression)
def b_law_8 (t__law_draw t__law_expression t__law_walk t__law_with t__law_odd t__law_wrap t__law_told t_is_expression : DSp) : DS := sSeq (sSet 9 (dCall (lo0 t_is_expression) [] (dCons (dVar 5) (dNil)))) (b_law_9 t__law_draw t__law_expression t__law_walk t__law_with t__law_odd t__law_wrap t__law_told t_is_expression)
def b_law_7 (t__law_draw t__law_expression t__law_walk t__law_with t__law_odd t__law_wrap t__law_told t_is_expression : DSp) : DS := sSeq (sSet 8 (dCall (lo0 t__law_told) [] (dCons (dVar 5) (dNil)))) (b_law_8 t__law_draw t__law_expression t__law_walk t__law_with t__law_odd t__law_wrap t__law_told t_is_expression)
def b_law_6 (t__law_draw t__law_expression t__law_walk t__law_with t__law_odd t__law_wrap t__law_told t_is_expression : DSp) : DS := sSeq (sSet 7 (dUn oRepr (dVar 5))) (b_law_7 t__law_draw t__law_expression t__law_walk t__law_with t__law_odd t__law_wrap t__law_told t_is_expression)
def b_law_5 (t__law_draw t__law_expression t__law_walk t__law_with t__law_odd t__law_wrap t__law_told t_is_expression : DSp) : DS := sSeq (sFor (dRng1 (dCall (lo0 t__law_draw) [] (dCons (dVar 1) (dCons (dOp oSub (dC (.int 10)) (dVar 4)) (dNil))))) (dgN 6) (b_law_f0 t__law_draw t__law_expression t__law_walk t__law_with t__law_odd t__law_wrap t__law_told t_is_expression)) (b_law_6 t__law_draw t__law_expression t__law_walk t__law_with t__law_odd t__law_wrap t__law_told t_is_expression)
def b_law_4 (t__law_draw t__law_expression t__law_walk t__law_with t__law_odd t__law_wrap t__law_told t_is_expression : DSp) : DS := sSeq (sIf (dB (dOp oGt (dVar 2) (dC (.int 0)))) (sSeq (sSet 11 (dCall (lo0 t__law_walk) [] (dCons (dVar 5) (dCons (dTup (dNil)) (dNil))))) (b_law_q0 t__law_draw t__law_expression t__law_walk t__law_with t__law_odd t__law_wrap t__law_told t_is_expression)) (sNext)) (b_law_5 t__law_draw t__law_expression t__law_walk t__law_with t__law_odd t__law_wrap t__law_told t_is_expression)
def b_law_3 (t__law_draw t__law_expression t__law_walk t__law_with t__law_odd t__law_wrap t__law_told t_is_expression : DSp) : DS := sSeq (sSet 5 (dCallR (lo0 t__law_expression) (dVar 1) (dOp oAdd (dC (.int 1)) (dCall (lo0 t__law_draw) [] (dCons (dVar 1) (dCons (dC (.int 14)) (dNil))))) (dVar 4) (dC (.int 2)))) (b_law_4 t__law_draw t__law_expression t__law_walk t__law_with t__law_odd t__law_wrap t__law_told t_is_expression)
def b_law_2 (t__law_draw t__law_expression t__law_walk t__law_with t__law_odd t__law_wrap t__law_told t_is_expression : DSp) : DS := sSeq (sSet 4 (dOp oAdd (dC (.int 1)) (dCall (lo0 t__law_draw) [] (dCons (dVar 1) (dCons (dC (.int 8)) (dNil)))))) (b_law_3 t__law_draw t__law_expression t__law_walk t__law_with t__law_odd t__law_wrap t__law_told t_is_expression)
def b_law_1 (t__law_draw t__law_expression t__law_walk t__law_with t__law_odd t__law_wrap t__law_told t_is_expression : DSp) : DS := sSeq (sSet 3 (dCall (lo0 t__law_draw) [] (dCons (dVar 1) (dCons (dC (.int 60)) (dNil))))) (b_law_2 t__law_draw t__law_expression t__law_walk t__law_with t__law_odd t__law_wrap t__law_told t_is_expression)
def b_law (t__law_draw t__law_expression t__law_walk t__law_with t__law_odd t__law_wrap t__law_told t_is_expression : DSp) : DS := sSeq (sSet 2 (dCall (lo0 t__law_draw) [] (dCons (dVar 1) (dCons (dC (.int 4)) (dNil))))) (b_law_1 t__law_draw t__law_expression t__law_walk t__law_with t__law_odd t__law_wrap t__law_told t_is_expression)
end K

set_option Elab.async false
set_option linter.all false
set_option maxRecDepth 100000
set_option maxHeartbeats 4000000
/-! TR: try with several clauses, with or without a name; raise of an own class without arguments. -/
namespace DL
open PySem PySem.Spec PyProof.Rows L2
/-- one clause: its class, the slot of its name, its suite -/
structure Cl where
  c : Value
  sl : Option Nat
  ts : Addr → Value → Option Addr → TS
def unset : Option Nat → L2.St → L2.St
  | none, σ => σ
  | some i, σ => σ.set i none
def inset : Option Nat → Addr → L2.St → L2.St
  | none, _, σ => σ
  | some i, a, σ => σ.set i (some (.ref a))
def clEnds (o : Option Nat) (D : Ends) : Ends := { nx := fun σ H => D.nx (unset o σ) H, rt := D.rt, bk := fun σ H => D.bk (unset o σ) H, ct := fun σ H => D.ct (unset o σ) H }
def wCl (K : PySem.W.Frag) (Wout : WX) (D : Ends) : List Cl → WX
  | [] => Wout
  | q :: r => fun cls d σ H => ∃ b, PySem.W.exmOne K cls q.c = some b ∧ (b = true → ∀ a, H a = none → q.ts a cls d (clEnds q.sl D) (inset q.sl a σ) H) ∧ (b = false → wCl K Wout D r cls d σ H)
/-- the suite's own judgement -/
abbrev SuOk (X : Cx) (su : List Stmt) (ts : Addr → Value → Option Addr → TS) : Prop :=
  ∀ (a : Addr) (oe : Obj) (cls : Value) (d : Option Addr) (pn : List (Addr × Obj)), Zc cls d oe → (∃ vs, oe.data = .fields vs) → PSs (X.suite a ((a, oe) :: pn)) su (ts a cls d)
inductive ClOk (X : Cx) : List ExceptHandler → List Cl → Prop
  | nil : ClOk X [] []
  | bare {x : Str} {c : Value} {ts : Addr → Value → Option Addr → TS} {b₀ : Stmt} {su : List Stmt} {np p : Pos} {hs : List ExceptHandler} {l : List Cl} (hc : Names X x c) (hsu : SuOk X (b₀ :: su) ts) (r : ClOk X hs l) :
      ClOk X (.ExceptHandler (some (.Name x np)) none (b₀ :: su) p :: hs) (⟨c, none, ts⟩ :: l)
  | as {x n : Str} {c : Value} {i : Nat} {ts : Addr → Value → Option Addr → TS} {b₀ : Stmt} {su : List Stmt} {np p : Pos} {hs : List ExceptHandler} {l : List Cl} (hi : X.N[i]? = some n) (hln : X.env.kindOf n = some .local)
      (hc : Names X x c) (hsu : SuOk X (b₀ :: su) ts) (r : ClOk X hs l) : ClOk X (.ExceptHandler (some (.Name x np)) (some n) (b₀ :: su) p :: hs) (⟨c, some i, ts⟩ :: l)
section
variable {X : Cx} {body : List Stmt} {h₀ : ExceptHandler} {hds : List ExceptHandler} {l : List Cl} {pos : Pos} {tb : WX → TS} {Wout : WX}
theorem ps_try (hs : X.stack = X.env :: X.outer) (hf : X.env.frame = some X.env.locals) (hN : X.N.Nodup) (tk : Takes X Wout)
    (hb : ∀ (W : WX) (pn : List (Addr × Obj)) (xe : Value → Shared → Prop), Takes (X.tr pn xe) W → PassesOwn (model X.prog X.w) X.A X.env xe →
      PSs (X.tr pn xe) body (tb W)) (hh : ClOk X (h₀ :: hds) l) : PS X (.Try body (h₀ :: hds) [] [] pos) (fun D σ H => tb (wCl X.K Wout D l) D σ H) := by
  refine ⟨fun pins s σ H D I h => ?_⟩
  have ok := I.ok
  have hfr : X.A.frames = some (X.env :: X.outer) := by
    rw [ok.frames, hs]
  refine wpAny_Try_except (wpAny_mono ((hb (wCl X.K Wout D l) (X.pn ++ pins) (fun e s1 => wpAny (model X.prog X.w) X.A (noteFrame e X.env)
    (fun _ s2 => wpAny (model X.prog X.w) X.A (setFlight e none) (fun _ s3 => wpAny (model X.prog X.w) X.A (handleBy e X.env (h₀ :: hds)) (SP X pins D) X.xe s3) X.xe s2) X.xe s1)
    (fun u s' xx => ?_) PassesOwn.looking).run [] s σ H D (I.toTry _) h) (fun f s1 hsp => ?_) (fun e s1 he => he))
  · obtain ⟨a, B, sI, pins', σ', H', cls, d, rfl, J', nb, up, sky, na, os, ag, w⟩ := xx
    have J : Inv X pins σ' H' sI := J'.ofTry ok
    have sky' : Sky B (X.env :: X.outer) a (Zc cls d) X.env.locals s'.heap := by
      rw [← hs]
      exact sky
    show wpAny (model X.prog X.w) X.A (noteFrame (.ref a) X.env) _ _ _
    refine Sky.land Zc.steady hfr hf sky' fun h3 fl3 up3 => ?_
    have J3 : Inv X pins σ' H' { s' with heap := h3 } := J.landed nb fl3.1 (up.trans up3) os ag
    obtain ⟨oe3, vs3, he3, hz3, hd3⟩ := fl3.there
    have nfr : a ∉ frs (X.env :: X.outer) := fun hm => by
      obtain ⟨_, o', e', hnf⟩ := fl3.2.2.1.mem hm
      rw [he3] at e'
      cases e'
      exact hnf _ hd3
    have nL : a ≠ X.env.locals := fun z =>
      nfr (List.mem_filterMap.mpr ⟨X.env, List.mem_cons_self, by rw [hf, z]⟩)
    have nF : a ∉ X.fs := fun hm => by
      obtain ⟨e, he, q⟩ := List.mem_filterMap.mp hm
      exact nfr (List.mem_filterMap.mpr
        ⟨e, List.mem_cons_of_mem _ he, q⟩)
    have S3 := J3.suite he3 hd3 na nL nF
    have LT : PySem.W.Looks (model X.prog X.w) h3 (typeOf (.ref a)) cls := fun A Q E s k q =>
      wpAny_typeOf_ref (k _ _ he3) (by rw [hz3.1]; exact q)
    have test : ∀ {x : Str} {np : Pos} {c : Value} {Q : Value → Shared → Prop} {E : Value → Shared → Prop}, Names X x c → Q c { s' with heap := h3 } →
        wpAny (model X.prog X.w) (X.A.mark (some (.ref a))) (eval (.Name x np) X.env) Q E { s' with heap := h3 } := fun {x np c Q E} hc q => by
      obtain ⟨hg, hdbg, hm | ⟨hm, hv, hnn⟩⟩ := hc
      · exact ld_glob (X := X.suite a ((a, oe3) :: (X.pn ++ pins)))
          S3 hg hm q hdbg
      · exact ld_blt (X := X.suite a ((a, oe3) :: (X.pn ++ pins)))
          S3 hg hm hv q hnn hdbg
    have go : ∀ {hs' : List ExceptHandler} {l' : List Cl}, ClOk X hs' l' → wCl X.K Wout D l' cls d σ' H' → wpAny (model X.prog X.w) X.A (handleBy (.ref a) X.env hs') (SP X pins D) X.xe { s' with heap := h3 } := by
      intro hs' l' hk
      induction hk with
      | nil =>
        intro w
        obtain ⟨k1, k2, k3, oe, vs, T, oT, ts', he, hz, hd, h1, hr⟩ := id fl3
        refine wpAny_handleBy_nil ?_
        unfold PySem.passOn
        refine wpAny_bind (wpAny_field he hd h1 ?_)
        rw [if_neg (show ¬ ((Value.ref T == Value.none) = true) from by
          simp)]
        have fin : wpAny (model X.prog X.w) X.A (setFlight (.ref a) X.env.frame) (fun _ s4 => wpAny (model X.prog X.w) X.A (throw (.ref a) : Sem Flow) (SP X pins D)
            X.xe s4) X.xe { s' with heap := h3 } := by
          rw [hf]
          exact HandSPX.setFlight_upZ fl3 fun h4 hh4 up4 => wpAny_throw (tk _ _ ⟨a, B, sI, pins, σ', H', cls, d, rfl, J, nb, (up.trans up3).trans up4, .inr (.inr (by rw [hs]; exact hh4)), na, os, ag, w⟩)
        first
          | exact wpAny_bind (wpAny_pure (wpAny_bind fin))
          | exact wpAny_bind fin
      | @bare x c ts b₀ su np p hs2 l2 hc hsu r ih =>
        intro w
        obtain ⟨b, hb1, hyes, hno⟩ := w
        refine wpAny_handleBy_cons (codeAny_handlers_test (test hc ((PySem.W.exm_one (M := model X.prog X.w) J3.kIn LT hb1).here ?_))) (by intro q; cases q)
        cases b with
        | true =>
          refine codeAny_handlers_suite (HandSPX.lands_againZ fl3 fun h4 fl4 up4 => ?_)
          have J4 : Inv X pins σ' H' { s' with heap := h4 } := J.landed nb fl4.1 ((up.trans up3).trans up4) os ag
          obtain ⟨oe4, vs4, he4, hz4, hd4⟩ := fl4.there
          refine wpAny_mono ((hsu a oe4 cls d (X.pn ++ pins) hz4 ⟨_, hd4⟩).run [] _ _ H' _ (J4.suite he4 hd4 na nL nF) (hyes rfl a na)) (fun f s6 hsp => ?_) (fun _ _ z => False.elim z)
          cases f with
          | ret u =>
            obtain ⟨v6, σ6, H6, S6, r6, q6⟩ := hsp
            exact ⟨_, _, _, S6.unsuite ok, r6, q6⟩
          | _ =>
            obtain ⟨σ6, H6, S6, q6⟩ := hsp
            exact ⟨_, _, S6.unsuite ok, q6⟩
        | false =>
          show wpAny _ X.A (handleBy (.ref a) X.env hs2) _ _ _
          exact ih (hno rfl)
      | @as x n c i ts b₀ su np p hs2 l2 hi hln hc hsu r ih =>
        intro w
        obtain ⟨b, hb1, hyes, hno⟩ := w
        refine wpAny_handleBy_cons (codeAny_handlers_test (test hc ((PySem.W.exm_one (M := model X.prog X.w) J3.kIn LT hb1).here ?_))) (by intro q; cases q)
        cases b with
        | true =>
          refine codeAny_handlers_suite_as (HandSPX.lands_againZ fl3 fun h4 fl4 up4 => ?_)
          have J4 : Inv X pins σ' H' { s' with heap := h4 } := J.landed nb fl4.1 ((up.trans up3).trans up4) os ag
          obtain ⟨oe4, vs4, he4, hz4, hd4⟩ := fl4.there
          refine store_ok (X := X.suite a ((a, oe4) :: (X.pn ++ pins))) (v := .ref a) (J4.suite he4 hd4 na nL nF) hN hi (.inl hln) rfl (fun s5 S5 => ?_) (.inr hln)
          refine wpAny_mono ((hsu a oe4 cls d (X.pn ++ pins) hz4 ⟨_, hd4⟩).run [] s5 _ H' _ S5 (hyes rfl a na)) (fun f s6 hsp => ?_) (fun _ _ z => False.elim z)
          have away : ∀ {σ6 : L2.St} {H6 : Hp} {Q : Shared → Prop}, Inv (X.suite a ((a, oe4) :: (X.pn ++ pins))) [] σ6 H6 s6 → (∀ s7, Inv X pins (σ6.set i none) H6 s7 → Q s7) →
              wpAny (model X.prog X.w) X.A (do bindName X.env n .none; unbindBehindTheSuite X.env n p) (fun _ s7 => Q s7) X.xe s6 := fun {σ6 H6 Q} S6 hq => gone_ok (S6.unsuite ok) hN hi hln hq
          cases f with
          | ret u =>
            obtain ⟨v6, σ6, H6, S6, r6, q6⟩ := hsp
            exact away S6 fun s7 J7 => ⟨_, _, _, J7, r6, q6⟩
          | _ =>
            obtain ⟨σ6, H6, S6, q6⟩ := hsp
            exact away S6 fun s7 J7 => ⟨_, _, J7, q6⟩
        | false =>
          show wpAny _ X.A (handleBy (.ref a) X.env hs2) _ _ _
          exact ih (hno rfl)
    exact go hh w
  · cases f with
    | next =>
      obtain ⟨σ', H', J', q⟩ := hsp
      exact wpAny_execs_nil ⟨σ', H', J'.ofTry ok, q⟩
    | ret u =>
      obtain ⟨v, σ', H', J', r, q⟩ := hsp
      exact ⟨v, σ', H', J'.ofTry ok, r, q⟩
    | _ =>
      obtain ⟨σ', H', J', q⟩ := hsp
      exact ⟨σ', H', J'.ofTry ok, q⟩
end
end DL

set_option Elab.async false
set_option linter.all false
set_option maxRecDepth 100000
set_option maxHeartbeats 4000000
/-! TS: exceptions and f-strings over data. -/
namespace DL
open PySem PySem.Spec PyProof.Rows L2
/-! ### slots emptied -/
def wipe : Ro → Nat → Ro
  | [], _ => []
  | _ :: r, 0 => none :: r
  | y :: r, n + 1 => y :: wipe r n
theorem wipe_eq : ∀ (ρ : Ro) (i : Nat), wipe ρ i = ρ.set i none
  | [], _ => rfl
  | _ :: _, 0 => rfl
  | y :: r, n + 1 => by
    show y :: wipe r n = y :: r.set n none
    rw [wipe_eq r n]
section
variable {K : PySem.W.Frag} {z : Zn} {H0 G0 G H : Hp} {ρ : Ro} {σ : L2.St}
theorem SO.blur (so : SO K z H0 G0 ρ σ G H) (i : Nat) (x : Option V) : SO K z H0 G0 (ρ.set i none) (σ.set i x) G H := by
  have back : ∀ {j : Nat} {y : DV}, (ρ.set i none)[j]? = some (some y) → i ≠ j ∧ ρ[j]? = some (some y) := fun {j y} e => by
    by_cases hj : i = j
    · subst hj
      rw [List.getElem?_set] at e
      simp only [if_true] at e
      split at e <;> cases e
    · rw [List.getElem?_set_ne hj] at e
      exact ⟨hj, e⟩
  refine ⟨so.ok, by simpa using so.len, fun j y e => ?_, fun j k xs ys p e1 e2 e3 e4 => ?_⟩
  · obtain ⟨hj, e⟩ := back e
    obtain ⟨w, e1, r1⟩ := so.slot j y e
    exact ⟨w, by rw [List.getElem?_set_ne hj]; exact e1, r1⟩
  · obtain ⟨h1, e1⟩ := back e1
    obtain ⟨h2, e2⟩ := back e2
    rw [List.getElem?_set_ne h1] at e3
    rw [List.getElem?_set_ne h2] at e4
    exact so.apart j k xs ys p e1 e2 e3 e4
end
/-! ### try -/
def insetD : Option Nat → Addr → Ro → Ro
  | none, _, ρ => ρ
  | some i, a, ρ => put ρ i (.ref a)
def unsetD : Option Nat → Ro → Ro
  | none, ρ => ρ
  | some i, ρ => wipe ρ i
def clEndsD (o : Option Nat) (E : DEnds) : DEnds := { nx := fun ρ => E.nx (unsetD o ρ), rt := E.rt, bk := fun ρ => E.bk (unsetD o ρ), ct := fun ρ => E.ct (unsetD o ρ), ex := fun _ _ => False }
structure ClD where
  c : Value
  sl : Option Nat
  su : Addr → Value → DS
def dHand (K : PySem.W.Frag) (E : DEnds) : List ClD → DW
  | [] => E.ex
  | q :: r => fun x ρ => ∃ b, PySem.W.exmOne K (.ref x.C) q.c = some b ∧ (b = true → x.fs = [] ∧ ∀ a, q.su a (.ref x.C) (clEndsD q.sl E) (insetD q.sl a ρ)) ∧ (b = false → dHand K E r x ρ)
def sTry (K : PySem.W.Frag) (tb : DS) (l : List ClD) : DS := fun E ρ => tb { E with ex := dHand K E l } ρ
section
variable {X : Cx} {W Wn Wout : WX} {body : List Stmt} {h₀ : ExceptHandler} {hds : List ExceptHandler} {l : List ClD} {pos : Pos} {tb : DS}
def toCl (K : PySem.W.Frag) (Wn : WX) (q : ClD) : Cl := ⟨q.c, q.sl, fun a cls d => match d with
  | none => lS K Wn (q.su a cls)
  | some _ => fun _ _ _ => False⟩
abbrev SuD (X : Cx) (Wn : WX) (su : List Stmt) (t : Addr → Value → DS) : Prop :=
  ∀ (a : Addr) (oe : Obj) (cls : Value) (pn : List (Addr × Obj)), Zc cls none oe → (∃ vs, oe.data = .fields vs) → PSs (X.suite a ((a, oe) :: pn)) su (lS X.K Wn (t a cls))
theorem su_of {su : List Stmt} {q : ClD} (h : SuD X Wn su q.su) : SuOk X su (toCl X.K Wn q).ts := fun a oe cls d pn z f => by
  cases d with
  | none => exact h a oe cls pn z f
  | some _ => exact ⟨fun _ _ _ _ _ _ z => False.elim z⟩
inductive ClsD (X : Cx) (Wn : WX) : List ExceptHandler → List ClD → Prop
  | nil : ClsD X Wn [] []
  | bare {x : Str} {c : Value} {su : Addr → Value → DS} {b₀ : Stmt} {bs : List Stmt} {np p : Pos} {hs : List ExceptHandler} {l : List ClD} (hc : Names X x c) (hsu : SuD X Wn (b₀ :: bs) su) (r : ClsD X Wn hs l) :
      ClsD X Wn (.ExceptHandler (some (.Name x np)) none (b₀ :: bs) p :: hs) (⟨c, none, su⟩ :: l)
  | as {x n : Str} {c : Value} {i : Nat} {su : Addr → Value → DS} {b₀ : Stmt} {bs : List Stmt} {np p : Pos} {hs : List ExceptHandler} {l : List ClD} (hi : X.N[i]? = some n) (hln : X.env.kindOf n = some .local)
      (hc : Names X x c) (hsu : SuD X Wn (b₀ :: bs) su) (r : ClsD X Wn hs l) : ClsD X Wn (.ExceptHandler (some (.Name x np)) (some n) (b₀ :: bs) p :: hs) (⟨c, some i, su⟩ :: l)
theorem ClsD.to : ∀ {hs : List ExceptHandler} {l : List ClD}, ClsD X Wn hs l → ClOk X hs (l.map (toCl X.K Wn))
  | _, _, .nil => .nil
  | _, _, .bare hc hsu r => .bare hc (su_of hsu) r.to
  | _, _, .as hi hln hc hsu r => .as hi hln hc (su_of hsu) r.to
theorem so_inset {K : PySem.W.Frag} {z : Zn} {H0 G0 G H : Hp} {ρ : Ro} {σ : L2.St} (so : SO K z H0 G0 ρ σ G H) (a : Addr) : ∀ o : Option Nat, SO K z H0 G0 (insetD o a ρ) (inset o a σ) G H
  | none => so
  | some i => by
    show SO K z H0 G0 (put ρ i (.ref a)) (σ.set i (some (.ref a))) G H
    rw [put_eq]
    exact so.set (x := .ref a) rfl fun _ z => nomatch z
theorem so_unset {K : PySem.W.Frag} {z : Zn} {H0 G0 G H : Hp} {ρ : Ro} {σ : L2.St} (so : SO K z H0 G0 ρ σ G H) : ∀ o : Option Nat, SO K z H0 G0 (unsetD o ρ) (unset o σ) G H
  | none => so
  | some i => by
    show SO K z H0 G0 (wipe ρ i) (σ.set i none) G H
    rw [wipe_eq]
    exact so.blur i none
theorem ds_try (hs : X.stack = X.env :: X.outer) (hf : X.env.frame = some X.env.locals) (hN : X.N.Nodup) (tk : Takes X Wout)
    (hb : ∀ (W : WX) (pn : List (Addr × Obj)) (xe : Value → Shared → Prop), Takes (X.tr pn xe) W → PSs (X.tr pn xe) body (lS X.K W tb))
    (hh : ClsD X Wn (h₀ :: hds) l) : PS X (.Try body (h₀ :: hds) [] [] pos) (lS X.K Wout (sTry X.K tb l)) :=
  (ps_try (tb := fun W => lS X.K W tb) hs hf hN tk (fun W pn xe t _ => hb W pn xe t) hh.to).imp fun D σ H h => by
    obtain ⟨z, H0, G0, G, ρ, ED, so, h, q1, q2, q3, q4, w⟩ := h
    refine ⟨z, H0, G0, G, ρ, { ED with ex := dHand X.K ED l }, so, h, q1, q2, q3, q4, fun x ρ' hx c d σ' G' H' e so' xr => ?_⟩
    obtain rfl : c = .ref x.C := xr.1
    clear hh h hb
    induction l with
    | nil => exact w x ρ' hx _ d σ' G' H' e so' xr
    | cons q r ih =>
      obtain ⟨b, hb, yes, no⟩ := hx
      refine ⟨b, hb, fun hb1 a ha => ?_, fun hb0 => ih (no hb0)⟩
      obtain ⟨hfs, yes⟩ := yes hb1
      have hd : d = none := by
        rcases xr.2 with ⟨_, z⟩ | ⟨n, _⟩
        · exact z
        · exact absurd hfs n
      subst hd
      show lS X.K Wn (q.su a (.ref x.C)) (clEnds q.sl D) (inset q.sl a σ') H'
      exact ⟨z, H0, G0, G', _, clEndsD q.sl ED, so_inset so' a q.sl, yes a, fun ρ2 h2 σ2 G2 H2 e2 so2 => q1 _ h2 _ _ _ (e.trans e2) (so_unset so2 q.sl), fun y hy v ρ2 σ2 G2 H2 e2 so2 r => q2 y hy v ρ2 σ2 G2 H2 (e.trans e2) so2 r,
        fun ρ2 h2 σ2 G2 H2 e2 so2 => q3 _ h2 _ _ _ (e.trans e2) (so_unset so2 q.sl), fun ρ2 h2 σ2 G2 H2 e2 so2 => q4 _ h2 _ _ _ (e.trans e2) (so_unset so2 q.sl), fun _ _ z => False.elim z⟩
end
/-! ### raise of an own class without arguments -/
/-- what an own class over ValueError must say -/
structure OwnX (mg : Str → Option Value) (K : PySem.W.Frag) (x : Str) (C : Addr) : Prop where
  q : PySem.W.excIn K C He.veBase "ValueError.__new__" = true
  kC : PySem.W.keepIn K (.ref C) = true
  sub : PySem.W.subIn K (.ref C) (.type "BaseException") = some true
  ty : PySem.W.typeIn K (.ref C) = some (.type "type")
  gC : mg x = some (.ref C)
section
variable {X : Cx} {W : WX} {C : Addr} {x : Str} {p pos pos' : Pos}
theorem pmk_none (o : OwnX X.mg X.K x C) (hg : Gl X x) (hdb : (x == ("__debug__" : Str)) = false := by decide) : PMk X (.Call (.Name x p) [] [] pos) (fun _ H Q => Q (.ref C) none H) := by
  intro pins s σ H Q I h
  refine wpAny_Call_Name_kw (ld_glob I hg o.gC ?_ hdb)
  refine PySem.W.callWith_K0 I.kIn o.kC ?_
  obtain ⟨bm, N, nm, qn, bs, hdct, sn, sub, ab, col, dd, k0, k1, k2, k3, k5, mN, hC, hN, hni, T⟩ := exc_obj I.kIn o.q
  refine wpAny_call_exc_subT PySem.F.excBase_ValueError T hC hN hni (fun h' e hm => ?_) (Nat.zero_le _)
  exact mk_of I hm (raises_own o.sub o.ty) h (I.hok.gone hm.new)
def sRaise (C : Addr) : DS := fun E ρ => E.ex ⟨C, []⟩ ρ
theorem ds_raise (hc : X.calm = true) (tk : Takes X W) (o : OwnX X.mg X.K x C) (hg : Gl X x) (hdb : (x == ("__debug__" : Str)) = false := by decide) : PS X (.Raise (some (.Call (.Name x p) [] [] pos)) none pos') (lS X.K W (sRaise C)) :=
  (ps_raise hc tk (pmk_none o hg hdb)).imp fun E σ H h => by
    obtain ⟨z, H0, G0, G, ρ, ED, so, h, _, _, _, _, w⟩ := h
    exact w _ _ h (.ref C) none σ G H (Ex.refl G) so ⟨rfl, .inl ⟨rfl, rfl⟩⟩
/-- a statement that is never reached -/
def sNever : DS := fun _ _ => False
theorem ds_never {st : Stmt} : PS X st (lS X.K W sNever) := ⟨fun _ _ _ _ _ _ h => by
  obtain ⟨_, _, _, _, _, _, _, h, _⟩ := h
  exact False.elim h⟩
end
/-! ### defs that raise -/
abbrev WOf (E : XK) : WX := fun c d _ H => E c d H
section
variable {P : Program} {w : World} {K : PySem.W.Frag} {mg : Str → Option Value} {base : Heap} {x qual : Str} {params : Arguments} {body : List Stmt} {scope : Scope} {dvs : List V} {kws : List (Str × V)} {f : Addr} {fd : FuncData} {N ps : List Str} {k : Nat} {t : DSp} {bt : DS}
theorem fn_x (F : FunD K x qual params body scope dvs kws f fd) (S : FnScope N ps scope) (len : ∀ as Wd Qd, t as Wd Qd → as.length = ps.length)
    (hbody : ∀ (cdv : Value) (A : Around) (outer : List Env) (s : Shared) (H : Hp) (E : XK), Room k (A.deeper (envOfC qual scope s.heap.objs.size f cdv)) → PSs (cxOf (L2.CX P w) P w K mg base N qual scope f cdv A outer s H E) body (lS K (WOf E) bt))
    (sem : Body N.length bt t) : FnOk P w K mg base (L2.CX P w) (k + 1) f fd ps (lSp K t) := by
  have hpl : ps.length ≤ N.length := by have := congrArg List.length S.pre; rw [List.length_take] at this; omega
  refine F.ok S (fun vs H Q E h => ?_) fun cdv A outer s H vs Q E hr h => ?_
  · obtain ⟨z, G, ds, Wd, Qd, ok, r, h, _⟩ := h
    rw [r.length]
    exact len _ _ _ h
  · obtain ⟨z, G, ds, Wd, Qd, ok, r, h, q, wx⟩ := h
    refine ⟨_, hbody cdv A outer s H E hr, z, H, G, G, startR N.length ds, _, so_start ok r (by rw [len _ _ _ h]; exact hpl), sem ds Wd Qd h, fun ρ' hn σ' G' H' e so' => ?_, fun x hx v ρ' σ' G' H' e so' rv => ?_, fun _ z => z.elim, fun _ z => z.elim, fun y ρ' hy c d σ' G' H' e so' xr => ?_⟩
    · exact q _ hn trivial .non G' H' so'.ok .non
    · exact q x hx.2 hx.1 v G' H' so'.ok rv
    · exact wx y hy c d G' H' so'.ok xr
end
/-- a def that may raise, called by its name -/
structure CalX (P : Program) (w : World) (K : PySem.W.Frag) (mg : Str → Option Value) (base : Heap) (k : Nat) (x : Str) (t : DSp) : Prop where
  ex : ∃ (f : Addr) (fd : FuncData) (ps : List Str), FnOk P w K mg base (L2.CX P w) k f fd ps (lSp K t) ∧ mg x = some (.ref f) ∧ PySem.W.keepIn K (.ref f) = true ∧ Binds K fd ps []
structure CalKX (P : Program) (w : World) (K : PySem.W.Frag) (mg : Str → Option Value) (base : Heap) (k : Nat) (x : Str) (ks : List Str) (t : DSp) : Prop where
  ex : ∃ (f : Addr) (fd : FuncData) (ps : List Str), FnOk P w K mg base (L2.CX P w) k f fd ps (lSp K t) ∧ mg x = some (.ref f) ∧ PySem.W.keepIn K (.ref f) = true ∧ KBinds K fd ps ks (fun us ws => us ++ ws) (fun vs zs => vs ++ zs)
section
variable {X : Cx} {W : WX} {k j : Nat} {t : DSp} {x kw : Str} {p pos kpos : Pos} {e : Expr} {es : List Expr} {ta : DA} {te : DE}
theorem de_cx (c : CalX X.prog X.w X.K X.mg X.base k x t) (tk : Takes X W) (hr : Room j X.A) (hk : k ≤ j) (hg : Gl X x) (ha : PA X (e :: es) (lA X.K W ta)) (hdb : (x == ("__debug__" : Str)) = false := by decide)
    (he : starEach (e :: es) X.env = (false, eval e X.env) :: starEach es X.env := by rfl) (hpl : (backTo pos (starEach es X.env)).any (·.1) = false := by rfl) :
    PE X (.Call (.Name x p) (e :: es) [] pos) (lE X.K W (dCall t [] ta)) := by
  obtain ⟨f, fd, ps, F, hm, kp, hb⟩ := c.ex
  exact (pe_callSD F (hr.mono hk) hg hm kp hb .nil (fun σ => passAt tk σ) ha hdb he hpl).imp fun σ H Q h => lE_call (E := WE W σ) (dvs := []) (fun _ => .nil) (fun _ _ _ h => h) h
theorem run_kS {CX : CXT} {f : Addr} {fd : FuncData} {ps ks : List Str} {sp : Sp} {E : XK} {g : List Value → List Value → List Value} {gV : List V → List V → List V} {pins : List (Addr × Obj)} {σ : L2.St} {H : Hp} {s : Shared} {Q : VK} {us ws : List Value} {vs zs : List V}
    (F : FnOk X.prog X.w X.K X.mg X.base CX k f fd ps sp) (hr : Room k X.A) (hb : KBinds X.K fd ps ks g gV) (hx : PassesAt CX X σ E) (I : Inv X pins σ H s) (r : Vals vs us) (rz : Vals zs ws) (h : sp (gV vs zs) H Q E) :
    wpAny (model X.prog X.w) X.A (call (.ref f) us (ks.zip ws)) (EP X pins σ Q) X.xe s := by
  have r2 := hb.rel r rz
  have hl : (g us ws).length = ps.length := r2.length.symm.trans (F.len _ _ _ _ h)
  refine wpAny_call (codeAny_mono (F.run X.A X.stack s H ⟨us, ks.zip ws⟩ (g us ws) (gV vs zs) Q E hr I.env0 (hb.to s us ws I.kIn hl) r2 h) fun r s' hq => ?_)
  match r, hq with
  | .error e, hq => exact hx pins H s e s' I hq
  | .ok (.ret u), hq => exact I.after hq
  | .ok .next, hq => exact False.elim hq
  | .ok .brk, hq => exact False.elim hq
  | .ok .cont, hq => exact False.elim hq
theorem de_ckx (c : CalKX X.prog X.w X.K X.mg X.base k x [kw] t) (tk : Takes X W) (hr : Room j X.A) (hk : k ≤ j) (hg : Gl X x) (he : PE X e (lE X.K W te)) (hall : (backToKw pos (keywordEach [⟨some kw, e, kpos⟩] X.env)).all (·.1.isSome) = true := by rfl)
    (hks : (backToKw pos (keywordEach [⟨some kw, e, kpos⟩] X.env)).filterMap (·.1) = [kw] := by rfl) (hdb : (x == ("__debug__" : Str)) = false := by decide)
    (hpl : ((backTo pos (starEach [] X.env)).any (·.1) || (backToKw pos (keywordEach [⟨some kw, e, kpos⟩] X.env)).any (·.1.isNone)) = false := by rfl) :
    PE X (.Call (.Name x p) [] [⟨some kw, e, kpos⟩] pos) (lE X.K W (dCall t [] (dCons te dNil))) := by
  obtain ⟨f, fd, ps, F, hm, kp, hb⟩ := c.ex
  refine ⟨fun pins s σ H Q I h => ?_⟩
  obtain ⟨z, H0, G0, G, ρ, Wd, Qd, so, h, q, w⟩ := h
  refine wpAny_Call_Name_kw (ld_glob I hg hm ?_ hdb)
  refine PySem.W.callWith_KW0 (h₀ := X.base) I.ok.mod.kin kp hall (thn ((pk_cons he pk_nil).run pos pins s σ H (fun zs H1 => lSp X.K t zs H1 Q (WE W σ)) I ?_) fun ws s2 ⟨zs, H2, I2, rz, q2⟩ => ⟨I2.kIn, ?_⟩) hpl
  · show lE X.K W te σ H fun v H1 => lSp X.K t [v] H1 Q (WE W σ)
    refine ⟨z, H0, G0, G, ρ, Wd, _, so, h, fun y hy v G1 H1 e1 so1 r1 => ?_, w⟩
    have hx2 : nown y ∧ t [y] (fun x => Wd x ρ) fun y => nown y → Qd y := hy
    refine ⟨z, G1, [y], _, _, so1.ok.entry, .cons (r1.h0 hx2.1 fun _ _ q => q) hx2.1.ne .nil, hx2.2, fun y hy ny v G2 H2 ok2 r2 => ?_, fun y hy c d G2 H2 ok2 xr => ?_⟩
    · have g2 := ok2.go
      exact q y (hy ny) v G2 H2 (e1.trans g2) (so1.go g2 (so1.ok.back ok2)) (r2.h0 ny fun _ _ q => q)
    · have g2 := ok2.go
      exact w y ρ hy c d σ G2 H2 (e1.trans g2).ex (so1.go g2 (so1.ok.back ok2)) xr
  · rw [hks]
    exact run_kS F (hr.mono hk) hb (passAt tk σ) I2 .nil rz q2
end
/-! ### isinstance of a caught error -/
def oIsX (K : PySem.W.Frag) (a : Addr) (cls cv : Value) : DV → (DV → Prop) → Prop
  | .ref b, Q => b = a ∧ ∃ D, cls = .ref D ∧ ExcC K D ∧ ∃ r, PySem.W.kitOne K (.ref D) cv = some r ∧ Q (.d (.bool r))
  | _, _ => False
section
variable {X : Cx} {W : WX} {a : Addr} {oe : Obj} {cls : Value} {pn : List (Addr × Obj)} {te : DE} {e : Expr} {y : Str} {p p2 pos : Pos}
theorem de_isX {c : V} {cv : Value} {e2 : Expr} (hz : Zc cls none oe) (hf : ∃ vs, oe.data = .fields vs) (hc : ∀ u, RelV c u → u = cv) (hg : Gl (X.suite a ((a, oe) :: pn)) "isinstance") (hm : X.mg "isinstance" = none) (he : PE (X.suite a ((a, oe) :: pn)) e (lE X.K W te)) (h2 : PE (X.suite a ((a, oe) :: pn)) e2 (tC c))
    (s2 : starEach [e2] X.env = (false, eval e2 X.env) :: starEach [] X.env := by rfl) (s1 : starEach [e, e2] X.env = (false, eval e X.env) :: starEach [e2] X.env := by rfl) (hpl : (backTo pos (starEach [e2] X.env)).any (·.1) = false := by rfl) :
    PE (X.suite a ((a, oe) :: pn)) (.Call (.Name "isinstance" p) [e, e2] [] pos) (lE X.K W (dUn (oIsX X.K a cls cv) te)) := by
  refine ⟨fun pins s σ H Q I h => ?_⟩
  obtain ⟨z, H0, G0, G, ρ, Wd, Qd, so, h, q, w⟩ := h
  refine wpAny_Call_Name_kw (ld_blt I hg hm (by decide +kernel : bootBuiltins "isinstance" = some (.builtin "isinstance")) ?_ (by decide) (by decide))
  refine PyProof.Rows.callWith_builtin1 (thn ((pa_cons he (pa_cons h2 pa_nil s2) s1).run pos pins s σ H (fun vs H1 => ∃ D, cls = .ref D ∧ ExcC X.K D ∧ rIsE X.K D a vs H1 Q) I ?_) fun us s1 ⟨vs, H1, I1, r1, q1⟩ => ?_) s1 hpl
  · refine ⟨z, H0, G0, G, ρ, Wd, _, so, h, fun x hx v G1 H1 e1 so1 r1 => ?_, w⟩
    unfold oIsX at hx
    split at hx
    · obtain ⟨rfl, D, rfl, hE, r, hr, hq⟩ := hx
      obtain rfl : v = .ref _ := r1
      exact ⟨D, rfl, hE, c, cv, r, rfl, hc, hr, q _ hq (.bl r) G1 H1 e1 so1 (.bl r)⟩
    · exact hx.elim
  · obtain ⟨D, rfl, hE, q1⟩ := q1
    exact call_isE hE hz hf pins s1 σ H1 vs us Q I1 r1 q1
end
/-! ### f-strings -/
def oFmt : DV → (DV → Prop) → Prop
  | .d (.str y), Q => y.length ≤ sizeLine ∧ Q (.d (.str y))
  | .d (.int i), Q => i.natAbs.log2 < 1920 ∧ Q (.d (.str (toString i)))
  | _, _ => False
def dJs : List DE → Str → DE
  | [], acc => fun _ _ Q => Q (.d (.str acc))
  | t :: ts, acc => fun Wd ρ Q => t Wd ρ fun x => match x with
    | .d (.str y) => (acc ++ y).length ≤ sizeLine ∧ dJs ts (acc ++ y) Wd ρ Q
    | _ => False
section
variable {X : Cx} {W : WX} {e v1 v2 : Expr} {rest : List Expr} {pos : Pos} {te : DE} {ts : List DE}
theorem de_fmt (he : PE X e (lE X.K W te)) : PE X (.FormattedValue e (-1) none pos) (lE X.K W (dUn oFmt te)) := (pe_fmt he).imp fun σ H Q h => by
  obtain ⟨z, H0, G0, G, ρ, Wd, Qd, so, h, q, w⟩ := h
  refine ⟨z, H0, G0, G, ρ, Wd, _, so, h, fun x hx v G1 H1 e1 so1 r1 => ?_, w⟩
  unfold oFmt at hx
  split at hx
  · obtain rfl := rp_str r1
    exact .inl ⟨_, rfl, hx.1, q _ hx.2 _ G1 H1 e1 so1 (.str _)⟩
  · obtain rfl := rp_int r1
    exact .inr ⟨_, rfl, hx.1, q _ hx.2 _ G1 H1 e1 so1 (.str _)⟩
  · exact hx.elim
inductive PJd (X : Cx) (W : WX) : List Expr → List DE → Prop
  | nil : PJd X W [] []
  | cons {e : Expr} {t : DE} {es : List Expr} {ts : List DE} (h : PE X e (lE X.K W t)) (r : PJd X W es ts) : PJd X W (e :: es) (t :: ts)
theorem PJd.to : ∀ {es : List Expr} {ts : List DE}, PJd X W es ts → PJ X es (ts.map (lE X.K W))
  | _, _, .nil => .nil
  | _, _, .cons h r => .cons h r.to
theorem de_joined (h : PJd X W (v1 :: v2 :: rest) ts) : PE X (.JoinedStr (v1 :: v2 :: rest) pos) (lE X.K W (dJs ts Str.empty)) := (pe_joined h.to).imp fun σ H Q hh => by
  clear h
  have go : ∀ (ts : List DE) (acc : Str) (H : Hp), lE X.K W (dJs ts acc) σ H Q → tJs (ts.map (lE X.K W)) acc σ H fun out H1 => Q (.str out) H1 := by
    intro ts
    induction ts with
    | nil =>
      intro acc H h
      obtain ⟨z, H0, G0, G, ρ, Wd, Qd, so, h, q, w⟩ := h
      exact q _ h _ G H (Go.refl z G H) so (.str acc)
    | cons t ts ih =>
      intro acc H h
      obtain ⟨z, H0, G0, G, ρ, Wd, Qd, so, h, q, w⟩ := h
      refine ⟨z, H0, G0, G, ρ, Wd, _, so, h, fun x hx v G1 H1 e1 so1 r1 => ?_, w⟩
      split at hx
      · obtain rfl := rp_str r1
        exact ⟨_, rfl, hx.1, ih _ H1 ⟨z, H0, G0, G1, ρ, Wd, Qd, so1, hx.2, fun y hy u G2 H2 e2 so2 r2 => q y hy u G2 H2 (e1.trans e2) so2 r2, w.mono e1.ex⟩⟩
      · exact hx.elim
  exact go ts Str.empty H hh
end
end DL

set_option Elab.async false
set_option linter.all false
set_option maxRecDepth 100000
set_option maxHeartbeats 4000000
/-! DO: defs whose answer is a list that the caller owns. -/
namespace DL
open PySem PySem.Spec PyProof.Rows L2
theorem SO.takeOwn {K : PySem.W.Frag} {z : Zn} {H0 G0 G1 H1 G2 H2 : Hp} {ρ : Ro} {σ : L2.St} {i : Nat} {p : Addr} {vs : List V} {ds : List D} (so1 : SO K z H0 G0 ρ σ G1 H1) (so2 : SO K z H0 G0 ρ σ G2 H2) (h1 : H1 p = none) (h2 : H2 p = some (.lst vs)) (h3 : G2 p = none)
    (h4 : ¬ z.F p) (h5 : Rps K G2 vs ds) : SO K z H0 G0 (ρ.set i (some (.own ds))) (σ.set i (some (.ref p))) G2 H2 := by
  have h0 : H0 p = none := by
    cases e : H0 p with
    | none => rfl
    | some o =>
      rw [so1.ok.keep p o h4 e] at h1
      cases h1
  have no : ∀ {j : Nat} {ys : List D}, ρ[j]? = some (some (.own ys)) → σ[j]? = some (some (.ref p)) → False := fun {j ys} e1 e2 => by
    obtain ⟨v, e3, q, us, rfl, g1, _⟩ := so1.slot j _ e1
    rw [e2] at e3
    cases e3
    rw [h1] at g1
    cases g1
  refine ⟨so2.ok, by simpa using so2.len, fun j y e => ?_, fun j k xs ys q e1 e2 e3 e4 => ?_⟩
  · by_cases hj : i = j
    · subst hj
      have hl : i < ρ.length := by
        obtain ⟨h, _⟩ := List.getElem?_eq_some_iff.mp e
        simpa using h
      rw [List.getElem?_set_self hl] at e
      cases e
      exact ⟨.ref p, by rw [List.getElem?_set_self (so2.len ▸ hl)], p, vs, rfl, h2, h3, h4, h0, h5⟩
    · rw [List.getElem?_set_ne hj] at e
      obtain ⟨w, e1, r1⟩ := so2.slot j y e
      exact ⟨w, by rw [List.getElem?_set_ne hj]; exact e1, r1⟩
  · by_cases hj : i = j
    · by_cases hk : i = k
      · exact hj.symm.trans hk
      · subst hj
        rw [List.getElem?_set_ne hk] at e2 e4
        have hl : i < σ.length := by
          obtain ⟨h, _⟩ := List.getElem?_eq_some_iff.mp e3
          simpa using h
        rw [List.getElem?_set_self hl] at e3
        cases e3
        exact (no e2 e4).elim
    · by_cases hk : i = k
      · subst hk
        rw [List.getElem?_set_ne hj] at e1 e3
        have hl : i < σ.length := by
          obtain ⟨h, _⟩ := List.getElem?_eq_some_iff.mp e4
          simpa using h
        rw [List.getElem?_set_self hl] at e4
        cases e4
        exact (no e1 e3).elim
      · rw [List.getElem?_set_ne hj] at e1 e3
        rw [List.getElem?_set_ne hk] at e2 e4
        exact so2.apart j k xs ys q e1 e2 e3 e4
/-- as lSp, an owned list may be the answer -/
def lSpO (K : PySem.W.Frag) (t : DSp) : Sp := fun vs H Q E => ∃ z G ds, ∃ Wd : XD → Prop, ∃ Qd : DV → Prop, Ok z H G G H ∧ RVs K z H G H vs ds ∧ t ds Wd Qd ∧
  ∀ x, Qd x → ∀ v G' H', Ok z H G G' H' → RV K z H G' H' v x → Q v H'
def BodyO (n : Nat) (bt : DS) (t : DSp) : Prop := ∀ as Wd Qd, t as Wd Qd → bt { nx := fun _ => Qd (.d .none), rt := Qd, bk := fun _ => False, ct := fun _ => False, ex := fun x _ => Wd x } (startR n as)
section
variable {P : Program} {w : World} {K : PySem.W.Frag} {mg : Str → Option Value} {base : Heap} {x qual : Str} {params : Arguments} {body : List Stmt} {scope : Scope} {dvs : List V} {kws : List (Str × V)} {f : Addr} {fd : FuncData} {N ps : List Str} {k : Nat} {t : DSp} {bt : DS}
theorem fn_o (F : FunD K x qual params body scope dvs kws f fd) (S : FnScope N ps scope) (len : ∀ as Wd Qd, t as Wd Qd → as.length = ps.length)
    (hbody : ∀ (cdv : Value) (A : Around) (outer : List Env) (s : Shared) (H : Hp) (E : XK), Room k (A.deeper (envOfC qual scope s.heap.objs.size f cdv)) → ∃ W : WX, PSs (cxOf CX0 P w K mg base N qual scope f cdv A outer s H E).nox body (lS K W bt))
    (sem : BodyO N.length bt fun as Wd Qd => t as noX Qd) : FnOk P w K mg base CX0 (k + 1) f fd ps (lSpO K fun as _ Qd => t as noX Qd) := by
  have hpl : ps.length ≤ N.length := by have := congrArg List.length S.pre; rw [List.length_take] at this; omega
  refine F.ok S (fun vs H Q E h => ?_) fun cdv A outer s H vs Q E hr h => ?_
  · obtain ⟨z, G, ds, Wd, Qd, ok, r, h, _⟩ := h
    rw [r.length]
    exact len _ _ _ h
  · obtain ⟨z, G, ds, Wd, Qd, ok, r, h, q⟩ := h
    obtain ⟨W, hb⟩ := hbody cdv A outer s H E hr
    refine ⟨_, hb.nox, z, H, G, G, startR N.length ds, _, so_start ok r (by rw [len _ _ _ h]; exact hpl), sem ds noX Qd h, fun ρ' hn σ' G' H' e so' => ?_, fun x hx v ρ' σ' G' H' e so' rv => ?_, fun _ z => z.elim, fun _ z => z.elim, fun _ _ z => z.elim⟩
    · exact q _ hn .non G' H' so'.ok .non
    · exact q x hx v G' H' so'.ok rv
end
structure CalO (P : Program) (w : World) (K : PySem.W.Frag) (mg : Str → Option Value) (base : Heap) (k : Nat) (x : Str) (t : DSp) : Prop where
  ex : ∃ (f : Addr) (fd : FuncData) (ps : List Str), FnOk P w K mg base CX0 k f fd ps (lSpO K (lo0 t)) ∧ mg x = some (.ref f) ∧ PySem.W.keepIn K (.ref f) = true ∧ Binds K fd ps []
section
variable {X : Cx} {W : WX} {k j : Nat} {t : DSp} {x y : Str} {p p2 pos pos' : Pos} {e : Expr} {es : List Expr} {ta : DA} {i : Nat}
/-- y = f(e, ..), the answer owned from here on -/
def sOwnF (i : Nat) (t : DSp) (ta : DA) : DS := fun E ρ => ta E.ex ρ fun xs => t xs noX fun x => match x with
  | .own ds => E.nx (put ρ i (.own ds))
  | _ => False
theorem ds_ownF (c : CalO X.prog X.w X.K X.mg X.base k x t) (hr : Room j X.A) (hk : k ≤ j) (hg : Gl X x) (hN : X.N.Nodup) (hi : X.N[i]? = some y) (hx : Loc X.env.scope y) (ha : PA X (e :: es) (lA X.K W ta)) (hdb : (x == ("__debug__" : Str)) = false := by decide)
    (he : starEach (e :: es) X.env = (false, eval e X.env) :: starEach es X.env := by rfl) (hpl : (backTo p2 (starEach es X.env)).any (·.1) = false := by rfl)
    (hs : swapsWith (.Call (.Name x p) (e :: es) [] p2) (some (.Name y pos')) pos.line X.env = pure false := by rfl) (hf : X.fn y = true ∨ X.env.scope.names.lookup y = some .local := by first | exact .inl rfl | exact .inr rfl | assumption) :
    PS X (.Assign [.Name y pos'] (.Call (.Name x p) (e :: es) [] p2) pos) (lS X.K W (sOwnF i t ta)) := by
  obtain ⟨f, fd, ps, F, hm, kp, hb⟩ := c.ex
  refine (ps_set hN hi hx (pe_call F (hr.mono hk) hg hm kp hb .nil pass0 ha hdb he hpl) hs hf).imp fun E σ H h => ?_
  obtain ⟨z, H0, G0, G, ρ, ED, so, h, q, _, _, _, w⟩ := h
  refine ⟨z, H0, G0, G, ρ, ED.ex, _, so, h, fun xs hx vs G1 H1 e1 so1 r1 => ?_, w⟩
  refine ⟨z, G1, xs, noX, _, so1.ok.entry, ?_, hx, fun x hx v G2 H2 ok2 r2 => ?_⟩
  · rw [List.append_nil]
    exact r1.h0
  · split at hx
    · obtain ⟨p, us, rfl, g1, g2, g3, g4, g5⟩ := r2
      have go2 := ok2.go
      refine q _ hx _ G2 H2 (e1.ex.trans go2.ex) ?_
      rw [put_eq]
      exact so1.takeOwn (so1.go go2 (so1.ok.back ok2)) g4 g1 g2 g3 g5
    · exact hx.elim
end
end DL

set_option Elab.async false
set_option linter.all false
set_option maxRecDepth 100000
set_option maxHeartbeats 4000000
/-! IX: isinstance of a caught error that has fields. -/
namespace DL
open PySem PySem.Spec PySem.Calls PySem.W PyProof.Rows L2
section
variable {prog : Program} {w : World} {A : Around} {E : Value → Shared → Prop} {s : Shared} {K : PySem.W.Frag} {x D : Addr} {ox : Obj} {od : Option Obj}
theorem found_class (C : ExcC K D) : findObj K D od "__class__" = some (.bind (.builtin "getset_descriptor.__get__") (.builtin "object.__class__")) := by
  obtain ⟨cd, hc, _⟩ := any_some C.hd
  unfold findObj
  rw [hc, Option.bind_some, C.ha, Option.bind_some]
  simp [C.hn, C.ht]
theorem class_of {Q : Option Value → Shared → Prop} (C : ExcC K D) (X : K.In s.heap) (I : InstAt s.heap x ox D od) (h : Q (some (.ref D)) { s with toks := s.toks + 1 }) : wpAny (model prog w) A (getAttr? (.ref x) "__class__") Q E s := by
  obtain ⟨hp, g, d, t, os⟩ := s
  have T0 := I.type (M := model prog w)
  have T1 := looks_findIn (M := model prog w) X C.hg
  have T2 := looks_findIn (M := model prog w) X C.hk
  have T3 := looks_find (M := model prog w) X I (found_class (od := od) C)
  have sub : Looks (model prog w) hp (isInstance (.ref x) (.type "BaseException")) true := T0.andThen
    (looks_subIn X C.hs)
  have o0 : (false && onTheHeap (Value.builtin "BaseException.__getattribute__")) = false := rfl
  have o2 : (Value.builtin "BaseException.__getattribute__" == Value.builtin "object.__getattribute__") = false := by
    decide +kernel
  have o1 : (onTheHeap (Value.ref D) && Value.builtin "BaseException.__getattribute__" == Value.builtin "object.__getattribute__") = false := by
    rw [o2]
    rfl
  unfold getAttr? getAttrBy? getAttrBy
  refine wpAny_bind (wpAny_mkText (wpAny_bind (wpAny_attempt (wpAny_holding (wpAny_bind (T0.at (wpAny_bind (T1.at ?_))))))))
  show wpAny _ _ (if (onTheHeap (Value.ref D) && Value.builtin "BaseException.__getattribute__" == Value.builtin "object.__getattribute__") = true then _ else _)
    _ _ _
  rw [o1, if_neg Bool.false_ne_true]
  unfold getAttrByItsOwn
  unfold hookBefore
  refine wpAny_bind ?_
  rw [if_pos (show onTheHeap (Value.ref D) = true from rfl)]
  refine T2.at (wpAny_bind (wpAny_attempt (wpAny_holding ?_)))
  unfold callGetattribute
  rw [o0, if_neg Bool.false_ne_true]
  unfold boundAndCalled
  rw [PySem.F.excAttr_ValueError.ga.bind (.ref x)]
  refine wpAny_bind (wpAny_pure ?_)
  show wpAny _ _ (call (.builtin "BaseException.__getattribute__") [.ref x, .str "__class__" t])
    _ _ _
  refine wpAny_call (codeAny_call_builtin PySem.F.excAttr_ValueError.ga.plain PySem.F.entry_bexc_ga (@check_slot (model prog w) _ _ ⟨hp, g, d, t + 1, os⟩ "BaseException.__getattribute__" "BaseException" "__getattribute__" (.ref x) [.str "__class__" t] [] _
    (by decide +kernel) (by decide +kernel) sub (PySem.F.args_bexc_ga (.ref x) (.str "__class__" t)) ?_))
  unfold Builtin.«object.__getattribute__»
  refine wpAny_bind (wpAny_of_eq (a := ((Value.ref x : Value), [Value.str "__class__" t])) (by first | rfl | (simp only [slotArgs]; rfl)) (wpAny_bind (wpAny_pure (wpAny_bind (T0.at (wpAny_bind (T3.at ?_)))))))
  show wpAny _ _ (holding [Value.builtin "object.__class__"] (call (.builtin "getset_descriptor.__get__") [.builtin "object.__class__", .ref x, .ref D]) >>= ret)
    _ _ _
  refine wpAny_bind (wpAny_holding (wpAny_call (class_get (s := ⟨hp, g, d, t + 1, os⟩) (ox := ox) (od := od) X I C.hm (wpAny_pure ?_))))
  show wpAny _ _ (handedOut (.ref D)) _ _ _
  rw [handedOut_of (v := .ref D) rfl]
  first
    | exact wpAny_pure (wpAny_pure h)
    | exact wpAny_pure h
    | exact wpAny_pure (wpAny_bind (wpAny_pure (wpAny_pure h)))
theorem kit_of (C : ExcC K D) : KitX K (.ref x) (.ref D) (fun h => InstAt h x ox D od) := by
  obtain ⟨cdD, hcD, _⟩ := any_some C.hd
  unfold clsIn at hcD
  split at hcD
  · rename_i c' d' cd' sl' ho
    refine ⟨fun _ _ _ I => I.type, fun _ h X _ => ?_, fun h tp dd its n sl X htp => ?_, fun X I k => class_of C X I k⟩
    · intro A' Q' E' s' k q
      unfold isType loadHead
      exact wpAny_bind (wpAny_loadPart (k _ _ (X _ _ ho)) (wpAny_pure q))
    · refine Bool.eq_false_iff.mpr fun q => ?_
      have e : D = tp := Value.ref.inj (beq_iff_eq.mp q)
      subst e
      cases (X _ _ ho).symm.trans htp
  · cases hcD
end
/-- isinstance(e, c) where e has fields -/
theorem call_isF {X : Cx} {a D : Addr} {oe : Obj} {d : Option Addr} {pn : List (Addr × Obj)} (C : ExcC X.K D) (hz : Zc (.ref D) d oe) (hf : ∃ vs, oe.data = .fields vs) :
    CallR (X.suite a ((a, oe) :: pn)) (.builtin "isinstance") (fun xs H Q => (∀ dd, d = some dd → ∃ u, H dd = some u) ∧ rIsE X.K D a xs H Q) := by
  intro pins s σ H xs us Q I r h
  obtain ⟨hd, c, cv, b, rfl, hcv, e, q⟩ := h
  match r with
  | .cons rx (.cons rt .nil) =>
    cases rx
    have ec := hcv _ rt
    subst ec
    obtain ⟨hget, _⟩ := I.pin (a, oe) (List.mem_append.mpr (.inl List.mem_cons_self))
    obtain ⟨vs, hv⟩ := hf
    have J : ∃ od, PySem.W.InstAt s.heap a oe D od := by
      obtain ⟨oc, odd, oda, osl⟩ := oe
      obtain ⟨h1, h2⟩ := hz
      dsimp only at h1 h2 hv
      subst h1 h2 hv
      cases odd with
      | none => exact ⟨none, hget, rfl, rfl, trivial⟩
      | some dd =>
        obtain ⟨u, hu⟩ := hd dd rfl
        obtain ⟨o, ho⟩ := objOk_get (I.hok dd u hu)
        exact ⟨some o, hget, rfl, rfl, ho⟩
    obtain ⟨od, J⟩ := J
    exact PySem.W.kia_one (kit_of C) I.kIn J e (fun z => nomatch z) fun tk => ⟨.bl b, H, I.kept (t' := tk) fun _ _ z => z, rfl, q⟩
end DL

set_option Elab.async false
set_option linter.all false
set_option maxRecDepth 100000
set_option maxHeartbeats 4000000
/-! EI: an own error with one field: self.f = g(x) in its __init__. -/
namespace DL
open PySem PySem.Spec PyProof.Rows L2
/-- what its __init__ promises: g's answer d' for the datum d becomes the field -/
def spInit (K : PySem.W.Frag) (fld : Str) (t : DSp) : Sp := fun vs H Q _ => ∃ (a C : Addr) (z : Zn) (G : Hp) (v : V) (d d' : D), vs = [.ref a, v] ∧ OexC K C ∧ PySem.W.findIn K (.ref C) fld = some none ∧ H a = some (exo a C none) ∧ Ok z H G G H ∧ ¬ z.F a ∧ Rp K G v d ∧
  (∀ Qd : DV → Prop, Qd (.d d') → t [.d d] noX Qd) ∧ ∀ v' G' H' dx, Ok z H G G' H' → Rp K G' v' d' → H' dx = none → dx ≠ a → Q .non (upd (upd H' dx (exd dx [(fld, v')])) a (exo a C (some dx)))
section
variable {P : Program} {w : World} {K : PySem.W.Frag} {mg : Str → Option Value} {base : Heap} {x qual g fld n0 n1 : Str} {params : Arguments} {scope : Scope} {f : Addr} {fd : FuncData} {k j : Nat} {t : DSp}
theorem fn_init {p1 p2 p3 p4 p5 pos : Pos} (F : FunD K x qual params [.Assign [.Attribute (.Name n0 p1) fld p2] (.Call (.Name g p3) [.Name n1 p4] [] p5) pos] scope [] [] f fd) (S : FnScope [n0, n1] [n0, n1] scope)
    (hbody : ∀ (cdv : Value) (A : Around) (outer : List Env) (s : Shared) (H : Hp) (E : XK), Room k (A.deeper (envOfC qual scope s.heap.objs.size f cdv)) → ∃ W : WX, PSs (cxOf CX0 P w K mg base [n0, n1] qual scope f cdv A outer s H E).nox [.Assign [.Attribute (.Name n0 p1) fld p2] (.Call (.Name g p3) [.Name n1 p4] [] p5) pos]
      (tSeq (tOst K fld (tVar 0) (lE K W (dCall (lo0 t) [] (dCons (dVar 1) dNil)))) tNext)) : FnOk P w K mg base CX0 (k + 1) f fd [n0, n1] (spInit K fld (lo0 t)) := by
  refine F.ok S (fun vs H Q E h => ?_) fun cdv A outer s H vs Q E hr h => ?_
  · obtain ⟨a, C, z, G, v, d, d', rfl, _⟩ := h
    rfl
  · obtain ⟨a, C, z, G, v, d, d', rfl, T, hno, ha, ok, hF, rv, ht, q⟩ := h
    obtain ⟨W, hb⟩ := hbody cdv A outer s H E hr
    refine ⟨_, hb.nox, ?_⟩
    have so : SO K z H G [none, some (.d d)] [some (.ref a), some v] G H := by
      refine ⟨ok, rfl, fun i x e => ?_, fun i j xs ys p e1 _ _ _ => ?_⟩
      · match i, e with
        | 1, e =>
          cases e
          exact ⟨v, rfl, rv⟩
      · match i, e1 with
        | 1, e1 => cases e1
    refine ⟨z, H, G, G, _, fun _ _ => False, fun x => x = .d d', so, ?_, fun x hx v' G' H' go so' r => ?_, fun _ _ z => z.elim⟩
    · exact ⟨trivial, ht _ fun _ => rfl⟩
    · subst hx
      refine ⟨.ref a, rfl, a, C, rfl, T, hno, .inl ⟨go.kp a _ hF ha, fun dx hdx hne => ?_⟩⟩
      exact q v' G' H' dx so'.ok r hdx hne
end
end DL

set_option Elab.async false
set_option linter.all false
set_option maxRecDepth 100000
set_option maxHeartbeats 4000000
/-! EJ: such an error raised, caught, read. -/
namespace DL
open PySem PySem.Spec PyProof.Rows L2
/-- the class, its __init__ -/
structure OwnI (P : Program) (w : World) (mg : Str → Option Value) (K : PySem.W.Frag) (base : Heap) (k : Nat) (x fld : Str) (C : Addr) (t : DSp) : Prop where
  T : OexC K C
  no : PySem.W.findIn K (.ref C) fld = some none
  gC : mg x = some (.ref C)
  ini : ∃ (fI : Addr) (fd : FuncData) (ps : List Str), PySem.W.findIn K (.ref C) "__init__" = some (some (.ref fI)) ∧ PySem.W.typeIn K (.ref fI) = some (.type "function") ∧ FnOk P w K mg base CX0 k fI fd ps (spInit K fld t) ∧ Binds K fd ps []
def sRaiseF (C : Addr) (fld : Str) (t : DSp) (te : DE) : DS := fun E ρ => te E.ex ρ fun x => match x with
  | .d d => ∃ d', (∀ Qd : DV → Prop, Qd (.d d') → t [.d d] noX Qd) ∧ E.ex ⟨C, [(fld, d')]⟩ ρ
  | _ => False
section
variable {X : Cx} {W : WX} {k j : Nat} {C : Addr} {x fld : Str} {t : DSp} {te : DE} {e : Expr} {p pos pos' : Pos}
theorem ok_raised {z : Zn} {H1 G1 H' G' : Hp} {a C dx : Addr} {xs : List (Str × V)} (ok1 : Ok z H1 G1 G1 H1) (ha : H1 a = none) (ok : Ok z (upd H1 a (exo a C none)) G1 G' H') (hdx : H' dx = none) (hne : dx ≠ a) :
    H1 dx = none ∧ ¬ z.F dx ∧ Ok z H1 G1 (upd G' dx (.xd xs)) (upd (del (upd (upd H' dx (exd dx xs)) a (exo a C (some dx))) a) dx (.xd xs)) := by
  have nFa : ¬ z.F a := fun hF => by
    obtain ⟨u, hu⟩ := Zn.F_alloc ok1 hF
    rw [ha] at hu
    cases hu
  have nFd : ¬ z.F dx := fun hF => by
    obtain ⟨u, hu⟩ := Zn.F_alloc ok hF
    rw [hdx] at hu
    cases hu
  have h1d : H1 dx = none := by
    cases e : H1 dx with
    | none => rfl
    | some o =>
      have := ok.keep dx o nFd (by rw [upd_ne hne]; exact e)
      rw [hdx] at this
      cases this
  have g1a : G1 a = none := ok1.sub.free ha
  have g'a : G' a = none := ok.old a _ upd_same g1a
  have g'd : G' dx = none := ok.sub.free hdx
  have at3 : ∀ {b : Addr}, b ≠ dx → b ≠ a → upd (del (upd (upd H' dx (exd dx xs)) a (exo a C (some dx))) a) dx (.xd xs) b = H' b := fun {b} n1 n2 => by
    rw [upd_ne n1, del_ne n2, upd_ne n2, upd_ne n1]
  refine ⟨h1d, nFd, ⟨fun b o eb => ?_, fun t ht => ?_, fun r hr => ?_, fun b hb => ?_, fun b o nb eb => ?_, fun b o eb gb => ?_, fun b o eb => ?_⟩⟩
  · by_cases hb : b = dx
    · subst hb
      rw [upd_same] at eb ⊢
      exact eb
    · rw [upd_ne hb] at eb
      have hba : b ≠ a := fun z => by
        subst z
        rw [g'a] at eb
        cases eb
      rw [at3 hb hba]
      exact ok.sub b o eb
  · refine BagOk.same (ok.bag t ht) fun b hb => at3 (fun z => ?_) fun z => ?_
    · subst z
      exact nFd (.inl ⟨t, ht, hb⟩)
    · subst z
      exact nFa (.inl ⟨t, ht, hb⟩)
  · obtain ⟨n, hn⟩ := ok.room r hr
    refine ⟨n, ?_⟩
    rw [at3 (fun z => by subst z; exact nFd (.inr hr)) fun z => by subst z; exact nFa (.inr hr)]
    exact hn
  · rw [upd_ne fun z => by subst z; exact nFd hb]
    exact ok.dis b hb
  · have n1 : b ≠ dx := ne_of_none eb h1d
    have n2 : b ≠ a := ne_of_none eb ha
    rw [at3 n1 n2]
    exact ok.keep b o nb (by rw [upd_ne n2]; exact eb)
  · have n1 : b ≠ dx := ne_of_none eb h1d
    have n2 : b ≠ a := ne_of_none eb ha
    rw [upd_ne n1]
    exact ok.old b o (by rw [upd_ne n2]; exact eb) gb
  · have n1 : b ≠ dx := ne_of_none eb (ok1.sub.free h1d)
    rw [upd_ne n1]
    exact ok.grow b o eb
theorem ds_raiseF (hc : X.calm = true) (tk : Takes X W) (O : OwnI X.prog X.w X.mg X.K X.base k x fld C t) (hr : Room j X.A) (hk : k + 1 ≤ j) (hg : Gl X x) (he : PE X e (lE X.K W te)) (hdb : (x == ("__debug__" : Str)) = false := by decide)
    (hse : starEach [e] X.env = (false, eval e X.env) :: starEach [] X.env := by rfl) (hpl : (backTo pos (starEach [] X.env)).any (·.1) = false := by rfl) :
    PS X (.Raise (some (.Call (.Name x p) [e] [] pos)) none pos') (lS X.K W (sRaiseF C fld t te)) := by
  obtain ⟨fI, fd, ps, iC, tI, F, hb⟩ := O.ini
  refine (ps_raise hc tk (pmk_oex O.T iC tI F (hr.mono hk) hb .nil pass0 hg O.gC (pa_cons he pa_nil hse) hdb hse hpl)).imp fun E σ H h => ?_
  obtain ⟨z, H0, G0, G, ρ, ED, so, h, _, _, _, _, w⟩ := h
  show lE X.K W te σ H fun v H1 => [v].length ≤ 1000 ∧ ∀ a, H1 a = none → spInit X.K fld t (.ref a :: ([v] ++ [])) (upd H1 a (exo a C none)) _ _
  refine ⟨z, H0, G0, G, ρ, ED.ex, _, so, h, fun y hy v G1 H1 e1 so1 r1 => ⟨Nat.le_of_ble_eq_true rfl, fun a ha => ?_⟩, w⟩
  split at hy
  · rename_i d
    obtain ⟨d', ht, hx⟩ := hy
    have nFa : ¬ z.F a := fun hF => by
      obtain ⟨u, hu⟩ := Zn.F_alloc so1.ok hF
      rw [ha] at hu
      cases hu
    refine ⟨a, C, z, G1, v, d, d', rfl, O.T, O.no, upd_same, (so1.ok.newOwn ha).entry, nFa, r1, ht, fun v' G' H' dx ok' r' hdx hne => ?_⟩
    obtain ⟨h1d, nFd, ok3⟩ := ok_raised (xs := [(fld, v')]) so1.ok.entry ha ok' hdx hne
    refine ⟨rfl, dx, [(fld, v')], upd_same, by rw [upd_ne hne, upd_same], h1d, ?_⟩
    have go3 := ok3.go
    have so3 := so1.go go3 (so1.ok.back ok3)
    have g'd : Ex G' (upd G' dx (.xd [(fld, v')])) := Ex.new (ok'.sub.free hdx)
    exact w _ ρ hx (.ref C) (some dx) σ _ _ (e1.ex.trans go3.ex) so3 ⟨rfl, .inr ⟨(fun z => nomatch z), dx, [(fld, v')], rfl, upd_same, rfl, .cons (Rp.mono g'd r') .nil⟩⟩
  · exact hy.elim
end
end DL

set_option Elab.async false
set_option linter.all false
set_option maxRecDepth 100000
set_option maxHeartbeats 4000000
/-! EK: a caught error with fields: the clauses, isinstance, e.f; defs that must know the guards; calls by keywords. -/
namespace DL
open PySem PySem.Spec PyProof.Rows L2
structure ClF where
  c : Value
  sl : Option Nat
  su : Addr → Option Addr → XD → DS
def insetF : Option Nat → Addr → Option Addr → XD → Ro → Ro
  | none, _, _, _, ρ => ρ
  | some i, a, d, x, ρ => put ρ i (.err a d x.fs)
def dHandF (K : PySem.W.Frag) (E : DEnds) : List ClF → DW
  | [] => E.ex
  | q :: r => fun x ρ => ∃ b, PySem.W.exmOne K (.ref x.C) q.c = some b ∧ (b = true → ∀ a d, q.su a d x (clEndsD q.sl E) (insetF q.sl a d x ρ)) ∧ (b = false → dHandF K E r x ρ)
def sTryF (K : PySem.W.Frag) (tb : DS) (l : List ClF) : DS := fun E ρ => tb { E with ex := dHandF K E l } ρ
section
variable {X : Cx} {W Wn Wout : WX} {body : List Stmt} {h₀ : ExceptHandler} {hds : List ExceptHandler} {l : List ClF} {pos : Pos} {tb : DS}
def toClF (K : PySem.W.Frag) (Wn : WX) (q : ClF) : Cl := ⟨q.c, q.sl, fun a cls d D σ H => ∃ x : XD, cls = .ref x.C ∧ lS K Wn (q.su a d x) D σ H⟩
abbrev SuF (X : Cx) (Wn : WX) (su : List Stmt) (t : Addr → Option Addr → XD → DS) : Prop :=
  ∀ (a : Addr) (oe : Obj) (d : Option Addr) (x : XD) (pn : List (Addr × Obj)), Zc (.ref x.C) d oe → (∃ vs, oe.data = .fields vs) → PSs (X.suite a ((a, oe) :: pn)) su (lS X.K Wn (t a d x))
theorem suF_of {su : List Stmt} {q : ClF} (h : SuF X Wn su q.su) : SuOk X su (toClF X.K Wn q).ts := fun a oe cls d pn z f => ⟨fun pins s σ H E I hq => by
  obtain ⟨x, rfl, hq⟩ := hq
  exact (h a oe d x pn z f).run pins s σ H E I hq⟩
inductive ClsF (X : Cx) (Wn : WX) : List ExceptHandler → List ClF → Prop
  | nil : ClsF X Wn [] []
  | bare {x : Str} {c : Value} {su : Addr → Option Addr → XD → DS} {b₀ : Stmt} {bs : List Stmt} {np p : Pos} {hs : List ExceptHandler} {l : List ClF} (hc : Names X x c) (hsu : SuF X Wn (b₀ :: bs) su) (r : ClsF X Wn hs l) :
      ClsF X Wn (.ExceptHandler (some (.Name x np)) none (b₀ :: bs) p :: hs) (⟨c, none, su⟩ :: l)
  | as {x n : Str} {c : Value} {i : Nat} {su : Addr → Option Addr → XD → DS} {b₀ : Stmt} {bs : List Stmt} {np p : Pos} {hs : List ExceptHandler} {l : List ClF} (hi : X.N[i]? = some n) (hln : X.env.kindOf n = some .local)
      (hc : Names X x c) (hsu : SuF X Wn (b₀ :: bs) su) (r : ClsF X Wn hs l) : ClsF X Wn (.ExceptHandler (some (.Name x np)) (some n) (b₀ :: bs) p :: hs) (⟨c, some i, su⟩ :: l)
theorem ClsF.to : ∀ {hs : List ExceptHandler} {l : List ClF}, ClsF X Wn hs l → ClOk X hs (l.map (toClF X.K Wn))
  | _, _, .nil => .nil
  | _, _, .bare hc hsu r => .bare hc (suF_of hsu) r.to
  | _, _, .as hi hln hc hsu r => .as hi hln hc (suF_of hsu) r.to
theorem so_insetF {K : PySem.W.Frag} {z : Zn} {H0 G0 G H : Hp} {ρ : Ro} {σ : L2.St} {c : Value} {d : Option Addr} {x : XD} (so : SO K z H0 G0 ρ σ G H) (xr : XR K G H c d x) (a : Addr) : ∀ o : Option Nat, SO K z H0 G0 (insetF o a d x ρ) (inset o a σ) G H
  | none => so
  | some i => by
    show SO K z H0 G0 (put ρ i (.err a d x.fs)) (σ.set i (some (.ref a))) G H
    rw [put_eq]
    exact so.set (x := .err a d x.fs) ⟨rfl, xr.2⟩ fun _ z => nomatch z
theorem ds_tryF (hs : X.stack = X.env :: X.outer) (hf : X.env.frame = some X.env.locals) (hN : X.N.Nodup) (tk : Takes X Wout)
    (hb : ∀ (W : WX) (pn : List (Addr × Obj)) (xe : Value → Shared → Prop), Takes (X.tr pn xe) W → PSs (X.tr pn xe) body (lS X.K W tb))
    (hh : ClsF X Wn (h₀ :: hds) l) : PS X (.Try body (h₀ :: hds) [] [] pos) (lS X.K Wout (sTryF X.K tb l)) :=
  (ps_try (tb := fun W => lS X.K W tb) hs hf hN tk (fun W pn xe t _ => hb W pn xe t) hh.to).imp fun D σ H h => by
    obtain ⟨z, H0, G0, G, ρ, ED, so, h, q1, q2, q3, q4, w⟩ := h
    refine ⟨z, H0, G0, G, ρ, { ED with ex := dHandF X.K ED l }, so, h, q1, q2, q3, q4, fun x ρ' hx c d σ' G' H' e so' xr => ?_⟩
    obtain rfl : c = .ref x.C := xr.1
    clear hh h hb
    induction l with
    | nil => exact w x ρ' hx _ d σ' G' H' e so' xr
    | cons q r ih =>
      obtain ⟨b, hb, yes, no⟩ := hx
      refine ⟨b, hb, fun hb1 a ha => ⟨x, rfl, ?_⟩, fun hb0 => ih (no hb0)⟩
      exact ⟨z, H0, G0, G', _, clEndsD q.sl ED, so_insetF so' xr a q.sl, yes hb1 a d, fun ρ2 h2 σ2 G2 H2 e2 so2 => q1 _ h2 _ _ _ (e.trans e2) (so_unset so2 q.sl), fun y hy v ρ2 σ2 G2 H2 e2 so2 r => q2 y hy v ρ2 σ2 G2 H2 (e.trans e2) so2 r,
        fun ρ2 h2 σ2 G2 H2 e2 so2 => q3 _ h2 _ _ _ (e.trans e2) (so_unset so2 q.sl), fun ρ2 h2 σ2 G2 H2 e2 so2 => q4 _ h2 _ _ _ (e.trans e2) (so_unset so2 q.sl), fun _ _ z => False.elim z⟩
end
/-! ### isinstance(e, c), e.f -/
def oIsF (K : PySem.W.Frag) (a : Addr) (d : Option Addr) (D : Addr) (cv : Value) : DV → (DV → Prop) → Prop
  | .err b d' _, Q => b = a ∧ d' = d ∧ ExcC K D ∧ ∃ r, PySem.W.kitOne K (.ref D) cv = some r ∧ Q (.d (.bool r))
  | _, _ => False
def oFld (K : PySem.W.Frag) (a : Addr) (d : Option Addr) (D : Addr) (f : Str) : DV → (DV → Prop) → Prop
  | .err b d' fs, Q => b = a ∧ d' = d ∧ XfC K D ∧ PySem.W.findIn K (.ref D) f = some none ∧ ∃ y, fs.lookup f = some y ∧ Q (.d y)
  | _, _ => False
theorem look_rps {K : PySem.W.Frag} {G : Hp} {f : Str} : ∀ {vs : List (Str × V)} {fs : List (Str × D)} {y : D}, vs.map (·.1) = fs.map (·.1) → Rps K G (vs.map (·.2)) (fs.map (·.2)) → fs.lookup f = some y → ∃ v, vs.lookup f = some v ∧ Rp K G v y
  | [], [], _, _, _, e => by cases e
  | [], _ :: _, _, h, _, _ => by cases h
  | _ :: _, [], _, h, _, _ => by cases h
  | (k, v) :: vs, (k', d) :: fs, y, h, r, e => by
    rw [List.map_cons, List.map_cons] at h r
    injection h with h1 h2
    have h1 : k = k' := h1
    subst h1
    cases r with
    | cons r1 r2 =>
      rw [List.lookup_cons] at e ⊢
      split at e
      · rename_i q
        cases e
        exact ⟨v, rfl, r1⟩
      · exact look_rps h2 r2 e
section
variable {X : Cx} {W : WX} {a D : Addr} {d : Option Addr} {oe : Obj} {pn : List (Addr × Obj)} {te : DE} {e : Expr} {p pos : Pos} {f : Str}
theorem de_isF {c : V} {cv : Value} {e2 : Expr} (hz : Zc (.ref D) d oe) (hf : ∃ vs, oe.data = .fields vs) (hc : ∀ u, RelV c u → u = cv) (hg : Gl (X.suite a ((a, oe) :: pn)) "isinstance") (hm : X.mg "isinstance" = none) (he : PE (X.suite a ((a, oe) :: pn)) e (lE X.K W te)) (h2 : PE (X.suite a ((a, oe) :: pn)) e2 (tC c))
    (s2 : starEach [e2] X.env = (false, eval e2 X.env) :: starEach [] X.env := by rfl) (s1 : starEach [e, e2] X.env = (false, eval e X.env) :: starEach [e2] X.env := by rfl) (hpl : (backTo pos (starEach [e2] X.env)).any (·.1) = false := by rfl) :
    PE (X.suite a ((a, oe) :: pn)) (.Call (.Name "isinstance" p) [e, e2] [] pos) (lE X.K W (dUn (oIsF X.K a d D cv) te)) := by
  refine ⟨fun pins s σ H Q I h => ?_⟩
  obtain ⟨z, H0, G0, G, ρ, Wd, Qd, so, h, q, w⟩ := h
  refine wpAny_Call_Name_kw (ld_blt I hg hm (by decide +kernel : bootBuiltins "isinstance" = some (.builtin "isinstance")) ?_ (by decide) (by decide))
  refine PyProof.Rows.callWith_builtin1 (thn ((pa_cons he (pa_cons h2 pa_nil s2) s1).run pos pins s σ H (fun vs H1 => ExcC X.K D ∧ (∀ dd, d = some dd → ∃ u, H1 dd = some u) ∧ rIsE X.K D a vs H1 Q) I ?_) fun us s1 ⟨vs, H1, I1, r1, q1⟩ => ?_) s1 hpl
  · refine ⟨z, H0, G0, G, ρ, Wd, _, so, h, fun x hx v G1 H1 e1 so1 r1 => ?_, w⟩
    unfold oIsF at hx
    split at hx
    · obtain ⟨rfl, rfl, hE, r, hr, hq⟩ := hx
      obtain ⟨rfl, hd⟩ := r1
      refine ⟨hE, fun dd ed => ?_, c, cv, r, rfl, hc, hr, q _ hq (.bl r) G1 H1 e1 so1 (.bl r)⟩
      rcases hd with ⟨_, hd⟩ | ⟨_, dd', vs, hd, hG, _⟩
      · rw [ed] at hd
        cases hd
      · rw [ed] at hd
        cases hd
        exact ⟨_, so1.ok.sub _ _ hG⟩
    · exact hx.elim
  · obtain ⟨hE, q2, q1⟩ := q1
    exact call_isF hE hz hf pins s1 σ H1 vs us Q I1 r1 ⟨q2, q1⟩
theorem de_fld (hz : Zc (.ref D) d oe) (hf : ∃ vs, oe.data = .fields vs) (he : PE (X.suite a ((a, oe) :: pn)) e (lE X.K W te)) (hb : attributeBase e f X.env (eval e X.env) = eval e X.env := by rfl) :
    PE (X.suite a ((a, oe) :: pn)) (.Attribute e f pos) (lE X.K W (dUn (oFld X.K a d D f) te)) := by
  refine ⟨fun pins s σ H Q I h => ?_⟩
  have hT : (XfC X.K D ∧ PySem.W.findIn X.K (.ref D) f = some none) → wpAny (model X.prog X.w) (X.suite a ((a, oe) :: pn)).A (eval (.Attribute e f pos) X.env) (EP (X.suite a ((a, oe) :: pn)) pins σ Q) (X.suite a ((a, oe) :: pn)).xe s := fun ⟨T, hno⟩ => by
    refine (pe_xf T hno hz hf he hb).run pins s σ H Q I ?_
    obtain ⟨z, H0, G0, G, ρ, Wd, Qd, so, h, q, w⟩ := h
    refine ⟨z, H0, G0, G, ρ, Wd, _, so, h, fun x hx v G1 H1 e1 so1 r1 => ?_, w⟩
    unfold oFld at hx
    split at hx
    · obtain ⟨rfl, rfl, _, _, y, hy, hq⟩ := hx
      obtain ⟨rfl, hd⟩ := r1
      rcases hd with ⟨h1, _⟩ | ⟨_, dd, vs, hd, hG, hk, hv⟩
      · rw [h1] at hy
        cases hy
      · obtain ⟨v, hv1, hv2⟩ := look_rps hk hv hy
        exact ⟨rfl, rfl, dd, vs, v, hd, so1.ok.sub _ _ hG, hv1, q _ hq v G1 H1 e1 so1 hv2⟩
    · exact hx.elim
  by_cases c : XfC X.K D ∧ PySem.W.findIn X.K (.ref D) f = some none
  · exact hT c
  · refine attr_of hb (thn (he.run pins s σ H (fun _ _ => False) I ?_) fun u s1 ⟨_, _, _, _, z⟩ => z.elim)
    obtain ⟨z, H0, G0, G, ρ, Wd, Qd, so, h, q, w⟩ := h
    refine ⟨z, H0, G0, G, ρ, Wd, _, so, h, fun x hx v G1 H1 e1 so1 r1 => ?_, w⟩
    unfold oFld at hx
    split at hx
    · obtain ⟨_, _, h1, h2, _⟩ := hx
      exact c ⟨h1, h2⟩
    · exact hx.elim
end
/-! ### defs that must know the guards -/
structure FnG (P : Program) (w : World) (K : PySem.W.Frag) (mg : Str → Option Value) (base : Heap) (k : Nat) (f : Addr) (fd : FuncData) (ps : List Str) (sp : Sp) : Prop where
  len : ∀ vs H Q E, sp vs H Q E → vs.length = ps.length
  run : ∀ (A : Around), A.guards = some [] → Room k A → AtA A P w K mg base f fd ps sp
section
variable {P : Program} {w : World} {K : PySem.W.Frag} {mg : Str → Option Value} {base : Heap} {x qual : Str} {params : Arguments} {body : List Stmt} {scope : Scope} {dvs : List V} {kws : List (Str × V)} {f : Addr} {fd : FuncData} {N ps : List Str} {k : Nat} {t : DSp} {bt : DS}
theorem fn_g (F : FunD K x qual params body scope dvs kws f fd) (S : FnScope N ps scope) (len : ∀ as Wd Qd, t as Wd Qd → as.length = ps.length)
    (hbody : ∀ (cdv : Value) (A : Around) (outer : List Env) (s : Shared) (H : Hp) (E : XK), A.guards = some [] → Room k (A.deeper (envOfC qual scope s.heap.objs.size f cdv)) → ∃ W : WX, PSs (cxOf CX0 P w K mg base N qual scope f cdv A outer s H E).nox body (lS K W bt))
    (sem : Body N.length bt fun as Wd Qd => t as noX Qd) : FnG P w K mg base (k + 1) f fd ps (lSp K fun as _ Qd => t as noX Qd) := by
  have hpl : ps.length ≤ N.length := by have := congrArg List.length S.pre; rw [List.length_take] at this; omega
  have hlen : ∀ vs H Q E, lSp K (fun as _ Qd => t as noX Qd) vs H Q E → vs.length = ps.length := fun vs H Q E h => by
    obtain ⟨z, G, ds, Wd, Qd, ok, r, h, _⟩ := h
    rw [r.length]
    exact len _ _ _ h
  refine ⟨hlen, fun A hg hr => at_of F S hr hlen fun cdv outer s H vs Q E hr h => ?_⟩
  obtain ⟨z, G, ds, Wd, Qd, ok, r, h, q, _⟩ := h
  obtain ⟨W, hb⟩ := hbody cdv A outer s H E hg hr
  refine ⟨_, hb.nox, z, H, G, G, startR N.length ds, _, so_start ok r (by rw [len _ _ _ h]; exact hpl), sem ds noX Qd h, fun ρ' hn σ' G' H' e so' => ?_, fun x hx v ρ' σ' G' H' e so' rv => ?_, fun _ z => z.elim, fun _ z => z.elim, fun _ _ z => z.elim⟩
  · exact q _ hn trivial .non G' H' so'.ok .non
  · exact q x hx.2 hx.1 v G' H' so'.ok rv
end
structure CalG (P : Program) (w : World) (K : PySem.W.Frag) (mg : Str → Option Value) (base : Heap) (k : Nat) (x : Str) (t : DSp) : Prop where
  ex : ∃ (f : Addr) (fd : FuncData) (ps : List Str), FnG P w K mg base k f fd ps (lSp K (lo0 t)) ∧ mg x = some (.ref f) ∧ PySem.W.keepIn K (.ref f) = true ∧ Binds K fd ps []
section
variable {X : Cx} {W : WX} {k j : Nat} {t : DSp} {x : Str} {p pos : Pos} {e : Expr} {es : List Expr} {ta : DA}
theorem run_g {f : Addr} {fd : FuncData} {ps : List Str} {sp : Sp} {E : XK} {pins : List (Addr × Obj)} {σ : L2.St} {H : Hp} {s : Shared} {Q : VK} {us : List Value} {vs : List V} (F : FnG X.prog X.w X.K X.mg X.base k f fd ps sp) (hg : X.A.guards = some []) (hr : Room k X.A) (hb : Binds X.K fd ps [])
    (I : Inv X pins σ H s) (r : Vals vs us) (h : sp vs H Q E) : wpAny (model X.prog X.w) X.A (call (.ref f) us) (EP X pins σ Q) X.xe s := by
  have hl : us.length = ps.length := r.length.symm.trans (F.len _ _ _ _ h)
  have b := hb s us I.kIn (by rw [List.append_nil]; exact hl)
  rw [List.append_nil] at b
  refine wpAny_call (codeAny_mono (F.run X.A hg hr X.stack s H ⟨us, []⟩ us vs Q E I.env0 b r h) fun r s' hq => ?_)
  match r, hq with
  | .error e, hq => exact pass0 pins σ H s e s' I hq
  | .ok (.ret u), hq => exact I.after hq
  | .ok .next, hq => exact False.elim hq
  | .ok .brk, hq => exact False.elim hq
  | .ok .cont, hq => exact False.elim hq
theorem de_cg (c : CalG X.prog X.w X.K X.mg X.base k x t) (hgd : X.A.guards = some []) (hr : Room j X.A) (hk : k ≤ j) (hg : Gl X x) (ha : PA X (e :: es) (lA X.K W ta)) (hdb : (x == ("__debug__" : Str)) = false := by decide)
    (he : starEach (e :: es) X.env = (false, eval e X.env) :: starEach es X.env := by rfl) (hpl : (backTo pos (starEach es X.env)).any (·.1) = false := by rfl) :
    PE X (.Call (.Name x p) (e :: es) [] pos) (lE X.K W (dCall (lo0 t) [] ta)) := by
  obtain ⟨f, fd, ps, F, hm, kp, hb⟩ := c.ex
  refine ⟨fun pins s σ H Q I h => ?_⟩
  refine wpAny_Call_Name_kw (ld_glob I hg hm ?_ hdb)
  have h2 := lE_call (E := fun c d H => W c d σ H) (dvs := []) (fun _ => .nil) (fun _ _ _ h => h) h
  exact PySem.W.callWith_K (h₀ := X.base) I.ok.mod.kin kp (thn (ha.run pos pins s σ H _ I h2) fun us s1 ⟨vs, H1, I1, r, q⟩ => ⟨I1.kIn, run_g (E := fun c d H => W c d σ H) F hgd (hr.mono hk) hb I1 r (by simp only [List.append_nil] at q; exact q)⟩) he hpl
end
end DL

set_option Elab.async false
set_option linter.all false
set_option maxRecDepth 100000
set_option maxHeartbeats 4000000
/-! EL: a dict comprehension over a dict that is empty. -/
namespace DL
open PySem PySem.Spec PyProof.Rows L2
def dDc0 (i : Nat) : DE := fun _ ρ Q => get ρ i = some (.d (.dict [])) ∧ Q (.d (.dict []))
section
variable {X : Cx} {W : WX} {x : Str} {p pos : Pos} {i : Nat}
theorem de_dc0 {kx vx tg : Expr} {scope : Scope} {own : List (Str × Nat)} {g : DG} {vs : List Nat} {tk tv : DE} (hc : X.calm = true) (hN : X.N.Nodup) (hi : X.N[i]? = some x) (hv : Vis X.env.scope x) (ok : BlkOk X.N X.env.scope scope own)
    (hg : ∀ (s : Shared) (H : Hp) (C : Addr) (cl : List (Str × Addr)) (fp : List Addr), PG (X.blk s H scope (compEnvC scope cl C X.env) fp) tg (lG X.K vs g))
    (hk : ∀ (s : Shared) (H : Hp) (C : Addr) (cl : List (Str × Addr)) (fp : List Addr), PE (X.blk s H scope (compEnvC scope cl C X.env) fp) kx (lE X.K W tk))
    (he : ∀ (s : Shared) (H : Hp) (C : Addr) (cl : List (Str × Addr)) (fp : List Addr), PE (X.blk s H scope (compEnvC scope cl C X.env) fp) vx (lE X.K W tv))
    (hs : ∀ y, foldedSetIterable (.Name x p) X.env y = pure y := by intro _; rfl) (hd : (x == ("__debug__" : Str)) = false := by decide) (hcd : (x == ("__classdict__" : Str)) = false := by decide) :
    PE X (.DictComp kx vx [⟨tg, .Name x p, [], 0⟩] scope pos) (lE X.K W (dDc0 i)) := by
  have base : PE X (.DictComp kx vx [⟨tg, .Name x p, [], 0⟩] scope pos) _ := pe_dc hc hN (pi_keys (pe_var hi hv hd hcd)) ok hg (fun _ _ _ _ _ => pts_nil) hk he hs
  refine ⟨fun pins s σ H Q I h => ?_⟩
  obtain ⟨z, H0, G0, G, ρ, Wd, Qd, so, ⟨hρ, hq⟩, q, w⟩ := h
  obtain ⟨v, hσ, rv⟩ := so.slot i _ (get_eq hρ)
  obtain ⟨a, ks, rfl, hr, rk⟩ := rp_dict rv
  cases rk
  have fin : ∀ D, H D = none → Q (.ref D) (upd H D (.dK [])) := fun D hD => q _ hq _ _ _ (Go.new (so.ok.sub.free hD) hD) (so.new hD) (Rp.dic (.inl upd_same) .nil)
  rcases so.ok.sub.rd hr with hH | ⟨o, hH⟩
  · refine (pe_lock base).run pins s σ H Q I ⟨a, _, hH, trivial, fun od => ⟨.ref a, hσ, a, od, rfl, .inl ⟨[], upd_same, fun D hD => ⟨fun i m H' => i = 0 ∧ H' = upd (upd H a (.frz od (.dK []))) D (.dK []), ⟨0, rfl, rfl⟩, ?_⟩⟩⟩⟩
    rintro i m H' ⟨rfl, rfl⟩
    have hne : D ≠ a := fun z => by
      subst z
      rw [upd_same] at hD
      cases hD
    have hDn : H D = none := by rwa [upd_ne hne] at hD
    have e1 : upd (upd H a (.frz od (.dK []))) D (.dK []) a = some (.frz od (.dK [])) := by rw [upd_ne (Ne.symm hne), upd_same]
    refine .inl ⟨⟨e1, Nat.le_refl _⟩, e1, ?_⟩
    have e2 : upd (upd (upd H a (.frz od (.dK []))) D (.dK [])) a (.dK []) = upd H D (.dK []) := by
      funext b
      by_cases hb : b = a
      · subst hb
        rw [upd_same, upd_ne (Ne.symm hne), hH]
      · rw [upd_ne hb]
        by_cases hbD : b = D
        · subst hbD
          rw [upd_same, upd_same]
        · rw [upd_ne hbD, upd_ne hb, upd_ne hbD]
    rw [e2]
    exact fin D hDn
  · refine base.run pins s σ H Q I ⟨.ref a, hσ, a, o, rfl, .inl ⟨[], hH, fun D hD => ⟨fun i m H' => i = 0 ∧ H' = upd H D (.dK []), ⟨0, rfl, rfl⟩, ?_⟩⟩⟩
    rintro i m H' ⟨rfl, rfl⟩
    exact .inl ⟨⟨by rw [upd_ne (ne_of_none hH hD)]; exact hH, Nat.le_refl _⟩, fin D hD⟩
end
end DL

set_option Elab.async false
set_option linter.all false
set_option maxRecDepth 100000
set_option maxHeartbeats 4000000
namespace K
open PySem PySem.Spec PyProof.Rows L2 DL
def cDEEPEST : D := .int 20
structure Tx2 (mg : Str → Option Value) (K : PySem.W.Frag) (w : World) : Prop extends Tx mg K w where
  n_dict : mg "dict" = none
abbrev N2__law_leaf : List Str := ["bag", "kept_v", "choice"]
abbrev P2__law_leaf : List Str := ["bag", "kept_v"]
abbrev N2__law_item : List Str := ["bag", "letter", "room", "depth", "kept_v", "many", "turn", "row", "k"]
abbrev P2__law_item : List Str := ["bag", "letter", "room", "depth", "kept_v"]
abbrev N2__law_expression : List Str := ["bag", "room", "depth", "kept_v", "shapes", "kind", "within", "row", "letter"]
abbrev P2__law_expression : List Str := ["bag", "room", "depth", "kept_v"]
abbrev N2__law_is_item : List Str := ["letter", "item", "room", "kept_v", "piece", "words", "low", "high"]
abbrev P2__law_is_item : List Str := ["letter", "item", "room", "kept_v"]
abbrev N2__law_is : List Str := ["tree", "room", "kept_v", "shapes", "kind", "k"]
abbrev P2__law_is : List Str := ["tree", "room", "kept_v"]
abbrev N_kept : List Str := ["value", "levels", "item", "key"]
abbrev P_kept : List Str := ["value", "levels"]
def b_kept_4 (t_kept_2 : DSp) : DS := sRet (dVar 0)
def b_kept_3 (t_kept_2 : DSp) : DS := sSeq (sIf (dB (dUn (oIs "dict") (dVar 0))) (sRet (dDc0 0)) (sNext)) (b_kept_4 t_kept_2)
def b_kept_2 (t_kept_2 : DSp) : DS := sSeq (sIf (dB (dUn (oIs "tuple") (dVar 0))) (sRet (dUn oTup (dComp (dOver (dVar 0)) [2] (dgN 2) (dtYes) (dCall (lo0 t_kept_2) [] (dCons (dVar 2) (dCons (dOp oSub (dVar 1) (dC (.int 1))) (dNil))))))) (sNext)) (b_kept_3 t_kept_2)
def b_kept_1 (t_kept_2 : DSp) : DS := sSeq (sIf (dB (dUn (oIs "list") (dVar 0))) (sRet (dComp (dOver (dVar 0)) [2] (dgN 2) (dtYes) (dCall (lo0 t_kept_2) [] (dCons (dVar 2) (dCons (dOp oSub (dVar 1) (dC (.int 1))) (dNil)))))) (sNext)) (b_kept_2 t_kept_2)
def b_kept (t_kept_2 : DSp) : DS := sSeq (sIf (dB (dOp (oEq false) (dVar 1) (dC (.int 0)))) (sRet (dVar 0)) (sNext)) (b_kept_1 t_kept_2)
abbrev N_frozen : List Str := ["value", "item"]
abbrev P_frozen : List Str := ["value"]
def b_frozen_1 (t_is_row t_frozen : DSp) : DS := sRet (dVar 0)
def b_frozen (t_is_row t_frozen : DSp) : DS := sSeq (sIf (dB (dCall (lo0 t_is_row) [] (dCons (dVar 0) (dNil)))) (sRet (dUn oTup (dComp (dOver (dVar 0)) [1] (dgN 1) (dtYes) (dCall (lo0 t_frozen) [] (dCons (dVar 1) (dNil)))))) (sNext)) (b_frozen_1 t_is_row t_frozen)
abbrev N_parts_of : List Str := ["expression", "parts", "kind", "thing"]
abbrev P_parts_of : List Str := ["expression"]
def b_parts_of_f0 : DS := sIf (dB (dOp (oEq false) (dVar 2) (dC (.str "part")))) (sApp 1 (dVar 3)) (sIf (dB (dUn (oKin false tROW_SIZES) (dVar 2))) (sExt 1 (dVar 3)) (sNext))
def b_parts_of_2 : DS := sFrz 1 (sRet (dVar 1))
def b_parts_of_1 : DS := sSeq (sFor (dZip (dUn (oKget tSHAPES) (dOp oIx (dVar 0) (dC (.int 0)))) (dSl (dVar 0) (dPart (dC (.int 1))) (dNoPart))) (dgTup 2 (dgCons (dgN 2) (dgCons (dgN 3) (dgNil)))) (b_parts_of_f0)) (b_parts_of_2)
def b_parts_of : DS := sSeq (sOwnL 1 (dNil)) (b_parts_of_1)
abbrev N_with_parts : List Str := ["expression", "parts", "built", "used", "kind", "thing"]
abbrev P_with_parts : List Str := ["expression", "parts"]
def b_with_parts_q0 : DS := sAug 3 (oI0 fun i j => i + j) (dC (.int 1))
def b_with_parts_q1 : DS := sAug 3 (oI0 fun i j => i + j) (dUn oLen (dVar 5))
def b_with_parts_f0 : DS := sIf (dB (dOp (oEq false) (dVar 4) (dC (.str "part")))) (sSeq (sApp 2 (dOp oIx (dVar 1) (dVar 3))) (b_with_parts_q0)) (sIf (dB (dUn (oKin false tROW_SIZES) (dVar 4))) (sSeq (sApp 2 (dUn oTup (dSl (dVar 1) (dPart (dVar 3)) (dPart (dOp oAdd (dVar 3) (dUn oLen (dVar 5))))))) (b_with_parts_q1)) (sApp 2 (dVar 5)))
def b_with_parts_3 : DS := sFrz 2 (sRet (dUn oTup (dVar 2)))
def b_with_parts_2 : DS := sSeq (sFor (dZip (dUn (oKget tSHAPES) (dOp oIx (dVar 0) (dC (.int 0)))) (dSl (dVar 0) (dPart (dC (.int 1))) (dNoPart))) (dgTup 2 (dgCons (dgN 4) (dgCons (dgN 5) (dgNil)))) (b_with_parts_f0)) (b_with_parts_3)
def b_with_parts_1 : DS := sSeq (sSet 3 (dC (.int 0))) (b_with_parts_2)
def b_with_parts : DS := sSeq (sOwnL 2 (dCons (dOp oIx (dVar 0) (dC (.int 0))) (dNil))) (b_with_parts_1)
abbrev N__law_frozen : List Str := ["tree", "item"]
abbrev P__law_frozen : List Str := ["tree"]
def b__law_frozen_1 (t__law_frozen : DSp) : DS := sRet (dVar 0)
def b__law_frozen (t__law_frozen : DSp) : DS := sSeq (sIf (dB (dUn (oIs2 "list" "tuple") (dVar 0))) (sRet (dUn oTup (dComp (dOver (dVar 0)) [1] (dgN 1) (dtYes) (dCall (lo0 t__law_frozen) [] (dCons (dVar 1) (dNil)))))) (sNext)) (b__law_frozen_1 t__law_frozen)
abbrev N__law_same : List Str := ["actual", "due", "k"]
abbrev P__law_same : List Str := ["actual", "due"]
def b__law_same_f0 (t__law_same : DSp) : DS := sIf (dNot (dB (dCall (lo0 t__law_same) [] (dCons (dOp oIx (dVar 0) (dVar 2)) (dCons (dOp oIx (dVar 1) (dVar 2)) (dNil)))))) (sRet (dC (.bool false))) (sNext)
def b__law_same_q0 (t__law_same : DSp) : DS := sRet (dC (.bool true))
def b__law_same_q1 (t__law_same : DSp) : DS := sSeq (sFor (dRng1 (dUn oLen (dVar 1))) (dgN 2) (b__law_same_f0 t__law_same)) (b__law_same_q0 t__law_same)
def b__law_same_2 (t__law_same : DSp) : DS := sRet (dAndV (dUn (oIs "int") (dVar 0)) (dAndV (dNotV (dUn (oIs "bool") (dVar 0))) (dOp (oEq false) (dVar 0) (dVar 1))))
def b__law_same_1 (t__law_same : DSp) : DS := sSeq (sIf (dB (dUn (oIs "str") (dVar 1))) (sRet (dAndV (dUn (oIs "str") (dVar 0)) (dOp (oEq false) (dVar 0) (dVar 1)))) (sNext)) (b__law_same_2 t__law_same)
def b__law_same (t__law_same : DSp) : DS := sSeq (sIf (dB (dUn (oIs "tuple") (dVar 1))) (sSeq (sIf (dOr (dNot (dB (dUn (oIs "tuple") (dVar 0)))) (dB (dOp (oEq true) (dUn oLen (dVar 0)) (dUn oLen (dVar 1))))) (sRet (dC (.bool false))) (sNext)) (b__law_same_q1 t__law_same)) (sNext)) (b__law_same_1 t__law_same)
abbrev N__law_reach : List Str := ["tree", "way", "at", "parts"]
abbrev P__law_reach : List Str := ["tree", "way"]
def b__law_reach_q0 (t__law_parts : DSp) : DS := sSet 0 (dOp oIx (dVar 3) (dVar 2))
def b__law_reach_q1 (t__law_parts : DSp) : DS := sSeq (sIf (dOr (dNot (dB (dUn (oIs "int") (dVar 2)))) (dOr (dB (dUn (oIs "bool") (dVar 2))) (dOr (dB (dOp oLt (dVar 2) (dC (.int 0)))) (dB (dOp oGe (dVar 2) (dUn oLen (dVar 3))))))) (sRet (dC .none)) (sNext)) (b__law_reach_q0 t__law_parts)
def b__law_reach_f0 (t__law_parts : DSp) : DS := sSeq (sSet 3 (dCall (lo0 t__law_parts) [] (dCons (dVar 0) (dNil)))) (b__law_reach_q1 t__law_parts)
def b__law_reach_2 (t__law_parts : DSp) : DS := sRet (dVar 0)
def b__law_reach_1 (t__law_parts : DSp) : DS := sSeq (sFor (dOver (dVar 1)) (dgN 2) (b__law_reach_f0 t__law_parts)) (b__law_reach_2 t__law_parts)
def b__law_reach (t__law_parts : DSp) : DS := sSeq (sIf (dNot (dB (dUn (oIs2 "list" "tuple") (dVar 1)))) (sRet (dC .none)) (sNext)) (b__law_reach_1 t__law_parts)
abbrev N__law_way : List Str := ["bag", "way", "choice", "odd", "at"]
abbrev P__law_way : List Str := ["bag", "way"]
def b__law_way_q0 (t__law_draw : DSp) : DS := sRet (dOp oAdd (dOp oAdd (dSl (dVar 1) (dNoPart) (dPart (dVar 4))) (dTup (dCons (dVar 3) (dNil)))) (dSl (dVar 1) (dPart (dOp oAdd (dVar 4) (dC (.int 1)))) (dNoPart)))
def b__law_way_5 (t__law_draw : DSp) : DS := sRet (dOp oAdd (dVar 1) (dTup (dCons (dVar 3) (dNil))))
def b__law_way_4 (t__law_draw : DSp) : DS := sSeq (sIf (dB (dOp (oEq false) (dVar 2) (dC (.int 5)))) (sRet (dOp oAdd (dVar 1) (dTup (dCons (dCall (lo0 t__law_draw) [] (dCons (dVar 0) (dCons (dC (.int 4)) (dNil)))) (dNil))))) (sNext)) (b__law_way_5 t__law_draw)
def b__law_way_3 (t__law_draw : DSp) : DS := sSeq (sIf (dAnd (dB (dOp oLt (dVar 2) (dC (.int 5)))) (dB (dOp oGt (dUn oLen (dVar 1)) (dC (.int 0))))) (sSeq (sSet 4 (dCall (lo0 t__law_draw) [] (dCons (dVar 0) (dCons (dUn oLen (dVar 1)) (dNil))))) (b__law_way_q0 t__law_draw)) (sNext)) (b__law_way_4 t__law_draw)
def b__law_way_2 (t__law_draw : DSp) : DS := sSeq (sIf (dB (dOp (oEq false) (dVar 2) (dC (.int 0)))) (sRet (dOp oIx (dLst (dCons (dC .none) (dCons (dC (.int 0)) (dCons (dC (.str "")) (dCons (dC (.dict [])) (dCons (dC (.bool true)) (dCons (dC (.str "0")) (dCons (dUn oNeg (dC (.int 1))) (dNil))))))))) (dCall (lo0 t__law_draw) [] (dCons (dVar 0) (dCons (dC (.int 7)) (dNil)))))) (sNext)) (b__law_way_3 t__law_draw)
def b__law_way_1 (t__law_draw : DSp) : DS := sSeq (sSet 3 (dOp oIx (dLst (dCons (dUn oNeg (dC (.int 1))) (dCons (dC (.bool true)) (dCons (dC (.bool false)) (dCons (dC .none) (dCons (dC (.str "0")) (dCons (dC (.int 4)) (dCons (dOp oPow (dC (.int 10)) (dC (.int 20))) (dCons (dTup (dCons (dC (.int 0)) (dNil))) (dCons (dC (.int 1)) (dNil))))))))))) (dCall (lo0 t__law_draw) [] (dCons (dVar 0) (dCons (dC (.int 9)) (dNil)))))) (b__law_way_2 t__law_draw)
def b__law_way (t__law_draw : DSp) : DS := sSeq (sSet 2 (dCall (lo0 t__law_draw) [] (dCons (dVar 0) (dCons (dC (.int 9)) (dNil))))) (b__law_way_1 t__law_draw)
abbrev N__law_due : List Str := ["tree", "way", "piece", "whole"]
abbrev P__law_due : List Str := ["tree", "way", "piece"]
def b__law_due_5 (t__law_is t__law_reach t__law_frozen t__law_with : DSp) : DS := sRet (dTup (dCons (dC (.str "gave")) (dCons (dVar 3) (dNil))))
def b__law_due_4 (t__law_is t__law_reach t__law_frozen t__law_with : DSp) : DS := sSeq (sIf (dNot (dB (dCall (lo0 t__law_is) [] (dCons (dVar 3) (dCons (dC (.int 8)) (dCons (dC (.bool false)) (dNil))))))) (sRet (dTup (dCons (dC (.str "expression")) (dCons (dC (.bool true)) (dNil))))) (sNext)) (b__law_due_5 t__law_is t__law_reach t__law_frozen t__law_with)
def b__law_due_3 (t__law_is t__law_reach t__law_frozen t__law_with : DSp) : DS := sSeq (sSet 3 (dCall (lo0 t__law_frozen) [] (dCons (dCall (lo0 t__law_with) [] (dCons (dVar 0) (dCons (dVar 1) (dCons (dVar 2) (dNil))))) (dNil)))) (b__law_due_4 t__law_is t__law_reach t__law_frozen t__law_with)
def b__law_due_2 (t__law_is t__law_reach t__law_frozen t__law_with : DSp) : DS := sSeq (sIf (dNot (dB (dCall (lo0 t__law_is) [] (dCons (dVar 2) (dCons (dC (.int 8)) (dCons (dC (.bool false)) (dNil))))))) (sRet (dTup (dCons (dC (.str "expression")) (dCons (dC (.bool true)) (dNil))))) (sNext)) (b__law_due_3 t__law_is t__law_reach t__law_frozen t__law_with)
def b__law_due_1 (t__law_is t__law_reach t__law_frozen t__law_with : DSp) : DS := sSeq (sIf (dB (dUn (oIsN false) (dCall (lo0 t__law_reach) [] (dCons (dVar 0) (dCons (dVar 1) (dNil)))))) (sRet (dTup (dCons (dC (.str "place")) (dCons (dUn oRepr (dVar 1)) (dCons (dC (.bool true)) (dNil)))))) (sNext)) (b__law_due_2 t__law_is t__law_reach t__law_frozen t__law_with)
def b__law_due (t__law_is t__law_reach t__law_frozen t__law_with : DSp) : DS := sSeq (sIf (dNot (dB (dCall (lo0 t__law_is) [] (dCons (dVar 0) (dCons (dC (.int 8)) (dCons (dC (.bool false)) (dNil))))))) (sRet (dTup (dCons (dC (.str "expression")) (dCons (dC (.bool true)) (dNil))))) (sNext)) (b__law_due_1 t__law_is t__law_reach t__law_frozen t__law_with)
abbrev N__law_agrees : List Str := ["told", "due"]
abbrev P__law_agrees : List Str := ["told", "due"]
def b__law_agrees_1 (t__law_same : DSp) : DS := sRet (dAndV (dOp (oEq false) (dUn oLen (dVar 0)) (dC (.int 2))) (dAndV (dOp (oEq false) (dOp oIx (dVar 0) (dC (.int 0))) (dC (.str "gave"))) (dCall (lo0 t__law_same) [] (dCons (dOp oIx (dVar 0) (dC (.int 1))) (dCons (dOp oIx (dVar 1) (dC (.int 1))) (dNil))))))
def b__law_agrees (t__law_same : DSp) : DS := sSeq (sIf (dB (dOp (oEq true) (dOp oIx (dVar 1) (dC (.int 0))) (dC (.str "gave")))) (sRet (dOp (oEq false) (dVar 0) (dVar 1))) (sNext)) (b__law_agrees_1 t__law_same)
def bo_parts_of_f0 : DS := sIf (dB (dOp (oEq false) (dVar 2) (dC (.str "part")))) (sApp 1 (dVar 3)) (sIf (dB (dUn (oKin false tROW_SIZES) (dVar 2))) (sExt 1 (dVar 3)) (sNext))
def bo_parts_of_2 : DS := sRet (dVar 1)
def bo_parts_of_1 : DS := sSeq (sFor (dZip (dUn (oKget tSHAPES) (dOp oIx (dVar 0) (dC (.int 0)))) (dSl (dVar 0) (dPart (dC (.int 1))) (dNoPart))) (dgTup 2 (dgCons (dgN 2) (dgCons (dgN 3) (dgNil)))) (bo_parts_of_f0)) (bo_parts_of_2)
def bo_parts_of : DS := sSeq (sOwnL 1 (dNil)) (bo_parts_of_1)
end K

set_option Elab.async false
set_option linter.all false
set_option maxRecDepth 100000
set_option maxHeartbeats 4000000
namespace K
open PySem PySem.Spec PyProof.Rows L2 DL

/-! ### promises by the kinds of their arguments -/
def p0 (f : (DV → Prop) → Prop) : DSp := fun as _ Q => match as with
  | [] => f Q
  | _ => False
def p1 (f : D → (DV → Prop) → Prop) : DSp := fun as _ Q => match as with
  | [.d a] => f a Q
  | _ => False
def p2 (f : D → D → (DV → Prop) → Prop) : DSp := fun as _ Q => match as with
  | [.d a, .d b] => f a b Q
  | _ => False
def p3 (f : D → D → D → (DV → Prop) → Prop) : DSp := fun as _ Q => match as with
  | [.d a, .d b, .d c] => f a b c Q
  | _ => False
def p4 (f : D → D → D → D → (DV → Prop) → Prop) : DSp := fun as _ Q => match as with
  | [.d a, .d b, .d c, .d d] => f a b c d Q
  | _ => False
def pB (f : (DV → Prop) → Prop) : DSp := fun as _ Q => match as with
  | [.bag] => f Q
  | _ => False
def pB1 (f : D → (DV → Prop) → Prop) : DSp := fun as _ Q => match as with
  | [.bag, .d a] => f a Q
  | _ => False
def pBR (f : D → D → (DV → Prop) → Prop) : DSp := fun as _ Q => match as with
  | [.bag, .room, .d a, .d b] => f a b Q
  | _ => False
def pBLR (f : D → D → D → (DV → Prop) → Prop) : DSp := fun as _ Q => match as with
  | [.bag, .d a, .room, .d b, .d c] => f a b c Q
  | _ => False
theorem p0_of {f : (DV → Prop) → Prop} {as Wd Q} (h : p0 f as Wd Q) : as = [] ∧ f Q := by
  unfold p0 at h
  split at h <;> first | exact h.elim | exact ⟨rfl, h⟩
theorem p1_of {f : D → (DV → Prop) → Prop} {as Wd Q} (h : p1 f as Wd Q) : ∃ a, as = [.d a] ∧ f a Q := by
  unfold p1 at h
  split at h <;> first | exact h.elim | exact ⟨_, rfl, h⟩
theorem p2_of {f : D → D → (DV → Prop) → Prop} {as Wd Q} (h : p2 f as Wd Q) : ∃ a b, as = [.d a, .d b] ∧ f a b Q := by
  unfold p2 at h
  split at h <;> first | exact h.elim | exact ⟨_, _, rfl, h⟩
theorem p3_of {f : D → D → D → (DV → Prop) → Prop} {as Wd Q} (h : p3 f as Wd Q) : ∃ a b c, as = [.d a, .d b, .d c] ∧ f a b c Q := by
  unfold p3 at h
  split at h <;> first | exact h.elim | exact ⟨_, _, _, rfl, h⟩
theorem p4_of {f : D → D → D → D → (DV → Prop) → Prop} {as Wd Q} (h : p4 f as Wd Q) : ∃ a b c d, as = [.d a, .d b, .d c, .d d] ∧ f a b c d Q := by
  unfold p4 at h
  split at h <;> first | exact h.elim | exact ⟨_, _, _, _, rfl, h⟩
theorem pB_of {f : (DV → Prop) → Prop} {as Wd Q} (h : pB f as Wd Q) : as = [.bag] ∧ f Q := by
  unfold pB at h
  split at h <;> first | exact h.elim | exact ⟨rfl, h⟩
theorem pB1_of {f : D → (DV → Prop) → Prop} {as Wd Q} (h : pB1 f as Wd Q) : ∃ a, as = [.bag, .d a] ∧ f a Q := by
  unfold pB1 at h
  split at h <;> first | exact h.elim | exact ⟨_, rfl, h⟩
theorem pBR_of {f : D → D → (DV → Prop) → Prop} {as Wd Q} (h : pBR f as Wd Q) : ∃ a b, as = [.bag, .room, .d a, .d b] ∧ f a b Q := by
  unfold pBR at h
  split at h <;> first | exact h.elim | exact ⟨_, _, rfl, h⟩
theorem pBLR_of {f : D → D → D → (DV → Prop) → Prop} {as Wd Q} (h : pBLR f as Wd Q) : ∃ a b c, as = [.bag, .d a, .room, .d b, .d c] ∧ f a b c Q := by
  unfold pBLR at h
  split at h <;> first | exact h.elim | exact ⟨_, _, _, rfl, h⟩

/-! ### the grammar -/
inductive Lt where
  | e | n | m | o | c | x | t | l | d | a
  deriving DecidableEq
def wordL : Lt → Str
  | .e => "part" | .n => "number" | .m => "most" | .o => "op" | .c => "test" | .x => "name" | .t => "text" | .l => "items" | .d => "steps" | .a => "handed"
def TB : List (Str × List Lt) := ("nothing", []) :: ("number", [.n]) :: ("text", [.t]) :: ("name", [.x]) :: ("list", [.l]) :: ("op", [.o, .e, .e]) :: ("test", [.c, .e, .e]) :: ("or", [.e, .e]) :: ("and", [.e, .e]) :: ("first", [.e]) :: ("no", [.e]) ::
  ("if", [.e, .e, .e]) :: ("most", [.m, .e]) :: ("again", [.e]) :: ("to", [.e, .e]) :: ("items", [.e]) :: ("give", [.x, .e]) :: ("lend", [.x, .e]) :: ("every", [.e, .e]) :: ("while", [.e, .e]) :: ("do", [.d]) :: ("call", [.e, .a]) :: ("back", [.e]) :: ("out", [.e]) ::
  ("fall", []) :: ("keep", [.e]) :: ("ask", [.e]) :: ("anew", [.e]) :: ("scan", [.e, .e]) :: ("move", [.e]) :: ("tab", [.e]) :: ("find", [.e]) :: ("reach", [.e]) :: ("many", [.e]) :: ("match", [.e]) :: ("here", []) :: ("put", [.e, .e]) :: ("take", [.e]) :: ("size", [.e]) ::
  ("at", [.e, .e]) :: ("place", [.e, .e, .e]) :: ("say", [.e]) :: []
def shp (z : Str) : Option (List Lt) := TB.lookup z
def wordsOf (ls : List Lt) : List D := ls.map fun l => .str (wordL l)
theorem shapes_eq : tSHAPES = TB.map fun p => (p.1, .tuple (wordsOf p.2)) := by rfl
theorem lookup_map {α β : Type} (f : α → β) (z : Str) : ∀ l : List (Str × α), (l.map fun p => (p.1, f p.2)).lookup z = (l.lookup z).map f
  | [] => rfl
  | (k, v) :: r => by
    rw [List.map_cons, List.lookup_cons, List.lookup_cons]
    cases z == k with
    | true => rfl
    | false => exact lookup_map f z r
theorem shapes_look (z : Str) : tSHAPES.lookup z = (shp z).map fun ls => .tuple (wordsOf ls) := by
  rw [shapes_eq]
  exact lookup_map (fun ls => PyData.tuple (wordsOf ls)) z TB
/-! data that is short enough -/
mutual
def fineD : D → Bool
  | .str s => decide (s.length ≤ 1000) && okS s
  | .list xs => decide (xs.length ≤ 1000) && fineAll xs
  | .tuple xs => decide (xs.length ≤ 1000) && fineAll xs
  | .dict kvs => decide (kvs.length ≤ 1000) && fineKv kvs
  | .int i => decide (i.natAbs ≤ 1000000000)
  | _ => true
def fineAll : List D → Bool
  | [] => true
  | d :: r => fineD d && fineAll r
def fineKv : List (D × D) → Bool
  | [] => true
  | (k, d) :: r => ((asKey k).isSome && fineD k) && (fineD d && fineKv r)
end
theorem fineAll_eq : ∀ xs : List D, fineAll xs = xs.all fineD
  | [] => rfl
  | x :: r => by
    rw [fineAll, List.all_cons, fineAll_eq r]
theorem fine_str {s : Str} (h : fineD (.str s) = true) : s.length ≤ sizeLine := by
  rw [fineD, Bool.and_eq_true] at h
  exact le_sz (of_decide_eq_true h.1)
theorem fine_row {v : D} (h : fineD v = true) : (rowOf v).length ≤ 1000 ∧ ∀ d ∈ rowOf v, fineD d = true := by
  cases v with
  | list xs =>
    rw [fineD, Bool.and_eq_true, fineAll_eq] at h
    exact ⟨of_decide_eq_true h.1, fun d hd => List.all_eq_true.mp h.2 d hd⟩
  | tuple xs =>
    rw [fineD, Bool.and_eq_true, fineAll_eq] at h
    exact ⟨of_decide_eq_true h.1, fun d hd => List.all_eq_true.mp h.2 d hd⟩
  | _ => exact ⟨Nat.zero_le _, fun d hd => nomatch hd⟩
/-! leaves -/
def letC (c : Nat) : Bool := decide (97 ≤ c) && decide (c ≤ 122)
def sgnC (c : Nat) : Bool := (decide (32 ≤ c) && decide (c ≤ 126)) && (c != 39 && c != 37)
def wordsW : List D := match cWORDS with
  | .tuple xs => xs
  | _ => []
def isIntD : D → Bool
  | .int _ => true
  | _ => false
def isIntR (lo hi : Int) : D → Bool
  | .int i => decide (lo ≤ i) && decide (i ≤ hi)
  | _ => false
def isNameD : D → Bool
  | .str s => (decide (1 ≤ s.length) && decide (s.length ≤ 8)) && (!inD (.str s) wordsW && s.cps.toList.all letC)
  | _ => false
def isTextD : D → Bool
  | .str s => decide (s.length ≤ 20) && s.cps.toList.all sgnC
  | _ => false
def isInD (xs : List D) : D → Bool
  | .str s => inD (.str s) xs
  | _ => false
def opsW : List D := [.str "+", .str "-", .str "*", .str "/", .str "mod", .str "."]
def testsW : List D := [.str "<", .str "<=", .str "=", .str "<>", .str "is", .str "isnt"]
def leafM : Lt → D → Bool
  | .n => isIntR (-999) 999
  | .m => isIntR 0 20
  | .x => isNameD
  | .t => isTextD
  | .o => isInD opsW
  | .c => isInD testsW
  | _ => fun _ => false
/-- the sizes of a row of parts -/
def sizeL : Lt → Nat × Nat
  | .l => (0, 4)
  | .d => (1, 6)
  | .a => (0, 3)
  | _ => (0, 0)
def isRowL : Lt → Bool
  | .l => true
  | .d => true
  | .a => true
  | _ => false
def rowFitM (l : Lt) (v : D) : Bool := isRow v && (decide ((sizeL l).1 ≤ (rowOf v).length) && decide ((rowOf v).length ≤ (sizeL l).2))
def itemM (f : D → Bool) (l : Lt) (v : D) : Bool := if l = .e then f v else if isRowL l = true then rowFitM l v && (rowOf v).all f else leafM l v
def allZ (f : D → Bool) : List Lt → List D → Bool
  | l :: ls, x :: xs => itemM f l x && allZ f ls xs
  | _, _ => true
/-- the word and the items of a row that has a shape -/
def shape (v : D) : Option (Str × List Lt × List D) := if isRow v = true then match rowOf v with
    | .str w :: items => match shp w with
      | some ls => if items.length = ls.length then some (w, ls, items) else none
      | none => none
    | _ => none
  else none
def leaveW : List D := [.str "back", .str "out", .str "fall"]
def fitsM : Nat → Bool → D → Bool
  | 0 => fun _ _ => false
  | n + 1 => fun kept v => match shape v with
    | some (w, ls, items) => !(kept && inD (.str w) leaveW) && allZ (fitsM n (kept || w == "keep")) ls items
    | none => false

/-! ### the program's defs -/
def t_is_row : DSp := p1 fun v Q => Q (.d (.bool (isRow v)))
theorem m_is_row : Body 1 b_is_row t_is_row := by
  intro as Wd Qd h
  obtain ⟨v, rfl, h⟩ := p1_of h
  refine ⟨trivial, ?_⟩
  show Qd (.d (.bool (isT "list" v || isT "tuple" v)))
  rw [isRow_T]
  exact h
def t_is_integer : DSp := p1 fun v Q => Q (.d (.bool (isIntD v)))
theorem m_is_integer : Body 1 b_is_integer t_is_integer := by
  intro as Wd Qd h
  obtain ⟨v, rfl, h⟩ := p1_of h
  cases v <;> exact ⟨trivial, h⟩
theorem lt_one (a b : Nat) : ltS ⟨#[a]⟩ ⟨#[b]⟩ = decide (a < b) := by
  unfold ltS
  by_cases h : a < b
  · rw [decide_eq_true h]
    exact decide_eq_true (List.Lex.rel h)
  · rw [decide_eq_false h]
    refine decide_eq_false fun q => ?_
    cases q with
    | rel q => exact h q
    | cons q => cases q
theorem nlt_one (a b : Nat) : (!ltS ⟨#[a]⟩ ⟨#[b]⟩) = decide (b ≤ a) := by
  rw [lt_one]
  by_cases h : a < b
  · rw [decide_eq_true h, decide_eq_false (by omega)] <;> rfl
  · rw [decide_eq_false h, decide_eq_true (by omega)] <;> rfl
def t_is_letter : DSp := p1 fun v Q => match v with
  | .str ⟨⟨[c]⟩⟩ => Q (.d (.bool (letC c)))
  | _ => False
theorem m_is_letter : Body 1 b_is_letter t_is_letter := by
  intro as Wd Qd h
  obtain ⟨v, rfl, q⟩ := p1_of h
  clear h
  split at q
  · rename_i c
    refine ⟨trivial, ?_⟩
    show if (!ltS ⟨#[c]⟩ ⟨#[97]⟩) = true then _ else _
    rw [nlt_one]
    unfold letC at q
    refine ifB (fun e => ⟨trivial, ?_⟩) fun e => ⟨trivial, ?_⟩
    · rw [e, Bool.true_and] at q
      show Qd (.d (.bool (!ltS ⟨#[122]⟩ ⟨#[c]⟩)))
      rw [nlt_one]
      exact q
    · rw [e, Bool.false_and] at q
      exact q
  · exact q.elim
theorem str1_eq (a b : Nat) : ((⟨#[a]⟩ : Str) == ⟨#[b]⟩) = (a == b) := by
  by_cases h : a = b
  · subst h
    simp
  · rw [beq_eq_false_iff_ne.mpr h, beq_eq_false_iff_ne.mpr]
    intro e
    have e1 : #[a] = #[b] := congrArg Str.cps e
    exact h (by simpa using e1)
theorem int_beq (a b : Int) : (false != (a == b)) = decide (a = b) := by
  by_cases h : a = b
  · subst h; simp
  · rw [beq_eq_false_iff_ne.mpr h, decide_eq_false h] <;> rfl
def t_is_text_sign : DSp := p1 fun v Q => match v with
  | .str ⟨⟨[c]⟩⟩ => Q (.d (.bool (sgnC c)))
  | _ => False
theorem m_is_text_sign : Body 1 b_is_text_sign t_is_text_sign := by
  intro as Wd Qd h
  obtain ⟨v, rfl, q⟩ := p1_of h
  clear h
  split at q
  · rename_i c
    unfold sgnC at q
    refine ⟨trivial, ?_⟩
    show if (!ltS ⟨#[c]⟩ ⟨#[32]⟩) = true then _ else _
    rw [nlt_one]
    refine ifB (fun e => ?_) fun e => ?_
    · rw [e, Bool.true_and] at q
      show if (!ltS ⟨#[126]⟩ ⟨#[c]⟩) = true then _ else _
      rw [nlt_one]
      refine ifB (fun e2 => ?_) fun e2 => ⟨trivial, ?_⟩
      · rw [e2, Bool.true_and] at q
        show if (!((⟨#[c]⟩ : Str) == ⟨#[39]⟩)) = true then _ else _
        rw [str1_eq]
        refine ifB (fun e3 => ⟨rfl, trivial, ?_⟩) fun e3 => ⟨trivial, ?_⟩
        · have e4 : (c != 39) = true := e3
          rw [e4, Bool.true_and] at q
          show Qd (.d (.bool (!(((c : Nat) : Int) == 37))))
          have e5 : (!(((c : Nat) : Int) == 37)) = (c != 37) := by
            show _ = !(c == 37)
            congr 1
            by_cases hc : c = 37
            · subst hc; rfl
            · rw [beq_eq_false_iff_ne.mpr hc, beq_eq_false_iff_ne.mpr (by omega)]
          rw [e5]
          exact q
        · have e4 : (c != 39) = false := e3
          rw [e4, Bool.false_and] at q
          exact q
      · rw [e2, Bool.false_and] at q
        exact q
    · rw [e, Bool.false_and, Bool.false_and] at q
      exact ⟨trivial, q⟩
  · exact q.elim
/-! all signs of a text -/
theorem blsD_map' {α : Type} (f : α → Bool) (xs : List α) : blsD (xs.map fun x => .bool (f x)) = some (xs.map f) := by
  have := blsD_map (xs.map f)
  rwa [List.map_map] at this
theorem all_id {α : Type} (f : α → Bool) (xs : List α) : (xs.map f).all id = xs.all f := by
  rw [List.all_map] <;> rfl
/-- all([f(sign) for sign in s]) -/
theorem all_signs {Q : DV → Prop} {s : Str} {f : Nat → Bool} {g : D → D} (hg : ∀ c, g (.str ⟨#[c]⟩) = .bool (f c)) (h : Q (.d (.bool (s.cps.toList.all f)))) : oAll (.d (.list ((signsD s).map g))) Q := by
  refine ⟨s.cps.toList.map f, ?_, by rw [all_id]; exact h⟩
  unfold signsD
  rw [List.map_map]
  have e : (g ∘ fun c => PyData.str ⟨#[c]⟩) = fun c => .bool (f c) := funext fun c => hg c
  rw [e, blsD_map']
def t_is_name : DSp := p1 fun v Q => fineD v = true ∧ Q (.d (.bool (isNameD v)))
theorem words_flat : wordsW.all flatD = true := by rfl
theorem signs_len (s : Str) : (signsD s).length = s.length := by simp [signsD, Str.length]
theorem mem_signs {s : Str} {d : D} (h : d ∈ signsD s) : ∃ c, d = .str ⟨#[c]⟩ := by
  obtain ⟨c, _, rfl⟩ := List.mem_map.mp h
  exact ⟨c, rfl⟩
def signF (f : Nat → Bool) : D → D
  | .str ⟨⟨[c]⟩⟩ => .bool (f c)
  | _ => .none
theorem m_is_name : Body 2 (b_is_name t_is_letter) t_is_name := by
  intro as Wd Qd h
  obtain ⟨v, rfl, hf, q⟩ := p1_of h
  clear h
  have no : isNameD v = false → Qd (.d (.bool false)) := fun e => by rw [e] at q; exact q
  cases v with
  | str s =>
    have hz := fine_str hf
    refine ⟨hz, trivial, ?_⟩
    refine ifB (fun e1 => ?_) fun e1 => ?_
    · have h1 : 1 ≤ s.length := by have := of_decide_eq_true e1; omega
      refine ifB (fun e2 => ?_) fun e2 => ?_
      · refine ⟨trivial, no ?_⟩
        have h2 : ¬ s.length ≤ 8 := fun z => by
          exact dec_t e2 (by show ((s.length : Nat) : Int) ≤ 8; omega)
        show ((decide (1 ≤ s.length) && decide (s.length ≤ 8)) && _) = false
        rw [decide_eq_false h2, Bool.and_false, Bool.false_and]
      · have h2 : s.length ≤ 8 := by
          have h3 : ((s.length : Nat) : Int) ≤ 8 := dec_f e2
          omega
        have q2 : Qd (.d (.bool (!inD (.str s) wordsW && s.cps.toList.all letC))) := by
          have e : isNameD (.str s) = (!inD (.str s) wordsW && s.cps.toList.all letC) := by
            show ((decide (1 ≤ s.length) && decide (s.length ≤ 8)) && _) = _
            rw [decide_eq_true h1, decide_eq_true h2] <;> rfl
          rw [e] at q
          exact q
        refine ⟨⟨rfl, words_flat⟩, ?_⟩
        refine ifB (fun e3 => ?_) fun e3 => ?_
        · rw [show (!inD (.str s) wordsW) = true from e3, Bool.true_and] at q2
          refine ⟨by rw [signs_len]; exact Nat.lt_of_le_of_lt h2 (by decide), ?_⟩
          refine dMap_fn (signF letC) (fun d hd Q' hq => ?_) (all_signs (g := signF letC) (fun c => rfl) ⟨trivial, q2⟩)
          obtain ⟨c, rfl⟩ := mem_signs hd
          exact ⟨trivial, fun _ => hq⟩
        · rw [show (!inD (.str s) wordsW) = false from e3, Bool.false_and] at q2
          exact ⟨trivial, q2⟩
    · refine ⟨trivial, no ?_⟩
      have h1 : ¬ 1 ≤ s.length := fun z => of_decide_eq_false e1 (by omega)
      show ((decide (1 ≤ s.length) && decide (s.length ≤ 8)) && _) = false
      rw [decide_eq_false h1, Bool.false_and, Bool.false_and]
  | _ => exact ⟨trivial, no rfl⟩
def t_is_text : DSp := p1 fun v Q => fineD v = true ∧ Q (.d (.bool (isTextD v)))
theorem m_is_text : Body 2 (b_is_text t_is_text_sign) t_is_text := by
  intro as Wd Qd h
  obtain ⟨v, rfl, hf, q⟩ := p1_of h
  clear h
  have no : isTextD v = false → Qd (.d (.bool false)) := fun e => by rw [e] at q; exact q
  cases v with
  | str s =>
    refine ⟨fine_str hf, ?_⟩
    refine ifB (fun e => ?_) fun e => ?_
    · refine ⟨trivial, no ?_⟩
      have h2 : (20 : Int) < ((s.length : Nat) : Int) := of_decide_eq_true e
      show (decide (s.length ≤ 20) && _) = false
      rw [decide_eq_false (by omega), Bool.false_and]
    · have h3 : ¬ (20 : Int) < ((s.length : Nat) : Int) := of_decide_eq_false e
      have h2 : s.length ≤ 20 := by omega
      have q2 : Qd (.d (.bool (s.cps.toList.all sgnC))) := by
        have e : isTextD (.str s) = s.cps.toList.all sgnC := by
          show (decide (s.length ≤ 20) && _) = _
          rw [decide_eq_true h2] <;> rfl
        rw [e] at q
        exact q
      refine ⟨by rw [signs_len]; exact Nat.lt_of_le_of_lt h2 (by decide), ?_⟩
      refine dMap_fn (signF sgnC) (fun d hd Q' hq => ?_) (all_signs (g := signF sgnC) (fun c => rfl) ⟨trivial, q2⟩)
      obtain ⟨c, rfl⟩ := mem_signs hd
      exact ⟨trivial, fun _ => hq⟩
  | _ => exact ⟨trivial, no rfl⟩
/-! one field -/
def isLeafL : Lt → Bool
  | .n => true
  | .m => true
  | .x => true
  | .t => true
  | .o => true
  | .c => true
  | _ => false
def t_field_fits : DSp := p2 fun k v Q => ∃ l, k = .str (wordL l) ∧ isLeafL l = true ∧ fineD v = true ∧ Q (.d (.bool (leafM l v)))
theorem and_int (lo hi i : Int) : (decide (lo ≤ i) && decide (i ≤ hi)) = isIntR lo hi (.int i) := rfl
theorem m_field_fits : Body 3 (b_field_fits t_is_integer t_is_text t_is_name) t_field_fits := by
  intro as Wd Qd h
  obtain ⟨kk, v, rfl, l, rfl, hl, hf, q⟩ := p2_of h
  clear h
  cases l with
  | n =>
    refine ⟨trivial, fun _ => ?_⟩
    cases v with
    | int i =>
      refine ⟨trivial, ?_⟩
      refine ifB (fun e => ⟨trivial, ?_⟩) fun e => ⟨trivial, ?_⟩
      · have e1 : decide ((-999 : Int) ≤ i) = true := e
        have e2 : leafM .n (.int i) = decide (i ≤ 999) := by
          show (decide ((-999 : Int) ≤ i) && decide (i ≤ 999)) = _
          rw [e1, Bool.true_and]
        rw [e2] at q
        exact q
      · have e1 : decide ((-999 : Int) ≤ i) = false := e
        have e2 : leafM .n (.int i) = false := by
          show (decide ((-999 : Int) ≤ i) && decide (i ≤ 999)) = _
          rw [e1, Bool.false_and]
        rw [e2] at q
        exact q
    | _ => exact ⟨trivial, q⟩
  | m =>
    refine ⟨trivial, fun _ => ?_⟩
    cases v with
    | int i =>
      refine ⟨trivial, ?_⟩
      refine ifB (fun e => ⟨trivial, ?_⟩) fun e => ⟨trivial, ?_⟩
      · have e1 : decide ((0 : Int) ≤ i) = true := e
        have e2 : leafM .m (.int i) = decide (i ≤ 20) := by
          show (decide ((0 : Int) ≤ i) && decide (i ≤ 20)) = _
          rw [e1, Bool.true_and]
        rw [e2] at q
        exact q
      · have e1 : decide ((0 : Int) ≤ i) = false := e
        have e2 : leafM .m (.int i) = false := by
          show (decide ((0 : Int) ≤ i) && decide (i ≤ 20)) = _
          rw [e1, Bool.false_and]
        rw [e2] at q
        exact q
    | _ => exact ⟨trivial, q⟩
  | t => exact ⟨trivial, hf, fun _ => ⟨trivial, q⟩⟩
  | x => exact ⟨trivial, hf, fun _ => ⟨trivial, q⟩⟩
  | o =>
    refine ⟨trivial, ?_⟩
    cases v with
    | str s => exact ⟨⟨rfl, rfl⟩, trivial, q⟩
    | _ => exact ⟨trivial, q⟩
  | c =>
    refine ⟨trivial, ?_⟩
    cases v with
    | str s => exact ⟨⟨rfl, rfl⟩, trivial, q⟩
    | _ => exact ⟨trivial, q⟩
  | _ => cases hl
def t_row_fits : DSp := p2 fun k v Q => ∃ l, k = .str (wordL l) ∧ isRowL l = true ∧ fineD v = true ∧ Q (.d (.bool (rowFitM l v)))
theorem m_row_fits : Body 4 (b_row_fits t_is_row) t_row_fits := by
  intro as Wd Qd h
  obtain ⟨kk, v, rfl, l, rfl, hl, hf, q⟩ := p2_of h
  clear h
  have key : ∀ a b : Int, a = ((sizeL l).1 : Nat) → b = ((sizeL l).2 : Nat) → ∀ n : Nat, n = (rowOf v).length → isRow v = true → Qd (.d (.bool (decide (a ≤ (n : Int)) && decide ((n : Int) ≤ b)))) := fun a b ha hb n hn hr => by
    have e : rowFitM l v = (decide (a ≤ (n : Int)) && decide ((n : Int) ≤ b)) := by
      unfold rowFitM
      rw [hr, Bool.true_and, ← hn, ha, hb]
      congr 1
      · by_cases z : (sizeL l).1 ≤ n
        · rw [decide_eq_true z, decide_eq_true (by omega)]
        · rw [decide_eq_false z, decide_eq_false (by omega)]
      · by_cases z : n ≤ (sizeL l).2
        · rw [decide_eq_true z, decide_eq_true (by omega)]
        · rw [decide_eq_false z, decide_eq_false (by omega)]
    rw [← e]
    exact q
  have no : isRow v = false → Qd (.d (.bool false)) := fun e => by
    have e2 : rowFitM l v = false := by
      unfold rowFitM
      rw [e, Bool.false_and]
    rw [e2] at q
    exact q
  have fin : ∀ a b : Int, a = ((sizeL l).1 : Nat) → b = ((sizeL l).2 : Nat) → dAndV (dCall (lo0 t_is_row) [] (dCons (dVar 1) dNil)) (dChain oLe oLe (dVar 2) (dUn oLen (dVar 1)) (dVar 3)) (fun x _ => Wd x) [some (.d (.str (wordL l))), some (.d v), some (.d (.int a)), some (.d (.int b))] (fun x => nown x ∧ Qd x) := fun a b ha hb => by
    refine ⟨trivial, fun _ => ?_⟩
    cases v with
    | list xs =>
      have k := key a b ha hb xs.length rfl rfl
      refine ⟨trivial, ?_⟩
      refine ifB (fun e => ⟨trivial, ?_⟩) fun e => ⟨trivial, ?_⟩
      · rw [show decide (a ≤ (xs.length : Int)) = true from e, Bool.true_and] at k
        exact k
      · rw [show decide (a ≤ (xs.length : Int)) = false from e, Bool.false_and] at k
        exact k
    | tuple xs =>
      have k := key a b ha hb xs.length rfl rfl
      refine ⟨trivial, ?_⟩
      refine ifB (fun e => ⟨trivial, ?_⟩) fun e => ⟨trivial, ?_⟩
      · rw [show decide (a ≤ (xs.length : Int)) = true from e, Bool.true_and] at k
        exact k
      · rw [show decide (a ≤ (xs.length : Int)) = false from e, Bool.false_and] at k
        exact k
    | _ => exact ⟨trivial, no rfl⟩
  cases l with
  | l =>
    refine oKget_some (by rfl) ?_
    exact ⟨rfl, rfl, fin 0 4 rfl rfl⟩
  | d =>
    refine oKget_some (by rfl) ?_
    exact ⟨rfl, rfl, fin 1 6 rfl rfl⟩
  | a =>
    refine oKget_some (by rfl) ?_
    exact ⟨rfl, rfl, fin 0 3 rfl rfl⟩
  | _ => cases hl
def t_has_shape : DSp := p1 fun v Q => fineD v = true ∧ Q (.d (.bool (shape v).isSome))
theorem words_len (ls : List Lt) : (wordsOf ls).length = ls.length := by simp [wordsOf]
theorem isSome_tuple {o : Option (List Lt)} : (o.map fun ls => PyData.tuple (wordsOf ls)).isSome = o.isSome := by cases o <;> rfl
theorem shape_row {v : D} {w : Str} {r : List D} (h : isRow v = true) (e : rowOf v = .str w :: r) : shape v = match shp w with
    | some ls => if r.length = ls.length then some (w, ls, r) else none
    | none => none := by
  unfold shape
  rw [if_pos h, e]
theorem m_has_shape : Body 2 (b_has_shape t_is_row) t_has_shape := by
  intro as Wd Qd h
  obtain ⟨v, rfl, hf, q⟩ := p1_of h
  clear h
  have no : (shape v).isSome = false → Qd (.d (.bool false)) := fun e => by rw [e] at q; exact q
  cases v
  case list xs | tuple xs =>
    refine ⟨trivial, fun _ => ?_⟩
    refine ifB (fun e => ⟨trivial, no ?_⟩) fun e => ?_
    · have e1 : (((xs.length : Nat) : Int) == 0) = true := e
      have e2 : xs.length = 0 := by have := eq_of_beq e1; omega
      rw [List.length_eq_zero_iff.mp e2] <;> rfl
    · cases xs with
      | nil => exact absurd e (by decide)
      | cons x r =>
        first
          | refine oIx_at (Int.le_refl 0) (by rfl) ?_
          | refine oIx_tup (Int.le_refl 0) (by rfl) ?_
        refine ⟨trivial, ?_⟩
        cases x with
        | str w =>
          refine oKin_is (b := (shp w).isSome) (by rw [shapes_look, isSome_tuple]) ?_
          cases hs : shp w with
          | none =>
            refine ⟨trivial, no ?_⟩
            rw [shape_row rfl rfl, hs] <;> rfl
          | some ls =>
            refine oKget_some (by rw [shapes_look, hs] <;> rfl) ?_
            refine ⟨trivial, ?_⟩
            have hl : (((((PyData.str w :: r).length : Nat) : Int)) == (((wordsOf ls).length : Nat) : Int) + 1) = decide (r.length = ls.length) := by
              rw [words_len, List.length_cons]
              by_cases z : r.length = ls.length
              · rw [z, decide_eq_true rfl]
                exact beq_iff_eq.mpr (by omega)
              · rw [decide_eq_false z]
                exact beq_eq_false_iff_ne.mpr (by omega)
            show Qd (.d (.bool (((((PyData.str w :: r).length : Nat) : Int)) == (((wordsOf ls).length : Nat) : Int) + 1)))
            rw [hl]
            rw [shape_row rfl rfl, hs] at q
            by_cases z : r.length = ls.length
            · rw [decide_eq_true z]
              simp only [if_pos z] at q
              exact q
            · rw [decide_eq_false z]
              simp only [if_neg z] at q
              exact q
        | _ => exact ⟨trivial, no rfl⟩
  all_goals exact ⟨trivial, fun _ => ⟨trivial, no rfl⟩⟩
theorem shape_some {v : D} {w : Str} {ls : List Lt} {items : List D} (h : shape v = some (w, ls, items)) : isRow v = true ∧ rowOf v = .str w :: items ∧ shp w = some ls ∧ items.length = ls.length := by
  unfold shape at h
  split at h
  · rename_i hr
    split at h
    · rename_i w' r e
      split at h
      · rename_i ls' e2
        split at h
        · rename_i hl
          cases h
          exact ⟨hr, e, e2, hl⟩
        · cases h
      · cases h
    · cases h
  · cases h
theorem row_of {v : D} {xs : List D} (h : isRow v = true) (e : rowOf v = xs) : ∃ b, v = mkRow b xs := by
  cases v with
  | list ys =>
    have e1 : ys = xs := e
    exact ⟨true, by rw [← e1] <;> rfl⟩
  | tuple ys =>
    have e1 : ys = xs := e
    exact ⟨false, by rw [← e1] <;> rfl⟩
  | _ => cases h
theorem cutD_1 (x : D) (xs : List D) : DL.cutD (x :: xs) (some 1) none = xs := by
  unfold DL.cutD
  rw [show HT.sIx (x :: xs).length 0 (some 1) = min 1 (x :: xs).length from HT.sIx_nat _ 0 1, HT.sIx_none]
  rw [show min 1 (x :: xs).length = 1 by rw [List.length_cons]; omega]
  rw [List.drop_succ_cons, List.drop_zero, List.length_cons, Nat.add_sub_cancel, List.take_length]
def allLt : List Lt := [.e, .n, .m, .o, .c, .x, .t, .l, .d, .a]
def pz (f : D → Bool) : D → Bool
  | .tuple [.str k, x] => match allLt.find? fun l => wordL l == k with
    | some l => itemM f l x
    | none => false
  | _ => false
theorem pz_at (f : D → Bool) (l : Lt) (x : D) : pz f (.tuple [.str (wordL l), x]) = itemM f l x := by cases l <;> rfl
theorem all_zip (f : D → Bool) : ∀ (ls : List Lt) (xs : List D), (zipD (wordsOf ls) xs).all (pz f) = allZ f ls xs
  | [], xs => by cases xs <;> rfl
  | l :: ls, [] => rfl
  | l :: ls, x :: xs => by
    show (pz f (.tuple [.str (wordL l), x]) && (zipD (wordsOf ls) xs).all (pz f)) = _
    rw [pz_at, all_zip f ls xs] <;> rfl
theorem mem_zip : ∀ {ls : List Lt} {xs : List D} {d : D}, d ∈ zipD (wordsOf ls) xs → ∃ l x, d = .tuple [.str (wordL l), x] ∧ x ∈ xs
  | [], xs, d, h => by cases xs <;> cases h
  | l :: ls, [], d, h => by cases h
  | l :: ls, x :: xs, d, h => by
    rcases List.mem_cons.mp (show d ∈ PyData.tuple [.str (wordL l), x] :: zipD (wordsOf ls) xs from h) with rfl | h
    · exact ⟨l, x, rfl, List.mem_cons_self ..⟩
    · obtain ⟨l', x', e, hx⟩ := mem_zip h
      exact ⟨l', x', e, List.mem_cons_of_mem _ hx⟩
/-- all([f(part) for part in row]) -/
theorem all_parts {Q : DV → Prop} {xs : List D} {f : D → Bool} (h : Q (.d (.bool (xs.all f)))) : oAll (.d (.list (xs.map fun x => .bool (f x)))) Q :=
  ⟨xs.map f, blsD_map' f xs, by rw [all_id]; exact h⟩
def t_fits (n : Nat) : DSp := p3 fun v dep kept Q => ∃ (k : Nat) (b : Bool), dep = .int (k : Nat) ∧ k ≤ n ∧ kept = .bool b ∧ fineD v = true ∧ Q (.d (.bool (fitsM k b v)))
theorem fitsM_succ (k : Nat) (b : Bool) (v : D) : fitsM (k + 1) b v = match shape v with
    | some (w, ls, items) => !(b && inD (.str w) leaveW) && allZ (fitsM k (b || w == "keep")) ls items
    | none => false := rfl
theorem oSl_row {b : Bool} {xs : List D} {lo hi : Option Int} {Q : DV → Prop} (h : Q (.d (mkRow b (DL.cutD xs lo hi)))) : oSl (.d (mkRow b xs)) lo hi Q := by
  cases b <;> exact h
theorem itemM_leaf {f : D → Bool} {l : Lt} {x : D} (h : isLeafL l = true) : itemM f l x = leafM l x := by
  cases l <;> first | exact absurd h (by decide) | simp [itemM, isRowL]
theorem itemM_row {f : D → Bool} {l : Lt} {x : D} (h : isRowL l = true) : itemM f l x = (rowFitM l x && (rowOf x).all f) := by
  cases l <;> first | exact absurd h (by decide) | simp [itemM, isRowL]
theorem itemM_e {f : D → Bool} {x : D} : itemM f .e x = f x := by simp [itemM]
abbrev dE (Wd : XD → Prop) (Qd : DV → Prop) : DEnds := { nx := fun _ => Qd (.d .none), rt := fun x => nown x ∧ Qd x, bk := fun _ => False, ct := fun _ => False, ex := fun x _ => Wd x }
theorem m_fits_loop {n k : Nat} {b2 : Bool} (hk : k ≤ n) {v w : D} {Wd : XD → Prop} {Qd : DV → Prop} {ls : List Lt} {items : List D} (hf : ∀ x ∈ items, fineD x = true) (q : Qd (.d (.bool (allZ (fitsM k b2) ls items)))) :
    dLoop (dgTup 2 (dgCons (dgN 4) (dgCons (dgN 5) (dgNil)))) (b_fits_f0 t_has_shape (t_fits n) t_row_fits t_field_fits) { dE Wd Qd with nx := b_fits_5 t_has_shape (t_fits n) t_row_fits t_field_fits (dE Wd Qd) } (zipD (wordsOf ls) items)
      [some (.d v), some (.d (.int ((k + 1 : Nat) : Int))), some (.d (.bool b2)), some (.d w), none, none, none, none] := by
  refine dLoop_all (p := pz (fitsM k b2)) (F := Qd (.d (.bool false))) (fun ρ => ∃ x4 x5 x6 x7, ρ = [some (.d v), some (.d (.int ((k + 1 : Nat) : Int))), some (.d (.bool b2)), some (.d w), x4, x5, x6, x7]) _ _ ⟨_, _, _, _, rfl⟩ ?_ (fun ha ρ' hi => ?_) fun ha => ?_
  · intro d hd ρ nx hi ht hn
    obtain ⟨x4, x5, x6, x7, rfl⟩ := hi
    obtain ⟨l, x, rfl, hx⟩ := mem_zip hd
    rw [pz_at] at ht hn
    have hfx := hf x hx
    have dep : ((k + 1 : Nat) : Int) - 1 = ((k : Nat) : Int) := by omega
    refine ⟨rfl, rfl, ?_⟩
    have tail : ∀ r : Bool, r = itemM (fitsM k b2) l x → sIf (dNot (dB (dVar 6))) (sRet (dC (.bool false))) (sNext) { dE Wd Qd with nx := nx, ct := nx, bk := b_fits_5 t_has_shape (t_fits n) t_row_fits t_field_fits (dE Wd Qd) }
        [some (.d v), some (.d (.int ((k + 1 : Nat) : Int))), some (.d (.bool b2)), some (.d w), some (.d (.str (wordL l))), some (.d x), some (.d (.bool r)), x7] := fun r hr => by
      rw [← hr] at ht hn
      cases r with
      | true => exact ht rfl _ ⟨_, _, _, _, rfl⟩
      | false => exact ⟨trivial, hn rfl⟩
    cases l with
    | e =>
      refine ⟨trivial, trivial, trivial, k, b2, ?_, hk, rfl, hfx, fun _ => ⟨trivial, tail _ itemM_e.symm⟩⟩
      show PyData.int (((k + 1 : Nat) : Int) - 1) = _
      rw [dep]
    | l | d | a =>
      refine oKin_is (b := true) (by rfl) ?_
      refine ⟨trivial, trivial, _, rfl, rfl, hfx, fun _ => ?_⟩
      refine ifB (fun e1 => ?_) fun e1 => ?_
      · have hr : isRow x = true := by
          unfold rowFitM at e1
          rw [Bool.and_eq_true] at e1
          exact e1.1
        obtain ⟨bx, ex⟩ := row_of (xs := rowOf x) hr rfl
        have hrow := fine_row hfx
        have t2 := tail ((rowOf x).all (fitsM k b2)) (by rw [itemM_row rfl, show rowFitM _ x = true from e1, Bool.true_and])
        have fin : ∀ (xs : List D) (lw x : D) (Q : DV → Prop), xs.length ≤ 1000 → (∀ y ∈ xs, fineD y = true) → Q (.d (.bool (xs.all (fitsM k b2)))) → xs.length < sizeLine ∧ dMap (dgN 7) dtYes (dCall (lo0 (t_fits n)) [] (dCons (dVar 7) (dCons (dOp oSub (dVar 1) (dC (.int 1))) (dCons (dVar 2) (dNil))))) (fun x _ => Wd x)
            [some (.d v), some (.d (.int ((k + 1 : Nat) : Int))), some (.d (.bool b2)), some (.d w), some (.d lw), some (.d x), x6, none] xs fun ys => oAll (.d (.list ys)) Q := fun xs lw x Q h1 h2 hq => by
          refine ⟨Nat.lt_of_le_of_lt h1 (by decide), ?_⟩
          refine dMap_fn (fun y => .bool (fitsM k b2 y)) (fun y hy Q' hq' => ?_) (all_parts hq)
          refine ⟨trivial, trivial, trivial, k, b2, ?_, hk, rfl, h2 y hy, fun _ => hq'⟩
          show PyData.int (((k + 1 : Nat) : Int) - 1) = _
          rw [dep]
        revert t2 hrow
        generalize rowOf x = xs at ex ⊢
        subst ex
        intro hrow t2
        cases bx <;> exact fin xs _ _ _ hrow.1 hrow.2 ⟨trivial, t2⟩
      · refine ⟨trivial, tail false ?_⟩
        rw [itemM_row rfl, show rowFitM _ x = false from e1, Bool.false_and]
    | n | m | o | c | x | t =>
      refine oKin_is (b := false) (by rfl) ?_
      exact ⟨trivial, trivial, _, rfl, rfl, hfx, fun _ => ⟨trivial, tail _ (itemM_leaf rfl).symm⟩⟩
  · obtain ⟨x4, x5, x6, x7, rfl⟩ := hi
    rw [all_zip] at ha
    rw [ha] at q
    exact ⟨trivial, q⟩
  · rw [all_zip] at ha
    rw [ha] at q
    exact q
theorem m_fits_rest {n k : Nat} {b2 br : Bool} (hk : k ≤ n) {w : Str} {Wd : XD → Prop} {Qd : DV → Prop} {ls : List Lt} {items : List D} (hw : shp w = some ls) (hf : ∀ x ∈ items, fineD x = true) (q : Qd (.d (.bool (allZ (fitsM k b2) ls items)))) :
    b_fits_4 t_has_shape (t_fits n) t_row_fits t_field_fits (dE Wd Qd) [some (.d (mkRow br (.str w :: items))), some (.d (.int ((k + 1 : Nat) : Int))), some (.d (.bool b2)), some (.d (.str w)), none, none, none, none] := by
  refine oKget_some (y := .tuple (wordsOf ls)) (by rw [shapes_look, hw] <;> rfl) ?_
  refine oSl_row (b := br) ?_
  rw [cutD_1]
  have go := m_fits_loop (v := mkRow br (.str w :: items)) (w := .str w) (Wd := Wd) hk hf q
  cases br <;> exact go
theorem m_fits (n : Nat) : Body 8 (b_fits t_has_shape (t_fits n) t_row_fits t_field_fits) (t_fits (n + 1)) := by
  intro as Wd Qd h
  obtain ⟨v, dep, kept, rfl, k, b, rfl, hk, rfl, hf, q⟩ := p3_of h
  clear h
  cases k with
  | zero => exact ⟨trivial, q⟩
  | succ k =>
    rw [fitsM_succ] at q
    refine ⟨trivial, hf, fun _ => ?_⟩
    cases hs : shape v with
    | none =>
      rw [hs] at q
      exact ⟨trivial, q⟩
    | some t =>
      obtain ⟨w, ls, items⟩ := t
      rw [hs] at q
      obtain ⟨hr, er, hw, hl⟩ := shape_some hs
      obtain ⟨br, rfl⟩ := row_of hr er
      have hfi := fine_row hf
      rw [er] at hfi
      have hfi2 : ∀ x ∈ items, fineD x = true := fun x hx => hfi.2 x (List.mem_cons_of_mem _ hx)
      have q1 : Qd (.d (.bool (!(b && inD (.str w) leaveW) && allZ (fitsM k (b || w == "keep")) ls items))) := q
      refine oIx_row (b := br) (Int.le_refl 0) (by rfl) ?_
      refine ⟨trivial, ?_⟩
      have hk' : k ≤ n := by omega
      cases b with
      | true =>
        refine ⟨⟨rfl, rfl⟩, ?_⟩
        refine ifB (fun e => ?_) fun e => ?_
        · have e1 : inD (.str w) leaveW = true := e
          rw [e1] at q1
          exact ⟨trivial, q1⟩
        · have e1 : inD (.str w) leaveW = false := e
          rw [e1] at q1
          exact ⟨trivial, m_fits_rest hk' hw hfi2 q1⟩
      | false => exact ⟨trivial, m_fits_rest hk' hw hfi2 q1⟩
theorem m_fits0 (tF : DSp) : Body 8 (b_fits t_has_shape tF t_row_fits t_field_fits) (t_fits 0) := by
  intro as Wd Qd h
  obtain ⟨v, dep, kept, rfl, k, b, rfl, hk, rfl, hf, q⟩ := p3_of h
  obtain rfl : k = 0 := by omega
  exact ⟨trivial, q⟩
def t_is_expression : DSp := p1 fun v Q => fineD v = true ∧ Q (.d (.bool (fitsM 8 false v)))
theorem m_is_expression : Body 1 (b_is_expression (t_fits 8)) t_is_expression := by
  intro as Wd Qd h
  obtain ⟨v, rfl, hf, q⟩ := p1_of h
  exact ⟨trivial, 8, false, rfl, Nat.le_refl _, rfl, hf, fun _ => ⟨trivial, q⟩⟩
end K

set_option Elab.async false
set_option linter.all false
set_option maxRecDepth 100000
set_option maxHeartbeats 4000000
namespace K
open PySem PySem.Spec PyProof.Rows L2 DL

/-! ### expressions that have one value -/
def Ev (t : DE) (Wd : DW) (ρ : Ro) (d : D) : Prop := ∀ Q : DV → Prop, Q (.d d) → t Wd ρ Q
def EvT (t : DT) (Wd : DW) (ρ : Ro) (b : Bool) : Prop := ∀ Q : Bool → Prop, Q b → t Wd ρ Q
section
variable {Wd : DW} {ρ : Ro} {ta tb : DE} {t u : DT} {a b : Bool}
theorem ev_and (h : Ev ta Wd ρ (.bool a)) (h2 : a = true → Ev tb Wd ρ (.bool b)) : Ev (dAndV ta tb) Wd ρ (.bool (a && b)) := fun Q q => h _ (by
  cases a with
  | true => exact h2 rfl Q q
  | false => exact q)
theorem ev_or (h : Ev ta Wd ρ (.bool a)) (h2 : a = false → Ev tb Wd ρ (.bool b)) : Ev (dOrV ta tb) Wd ρ (.bool (a || b)) := fun Q q => h _ (by
  cases a with
  | true => exact q
  | false => exact h2 rfl Q q)
theorem ev_not (h : Ev ta Wd ρ (.bool a)) : Ev (dNotV ta) Wd ρ (.bool (!a)) := fun Q q => h _ q
theorem et_B (h : Ev ta Wd ρ (.bool a)) : EvT (dB ta) Wd ρ a := fun Q q => h _ q
theorem et_and (h : EvT t Wd ρ a) (h2 : a = true → EvT u Wd ρ b) : EvT (dAnd t u) Wd ρ (a && b) := fun Q q => h _ (by
  cases a with
  | true => exact h2 rfl Q q
  | false => exact q)
theorem et_or (h : EvT t Wd ρ a) (h2 : a = false → EvT u Wd ρ b) : EvT (dOr t u) Wd ρ (a || b) := fun Q q => h _ (by
  cases a with
  | true => exact q
  | false => exact h2 rfl Q q)
theorem et_not (h : EvT t Wd ρ a) : EvT (dNot t) Wd ρ (!a) := fun Q q => h _ q
theorem sIf_ev {c : DT} {st su : DS} {E : DEnds} (h : EvT c E.ex ρ b) (h1 : b = true → st E ρ) (h2 : b = false → su E ρ) : sIf c st su E ρ := h _ (ifB h1 h2)
theorem sRet_ev {te : DE} {E : DEnds} {d : D} (h : Ev te E.ex ρ d) (q : E.rt (.d d)) : sRet te E ρ := h _ q
theorem sSet_ev {i : Nat} {te : DE} {E : DEnds} {d : D} (h : Ev te E.ex ρ d) (q : E.nx (put ρ i (.d d))) : sSet i te E ρ := h _ ⟨trivial, q⟩
end
theorem le_nat (a b : Nat) : decide (((a : Nat) : Int) ≤ ((b : Nat) : Int)) = decide (a ≤ b) := by
  by_cases h : a ≤ b
  · rw [decide_eq_true h, decide_eq_true (by omega)]
  · rw [decide_eq_false h, decide_eq_false (by omega)]
theorem eq_nat (a b : Nat) : (((a : Nat) : Int) == ((b : Nat) : Int)) = (a == b) := by
  by_cases h : a = b
  · subst h; simp
  · rw [beq_eq_false_iff_ne.mpr h, beq_eq_false_iff_ne.mpr (by omega)]
/-! ### the law's words -/
def lawWords : List Str := "nothing" :: "first" :: "no" :: "if" :: "most" :: "again" :: "to" :: "items" :: "every" :: "while" :: "do" :: "call" :: "back" :: "out" :: "fall" :: "keep" :: "ask" :: "anew" :: "scan" :: "move" :: "tab" :: "find" :: "reach" :: "many" :: "match" ::
  "here" :: "put" :: "take" :: "size" :: "at" :: "place" :: "say" :: "is" :: "isnt" :: "list" :: "mod" :: []
def lwD : List D := lawWords.map .str
def t_words : DSp := p0 fun Q => Q (.d (.list lwD))
theorem m_words : Body 1 b__law_words t_words := by
  intro as Wd Qd h
  obtain ⟨rfl, q⟩ := p0_of h
  repeat refine ⟨trivial, ?_⟩
  refine ⟨nle rfl, trivial, ?_⟩
  repeat refine ⟨trivial, ?_⟩
  refine ⟨nle rfl, nle rfl, trivial, ?_⟩
  repeat refine ⟨trivial, ?_⟩
  exact ⟨nle rfl, nle rfl, trivial, q⟩
theorem inD_strs (s : Str) (a : List Str) : inD (.str s) (a.map .str) = a.any fun y => y == s := by
  unfold inD
  rw [List.any_map]
  rfl
theorem any_same {a b : List Str} (s : Str) (h1 : (a.all fun y => b.contains y) = true) (h2 : (b.all fun y => a.contains y) = true) : (a.any fun y => y == s) = b.any fun y => y == s := by
  have go : ∀ {a b : List Str}, (a.all fun y => b.contains y) = true → (a.any fun y => y == s) = true → (b.any fun y => y == s) = true := fun {a b} h q => by
    obtain ⟨y, hy, e⟩ := List.any_eq_true.mp q
    have := List.all_eq_true.mp h y hy
    exact List.any_eq_true.mpr ⟨y, by simpa using this, e⟩
  cases e : a.any fun y => y == s with
  | true => exact (go h1 e).symm
  | false =>
    cases e2 : b.any fun y => y == s with
    | true => rw [go h2 e2] at e; cases e
    | false => rfl
def progWords : List Str := wordsW.filterMap fun d => match d with
  | .str s => some s
  | _ => none
theorem words_same (s : Str) : inD (.str s) lwD = inD (.str s) wordsW := by
  have e : wordsW = progWords.map .str := by rfl
  rw [e]
  unfold lwD
  rw [inD_strs, inD_strs]
  exact any_same s (by decide +kernel) (by decide +kernel)
theorem ev_ordle {Wd : DW} {ρ : Ro} {i c : Nat} (n : Nat) (h : get ρ i = some (.d (.str ⟨#[c]⟩))) : Ev (dOp oLe (dC (.int (n : Nat))) (dUn oOrd (dVar i))) Wd ρ (.bool (decide (n ≤ c))) := fun Q q => by
  show dVar i Wd ρ _
  unfold dVar
  rw [h]
  refine ⟨rfl, ?_⟩
  show Q (.d (.bool (decide (((n : Nat) : Int) ≤ ((c : Nat) : Int)))))
  rw [le_nat]
  exact q
theorem ev_ordge {Wd : DW} {ρ : Ro} {i c : Nat} (n : Nat) (h : get ρ i = some (.d (.str ⟨#[c]⟩))) : Ev (dOp oLe (dUn oOrd (dVar i)) (dC (.int (n : Nat)))) Wd ρ (.bool (decide (c ≤ n))) := fun Q q => by
  show dVar i Wd ρ _
  unfold dVar
  rw [h]
  refine ⟨rfl, ?_⟩
  show Q (.d (.bool (decide (((c : Nat) : Int) ≤ ((n : Nat) : Int)))))
  rw [le_nat]
  exact q
theorem ev_ordne {Wd : DW} {ρ : Ro} {i c : Nat} (n : Nat) (h : get ρ i = some (.d (.str ⟨#[c]⟩))) : Ev (dOp (oEq true) (dUn oOrd (dVar i)) (dC (.int (n : Nat)))) Wd ρ (.bool (c != n)) := fun Q q => by
  show dVar i Wd ρ _
  unfold dVar
  rw [h]
  refine ⟨rfl, ?_⟩
  show Q (.d (.bool (!(((c : Nat) : Int) == ((n : Nat) : Int)))))
  rw [eq_nat]
  exact q
theorem m_law_is_name : Body 2 (b__law_is_name t_words) t_is_name := by
  intro as Wd Qd h
  obtain ⟨v, rfl, hf, q⟩ := p1_of h
  clear h
  have no : isNameD v = false → Qd (.d (.bool false)) := fun e => by rw [e] at q; exact q
  cases v with
  | str s =>
    have hz := fine_str hf
    have e0 : isNameD (.str s) = ((decide (1 ≤ s.length) && decide (s.length ≤ 8)) && (!inD (.str s) wordsW && s.cps.toList.all letC)) := rfl
    refine ⟨hz, ?_⟩
    refine ifB (fun e => ⟨trivial, no ?_⟩) fun e => ?_
    · have e1 : ((s.length : Nat) : Int) < 1 := of_decide_eq_true e
      rw [e0, decide_eq_false (by omega), Bool.false_and, Bool.false_and]
    have h1 : 1 ≤ s.length := by
      have e1 : ¬ ((s.length : Nat) : Int) < 1 := of_decide_eq_false e
      omega
    refine ⟨hz, ?_⟩
    refine ifB (fun e => ⟨trivial, no ?_⟩) fun e => ?_
    · have e1 : (8 : Int) < ((s.length : Nat) : Int) := of_decide_eq_true e
      rw [e0, decide_eq_false (show ¬ s.length ≤ 8 by omega), Bool.and_false, Bool.false_and]
    have h2 : s.length ≤ 8 := by
      have e1 : ¬ (8 : Int) < ((s.length : Nat) : Int) := of_decide_eq_false e
      omega
    rw [e0, decide_eq_true h1, decide_eq_true h2, Bool.true_and, Bool.true_and] at q
    refine fun _ => ⟨⟨rfl, by rfl⟩, ?_⟩
    refine ifB (fun e => ⟨trivial, no ?_⟩) fun e => ?_
    · have e1 : inD (.str s) lwD = true := e
      rw [words_same] at e1
      rw [e0, e1, Bool.not_true, Bool.false_and, Bool.and_false]
    have e1 : inD (.str s) lwD = false := e
    rw [words_same] at e1
    rw [e1, Bool.not_false, Bool.true_and] at q
    refine ⟨by rw [signs_len]; exact Nat.lt_of_le_of_lt h2 (by decide), ?_⟩
    refine dMap_fn (signF letC) (fun d hd Q' hq => ?_) (all_signs (g := signF letC) (fun c => rfl) ⟨trivial, q⟩)
    obtain ⟨c, rfl⟩ := mem_signs hd
    exact ev_and (ev_ordle 97 rfl) (fun _ => ev_ordge 122 rfl) _ hq
  | _ => exact ⟨trivial, no rfl⟩
theorem m_law_is_text : Body 2 b__law_is_text t_is_text := by
  intro as Wd Qd h
  obtain ⟨v, rfl, hf, q⟩ := p1_of h
  clear h
  have no : isTextD v = false → Qd (.d (.bool false)) := fun e => by rw [e] at q; exact q
  cases v with
  | str s =>
    have e0 : isTextD (.str s) = (decide (s.length ≤ 20) && s.cps.toList.all sgnC) := rfl
    refine ⟨fine_str hf, ?_⟩
    refine ifB (fun e => ⟨trivial, no ?_⟩) fun e => ?_
    · have e1 : (20 : Int) < ((s.length : Nat) : Int) := of_decide_eq_true e
      rw [e0, decide_eq_false (by omega), Bool.false_and]
    have h2 : s.length ≤ 20 := by
      have e1 : ¬ (20 : Int) < ((s.length : Nat) : Int) := of_decide_eq_false e
      omega
    rw [e0, decide_eq_true h2, Bool.true_and] at q
    refine ⟨by rw [signs_len]; exact Nat.lt_of_le_of_lt h2 (by decide), ?_⟩
    refine dMap_fn (signF sgnC) (fun d hd Q' hq => ?_) (all_signs (g := signF sgnC) (fun c => rfl) ⟨trivial, q⟩)
    obtain ⟨c, rfl⟩ := mem_signs hd
    refine ev_and (ev_ordle 32 rfl) (fun _ => ev_and (ev_ordge 126 rfl) fun _ => ev_and (ev_ordne 37 rfl) fun _ => ev_ordne 39 rfl) _ ?_
    have e : (decide (32 ≤ c) && (decide (c ≤ 126) && (c != 37 && c != 39))) = sgnC c := by
      unfold sgnC
      cases decide (32 ≤ c) <;> cases decide (c ≤ 126) <;> cases c != 37 <;> cases c != 39 <;> rfl
    rw [e]
    exact hq
  | _ => exact ⟨trivial, no rfl⟩
end K

set_option Elab.async false
set_option linter.all false
set_option maxRecDepth 100000
set_option maxHeartbeats 4000000
namespace K
open PySem PySem.Spec PyProof.Rows L2 DL
/-! ### the law's shapes -/
def sgnc : Lt → Nat
  | .e => 101 | .n => 110 | .m => 109 | .o => 111 | .c => 99 | .x => 120 | .t => 116 | .l => 108 | .d => 100 | .a => 97
def sgnL (l : Lt) : Str := ⟨#[sgnc l]⟩
def lettersOf (ls : List Lt) : Str := ⟨(ls.map sgnc).toArray⟩
def TBL : List (Str × List Lt) := ("nothing", []) :: ("number", [.n]) :: ("text", [.t]) :: ("name", [.x]) :: ("list", [.l]) :: ("op", [.o, .e, .e]) :: ("test", [.c, .e, .e]) :: ("fall", []) ::
  ("or", [.e, .e]) :: ("and", [.e, .e]) :: ("to", [.e, .e]) :: ("every", [.e, .e]) :: ("while", [.e, .e]) :: ("scan", [.e, .e]) :: ("put", [.e, .e]) :: ("at", [.e, .e]) ::
  ("first", [.e]) :: ("no", [.e]) :: ("again", [.e]) :: ("items", [.e]) :: ("back", [.e]) :: ("out", [.e]) :: ("keep", [.e]) :: ("ask", [.e]) :: ("anew", [.e]) :: ("move", [.e]) :: ("tab", [.e]) :: ("find", [.e]) :: ("reach", [.e]) :: ("many", [.e]) :: ("match", [.e]) :: ("take", [.e]) :: ("size", [.e]) :: ("say", [.e]) ::
  ("if", [.e, .e, .e]) :: ("place", [.e, .e, .e]) :: ("most", [.m, .e]) :: ("give", [.x, .e]) :: ("lend", [.x, .e]) :: ("do", [.d]) :: ("call", [.e, .a]) :: ("here", []) :: []
def SHP : List (D × D) := TBL.map fun p => (.str p.1, .str (lettersOf p.2))
def t_shapes : DSp := p0 fun Q => Q (.d (.dict SHP))
theorem mem_lk {α : Type} {z : Str} {v : α} : ∀ {l : List (Str × α)}, l.lookup z = some v → (z, v) ∈ l
  | [], h => by cases h
  | (k, w) :: r, h => by
    rw [List.lookup_cons] at h
    cases e : z == k with
    | true =>
      rw [e] at h
      cases h
      rw [eq_of_beq e]
      exact List.mem_cons_self ..
    | false =>
      rw [e] at h
      exact List.mem_cons_of_mem _ (mem_lk h)
theorem lookup_same {α : Type} [DecidableEq α] {a b : List (Str × α)} (h1 : (a.all fun p => decide (b.lookup p.1 = some p.2)) = true) (h2 : (b.all fun p => decide (a.lookup p.1 = some p.2)) = true) (z : Str) : a.lookup z = b.lookup z := by
  cases e : a.lookup z with
  | some v => exact (of_decide_eq_true (List.all_eq_true.mp h1 _ (mem_lk e))).symm
  | none =>
    cases e2 : b.lookup z with
    | none => rfl
    | some v =>
      have := of_decide_eq_true (List.all_eq_true.mp h2 _ (mem_lk e2))
      rw [e] at this
      cases this
theorem tbl_same (z : Str) : TBL.lookup z = shp z := lookup_same (by decide +kernel) (by decide +kernel) z
theorem look_map (z : Str) : ∀ l : List (Str × List Lt), look (l.map fun p => (.str p.1, .str (lettersOf p.2))) (.str z) = (l.lookup z).map fun ls => .str (lettersOf ls)
  | [] => rfl
  | (k, ls) :: r => by
    have ih := look_map z r
    unfold look at ih ⊢
    rw [List.map_cons, List.find?_cons, List.lookup_cons]
    show Option.map _ (match decide (k = z) with
      | true => _
      | false => _) = _
    by_cases e : k = z
    · subst e
      rw [decide_eq_true rfl, beq_self_eq_true] <;> rfl
    · rw [decide_eq_false e, beq_eq_false_iff_ne.mpr (fun q => e q.symm)]
      exact ih
theorem shp_look (z : Str) : look SHP (.str z) = (shp z).map fun ls => .str (lettersOf ls) := by
  rw [← tbl_same]
  exact look_map z TBL
theorem oGet_some {kvs : List (D × D)} {k x : D} {Q : DV → Prop} (e : look kvs k = some x) (hk : (asKey k).isSome = true) (q : Q (.d x)) : oGet (.d (.dict kvs)) (.d k) Q := by
  unfold oGet
  simp only [e]
  exact ⟨hk, q⟩
theorem oInK_is {neg : Bool} {kvs : List (D × D)} {k : D} {b : Bool} {Q : DV → Prop} (e : (look kvs k).isSome = b) (hk : (asKey k).isSome = true) (q : Q (.d (.bool (ng neg b)))) : oInK neg (.d k) (.d (.dict kvs)) Q := by
  subst e
  unfold oInK
  exact ⟨hk, q⟩
theorem inS_nm (l : Lt) : inS (sgnL l) "nm" = (decide (l = .n) || decide (l = .m)) := by cases l <;> decide +kernel
theorem inS_oc (l : Lt) : inS (sgnL l) "oc" = (decide (l = .o) || decide (l = .c)) := by cases l <;> decide +kernel
theorem inS_lda (l : Lt) : inS (sgnL l) "lda" = isRowL l := by cases l <;> decide +kernel
/-! ### one item -/
def t_is_item (n : Nat) : DSp := p4 fun lt v room kept Q => ∃ (l : Lt) (k : Nat) (b : Bool), lt = .str (sgnL l) ∧ room = .int (k : Nat) ∧ k ≤ n ∧ kept = .bool b ∧ fineD v = true ∧ Q (.d (.bool (itemM (fitsM k b) l v)))
theorem m_is_item_loop {n k : Nat} {b : Bool} (hk : k ≤ n) {lt v : D} {Wd : XD → Prop} {Qd : DV → Prop} {x4 x5 x6 x7 : Option DV} {xs : List D} (hf : ∀ x ∈ xs, fineD x = true)
    (h1 : xs.all (fitsM k b) = true → ∀ x4 x5 x6 x7, b__law_is_item_7 (t_fits n) t_is_name t_is_text (dE Wd Qd) [some (.d lt), some (.d v), some (.d (.int (k : Nat))), some (.d (.bool b)), x4, x5, x6, x7]) (h2 : xs.all (fitsM k b) = false → Qd (.d (.bool false))) :
    dLoop (dgN 4) (b__law_is_item_f0 (t_fits n) t_is_name t_is_text) { dE Wd Qd with nx := b__law_is_item_7 (t_fits n) t_is_name t_is_text (dE Wd Qd) } xs [some (.d lt), some (.d v), some (.d (.int (k : Nat))), some (.d (.bool b)), x4, x5, x6, x7] := by
  refine dLoop_all (p := fitsM k b) (F := Qd (.d (.bool false))) (fun ρ => ∃ x4 x5 x6 x7, ρ = [some (.d lt), some (.d v), some (.d (.int (k : Nat))), some (.d (.bool b)), x4, x5, x6, x7]) _ _ ⟨_, _, _, _, rfl⟩ ?_ (fun ha ρ' hi => ?_) h2
  · intro d hd ρ nx hi ht hn
    obtain ⟨x4, x5, x6, x7, rfl⟩ := hi
    refine ⟨trivial, trivial, trivial, k, b, rfl, hk, rfl, hf d hd, fun _ => ?_⟩
    cases e : fitsM k b d with
    | true => exact ht e _ ⟨_, _, _, _, rfl⟩
    | false => exact ⟨trivial, hn e⟩
  · obtain ⟨x4, x5, x6, x7, rfl⟩ := hi
    exact h1 ha _ _ _ _
theorem m_is_item (n : Nat) : Body 8 (b__law_is_item (t_fits n) t_is_name t_is_text) (t_is_item n) := by
  intro as Wd Qd h
  obtain ⟨lt, v, room, kept, rfl, l, k, b, rfl, rfl, hk, rfl, hf, q⟩ := p4_of h
  clear h
  cases l with
  | e =>
    rw [itemM_e] at q
    exact ⟨trivial, trivial, trivial, k, b, rfl, hk, rfl, hf, fun _ => ⟨trivial, q⟩⟩
  | n =>
    rw [itemM_leaf rfl] at q
    refine ifT (inS_nm .n) ?_
    refine ⟨trivial, trivial, nle rfl, ?_⟩
    refine oIx_at (i := 0) (d := .int (-999)) (Int.le_refl 0) (by rfl) ?_
    refine ⟨trivial, trivial, nle rfl, ?_⟩
    refine oIx_at (i := 0) (d := .int 999) (Int.le_refl 0) (by rfl) ?_
    refine ⟨trivial, trivial, ?_⟩
    cases v with
    | int i =>
      refine ifB (fun e => ⟨trivial, ?_⟩) fun e => ⟨trivial, ?_⟩
      · have e2 : leafM .n (.int i) = decide (i ≤ 999) := by
          show (decide ((-999 : Int) ≤ i) && decide (i ≤ 999)) = _
          rw [show decide ((-999 : Int) ≤ i) = true from e, Bool.true_and]
        rw [e2] at q
        exact q
      · have e2 : leafM .n (.int i) = false := by
          show (decide ((-999 : Int) ≤ i) && decide (i ≤ 999)) = _
          rw [show decide ((-999 : Int) ≤ i) = false from e, Bool.false_and]
        rw [e2] at q
        exact q
    | _ => exact ⟨trivial, q⟩
  | m =>
    rw [itemM_leaf rfl] at q
    refine ifT (inS_nm .m) ?_
    refine ⟨trivial, trivial, nle rfl, ?_⟩
    refine oIx_at (i := 1) (d := .int 0) (by decide) (by rfl) ?_
    refine ⟨trivial, trivial, nle rfl, ?_⟩
    refine oIx_at (i := 1) (d := .int 20) (by decide) (by rfl) ?_
    refine ⟨trivial, trivial, ?_⟩
    cases v with
    | int i =>
      refine ifB (fun e => ⟨trivial, ?_⟩) fun e => ⟨trivial, ?_⟩
      · have e2 : leafM .m (.int i) = decide (i ≤ 20) := by
          show (decide ((0 : Int) ≤ i) && decide (i ≤ 20)) = _
          rw [show decide ((0 : Int) ≤ i) = true from e, Bool.true_and]
        rw [e2] at q
        exact q
      · have e2 : leafM .m (.int i) = false := by
          show (decide ((0 : Int) ≤ i) && decide (i ≤ 20)) = _
          rw [show decide ((0 : Int) ≤ i) = false from e, Bool.false_and]
        rw [e2] at q
        exact q
    | _ => exact ⟨trivial, q⟩
  | x =>
    rw [itemM_leaf rfl] at q
    refine ifF (inS_nm .x) ?_
    exact ⟨trivial, hf, fun _ => ⟨trivial, q⟩⟩
  | t =>
    rw [itemM_leaf rfl] at q
    refine ifF (inS_nm .t) ?_
    exact ⟨trivial, hf, fun _ => ⟨trivial, q⟩⟩
  | o =>
    rw [itemM_leaf rfl] at q
    refine ifF (inS_nm .o) ?_
    refine ifT (inS_oc .o) ?_
    repeat refine ⟨trivial, ?_⟩
    refine ⟨nle rfl, ?_⟩
    repeat refine ⟨trivial, ?_⟩
    refine ⟨nle rfl, ?_⟩
    refine oGet_some (x := .list opsW) (by rfl) (by rfl) ?_
    refine ⟨trivial, ?_⟩
    cases v with
    | str s => exact ⟨⟨rfl, by rfl⟩, trivial, q⟩
    | _ => exact ⟨trivial, q⟩
  | c =>
    rw [itemM_leaf rfl] at q
    refine ifF (inS_nm .c) ?_
    refine ifT (inS_oc .c) ?_
    repeat refine ⟨trivial, ?_⟩
    refine ⟨nle rfl, ?_⟩
    repeat refine ⟨trivial, ?_⟩
    refine ⟨nle rfl, ?_⟩
    refine oGet_some (x := .list testsW) (by rfl) (by rfl) ?_
    refine ⟨trivial, ?_⟩
    cases v with
    | str s => exact ⟨⟨rfl, by rfl⟩, trivial, q⟩
    | _ => exact ⟨trivial, q⟩
  | l =>
    rw [itemM_row rfl] at q
    refine ifF (inS_nm .l) ?_
    refine ifF (inS_oc .l) ?_
    cases v
    case list xs | tuple xs =>
      have hr := fine_row hf
      refine oGet_some (x := .int 4) (by rfl) (by rfl) ?_
      refine ifB (fun e => ⟨trivial, ?_⟩) fun e => ?_
      · have e1 : (4 : Int) < ((xs.length : Nat) : Int) := of_decide_eq_true e
        have e2 : decide (xs.length ≤ 4) = false := decide_eq_false (by omega)
        have q2 : Qd (.d (.bool ((decide (0 ≤ xs.length) && decide (xs.length ≤ 4)) && xs.all (fitsM k b)))) := q
        rw [e2, Bool.and_false, Bool.false_and] at q2
        exact q2
      · have e1 : ¬ (4 : Int) < ((xs.length : Nat) : Int) := of_decide_eq_false e
        have e2 : decide (xs.length ≤ 4) = true := decide_eq_true (by omega)
        have q2 : Qd (.d (.bool ((decide (0 ≤ xs.length) && decide (xs.length ≤ 4)) && xs.all (fitsM k b)))) := q
        rw [e2, Bool.and_true] at q2
        refine m_is_item_loop hk hr.2 (fun ha x4 x5 x6 x7 => ?_) fun ha => ?_
        · rw [show xs.all (fitsM k b) = true from ha, Bool.and_true] at q2
          have q := q2
          exact ⟨trivial, q⟩
        · rw [show xs.all (fitsM k b) = false from ha, Bool.and_false] at q2
          exact q2
    all_goals exact ⟨trivial, q⟩
  | d =>
    rw [itemM_row rfl] at q
    refine ifF (inS_nm .d) ?_
    refine ifF (inS_oc .d) ?_
    cases v
    case list xs | tuple xs =>
      have hr := fine_row hf
      refine oGet_some (x := .int 6) (by rfl) (by rfl) ?_
      refine ifB (fun e => ⟨trivial, ?_⟩) fun e => ?_
      · have e1 : (6 : Int) < ((xs.length : Nat) : Int) := of_decide_eq_true e
        have e2 : decide (xs.length ≤ 6) = false := decide_eq_false (by omega)
        have q2 : Qd (.d (.bool ((decide (1 ≤ xs.length) && decide (xs.length ≤ 6)) && xs.all (fitsM k b)))) := q
        rw [e2, Bool.and_false, Bool.false_and] at q2
        exact q2
      · have e1 : ¬ (6 : Int) < ((xs.length : Nat) : Int) := of_decide_eq_false e
        have e2 : decide (xs.length ≤ 6) = true := decide_eq_true (by omega)
        have q2 : Qd (.d (.bool ((decide (1 ≤ xs.length) && decide (xs.length ≤ 6)) && xs.all (fitsM k b)))) := q
        rw [e2, Bool.and_true] at q2
        refine m_is_item_loop hk hr.2 (fun ha x4 x5 x6 x7 => ?_) fun ha => ?_
        · rw [show xs.all (fitsM k b) = true from ha, Bool.and_true] at q2
          have q := q2
          refine ⟨trivial, ?_⟩
          show Qd (.d (.bool (decide ((0 : Int) < ((xs.length : Nat) : Int)))))
          have e9 : decide ((0 : Int) < ((xs.length : Nat) : Int)) = decide (1 ≤ xs.length) := by
            by_cases z : 1 ≤ xs.length
            · rw [decide_eq_true z, decide_eq_true (by omega)]
            · rw [decide_eq_false z, decide_eq_false (by omega)]
          rw [e9]
          exact q
        · rw [show xs.all (fitsM k b) = false from ha, Bool.and_false] at q2
          exact q2
    all_goals exact ⟨trivial, q⟩
  | a =>
    rw [itemM_row rfl] at q
    refine ifF (inS_nm .a) ?_
    refine ifF (inS_oc .a) ?_
    cases v
    case list xs | tuple xs =>
      have hr := fine_row hf
      refine oGet_some (x := .int 3) (by rfl) (by rfl) ?_
      refine ifB (fun e => ⟨trivial, ?_⟩) fun e => ?_
      · have e1 : (3 : Int) < ((xs.length : Nat) : Int) := of_decide_eq_true e
        have e2 : decide (xs.length ≤ 3) = false := decide_eq_false (by omega)
        have q2 : Qd (.d (.bool ((decide (0 ≤ xs.length) && decide (xs.length ≤ 3)) && xs.all (fitsM k b)))) := q
        rw [e2, Bool.and_false, Bool.false_and] at q2
        exact q2
      · have e1 : ¬ (3 : Int) < ((xs.length : Nat) : Int) := of_decide_eq_false e
        have e2 : decide (xs.length ≤ 3) = true := decide_eq_true (by omega)
        have q2 : Qd (.d (.bool ((decide (0 ≤ xs.length) && decide (xs.length ≤ 3)) && xs.all (fitsM k b)))) := q
        rw [e2, Bool.and_true] at q2
        refine m_is_item_loop hk hr.2 (fun ha x4 x5 x6 x7 => ?_) fun ha => ?_
        · rw [show xs.all (fitsM k b) = true from ha, Bool.and_true] at q2
          have q := q2
          exact ⟨trivial, q⟩
        · rw [show xs.all (fitsM k b) = false from ha, Bool.and_false] at q2
          exact q2
    all_goals exact ⟨trivial, q⟩
end K

set_option Elab.async false
set_option linter.all false
set_option maxRecDepth 100000
set_option maxHeartbeats 4000000
namespace K
open PySem PySem.Spec PyProof.Rows L2 DL
theorem oIx_sat {s : Str} {i : Int} {c : Nat} {Q : DV → Prop} (hz : s.length ≤ sizeLine) (h : 0 ≤ i) (e : s.cps.toList[i.toNat]? = some c) (q : Q (.d (.str ⟨#[c]⟩))) : oIx (.d (.str s)) (.d (.int i)) Q := by
  obtain ⟨x, e1, e2⟩ := atI_in (xs := s.cps.toList) h (by have := (List.getElem?_eq_some_iff.mp e).1; omega)
  unfold oIx
  simp only [e1]
  rw [e] at e2
  cases e2
  exact ⟨hz, q⟩
def pickZ (f : D → Bool) (ls : List Lt) (xs : List D) (i : Nat) : Bool := match ls[i]?, xs[i]? with
  | some l, some x => itemM f l x
  | _, _ => true
theorem all_pick (f : D → Bool) : ∀ (ls : List Lt) (xs : List D), xs.length = ls.length → ((List.range ls.length).all (pickZ f ls xs)) = allZ f ls xs
  | [], xs, _ => by cases xs <;> rfl
  | l :: ls, [], h => by cases h
  | l :: ls, x :: xs, h => by
    rw [List.length_cons, List.range_succ_eq_map, List.all_cons, List.all_map]
    have ih := all_pick f ls xs (by simpa using h)
    show (itemM f l x && _) = (itemM f l x && allZ f ls xs)
    rw [← ih]
    congr 1
def pickD (f : D → Bool) (ls : List Lt) (xs : List D) : D → Bool
  | .int i => pickZ f ls xs i.toNat
  | _ => true
theorem all_pickD (f : D → Bool) (ls : List Lt) (xs : List D) (h : xs.length = ls.length) : (rngD 0 ls.length).all (pickD f ls xs) = allZ f ls xs := by
  rw [← all_pick f ls xs h]
  unfold rngD
  rw [List.all_map]
  congr 1
  funext i
  show pickZ f ls xs ((0 : Int) + (i : Nat)).toNat = _
  rw [Int.zero_add, Int.toNat_natCast]
theorem letters_len (ls : List Lt) : (lettersOf ls).length = ls.length := by simp [lettersOf, Str.length]
theorem letters_list (ls : List Lt) : (lettersOf ls).cps.toList = ls.map sgnc := by simp [lettersOf]
theorem shp_short {w : Str} {ls : List Lt} (h : shp w = some ls) : ls.length ≤ 3 := by
  have hm := mem_lk h
  have hall : (TB.all fun p => decide (p.2.length ≤ 3)) = true := by decide +kernel
  exact of_decide_eq_true (List.all_eq_true.mp hall _ hm)
theorem mem_rng {lo : Int} {n : Nat} {d : D} (h : d ∈ rngD lo n) : ∃ i : Nat, i < n ∧ d = .int (lo + (i : Nat)) := by
  unfold rngD at h
  obtain ⟨i, hi, rfl⟩ := List.mem_map.mp h
  exact ⟨i, List.mem_range.mp hi, rfl⟩
theorem m_is_loop {n k : Nat} {b br : Bool} (hk : k ≤ n) {w : Str} {ls : List Lt} {items : List D} {Wd : XD → Prop} {Qd : DV → Prop} (hw : shp w = some ls) (hl : items.length = ls.length) (hf : ∀ x ∈ items, fineD x = true)
    (q : Qd (.d (.bool (allZ (fitsM k (b || w == "keep")) ls items)))) :
    dLoop (dgN 5) (b__law_is_f0 t_shapes (t_is_item n)) { dE Wd Qd with nx := b__law_is_6 t_shapes (t_is_item n) (dE Wd Qd) } (rngD 0 ls.length) [some (.d (mkRow br (.str w :: items))), some (.d (.int ((k + 1 : Nat) : Int))), some (.d (.bool b)), some (.d (.dict SHP)), some (.d (.str w)), none] := by
  have hs : look SHP (.str w) = some (.str (lettersOf ls)) := by rw [shp_look, hw] <;> rfl
  rw [← all_pickD _ _ _ hl] at q
  refine dLoop_all (p := pickD (fitsM k (b || w == "keep")) ls items) (F := Qd (.d (.bool false))) (fun ρ => ∃ x5, ρ = [some (.d (mkRow br (.str w :: items))), some (.d (.int ((k + 1 : Nat) : Int))), some (.d (.bool b)), some (.d (.dict SHP)), some (.d (.str w)), x5]) _ _ ⟨_, rfl⟩ ?_ (fun ha ρ' hi => ?_) fun ha => ?_
  · intro d hd ρ nx hi ht hn
    obtain ⟨x5, rfl⟩ := hi
    obtain ⟨i, hi, rfl⟩ := mem_rng hd
    have hi2 : i < items.length := by omega
    have e0 : (0 : Int) + (i : Nat) = ((i : Nat) : Int) := by omega
    rw [e0] at ht hn ⊢
    have ep : pickD (fitsM k (b || w == "keep")) ls items (.int ((i : Nat) : Int)) = itemM (fitsM k (b || w == "keep")) ls[i] items[i] := by
      show pickZ _ ls items (((i : Nat) : Int).toNat) = _
      rw [Int.toNat_natCast]
      unfold pickZ
      rw [List.getElem?_eq_getElem hi, List.getElem?_eq_getElem hi2]
    rw [ep] at ht hn
    refine oGet_some (x := .str (lettersOf ls)) hs (by rfl) ?_
    refine oIx_sat (c := sgnc ls[i]) (by rw [letters_len]; exact le_sz (by have := shp_short hw; omega)) (Int.natCast_nonneg i) (by rw [Int.toNat_natCast, letters_list, List.getElem?_map, List.getElem?_eq_getElem hi] <;> rfl) ?_
    refine oIx_row (b := br) (d := items[i]) (by omega) ?_ ?_
    · have e1 : (((i : Nat) : Int) + 1).toNat = i + 1 := by omega
      show (PyData.str w :: items)[(((i : Nat) : Int) + 1).toNat]? = _
      rw [e1, List.getElem?_cons_succ, List.getElem?_eq_getElem hi2]
    have dep : ((k + 1 : Nat) : Int) - 1 = ((k : Nat) : Int) := by omega
    have fin : ∀ b2 : Bool, b2 = (b || w == "keep") → lo0 (t_is_item n) [.d (.str (sgnL ls[i])), .d items[i], .d (.int (((k + 1 : Nat) : Int) - 1)), .d (.bool b2)] (fun x => Wd x) fun x => nown x → bv x fun c => if (!c) = true then sRet (dC (.bool false)) { dE Wd Qd with nx := nx, ct := nx, bk := b__law_is_6 t_shapes (t_is_item n) (dE Wd Qd) } [some (.d (mkRow br (.str w :: items))), some (.d (.int ((k + 1 : Nat) : Int))), some (.d (.bool b)), some (.d (.dict SHP)), some (.d (.str w)), some (.d (.int ((i : Nat) : Int)))]
        else nx [some (.d (mkRow br (.str w :: items))), some (.d (.int ((k + 1 : Nat) : Int))), some (.d (.bool b)), some (.d (.dict SHP)), some (.d (.str w)), some (.d (.int ((i : Nat) : Int)))] := fun b2 hb2 => by
      refine ⟨ls[i], k, b2, rfl, by rw [dep], hk, rfl, hf _ (List.getElem_mem hi2), fun _ => ?_⟩
      subst hb2
      cases e : itemM (fitsM k (b || w == "keep")) ls[i] items[i] with
      | true => exact ht e _ ⟨_, rfl⟩
      | false => exact ⟨trivial, hn e⟩
    cases b with
    | true => exact ⟨trivial, trivial, trivial, trivial, fin true rfl⟩
    | false => exact ⟨trivial, trivial, trivial, trivial, fin _ rfl⟩
  · obtain ⟨x5, rfl⟩ := hi
    rw [ha] at q
    exact ⟨trivial, q⟩
  · rw [ha] at q
    exact q
theorem m_is_rest {n k : Nat} {b br : Bool} (hk : k ≤ n) {w : Str} {ls : List Lt} {items : List D} {Wd : XD → Prop} {Qd : DV → Prop} (hw : shp w = some ls) (hl : items.length = ls.length) (hf : ∀ x ∈ items, fineD x = true)
    (q : Qd (.d (.bool (allZ (fitsM k (b || w == "keep")) ls items)))) :
    b__law_is_5 t_shapes (t_is_item n) (dE Wd Qd) [some (.d (mkRow br (.str w :: items))), some (.d (.int ((k + 1 : Nat) : Int))), some (.d (.bool b)), some (.d (.dict SHP)), some (.d (.str w)), none] := by
  have hs : look SHP (.str w) = some (.str (lettersOf ls)) := by rw [shp_look, hw] <;> rfl
  have h3 := shp_short hw
  refine oGet_some (x := .str (lettersOf ls)) hs (by rfl) ?_
  refine ⟨by rw [letters_len]; exact le_sz (by omega), ⟨by rw [letters_len]; omega, by rw [letters_len]; omega⟩, ?_⟩
  rw [letters_len, Int.toNat_natCast]
  exact m_is_loop hk hw hl hf q
theorem m_is (n : Nat) : Body 6 (b__law_is t_shapes (t_is_item n)) (t_fits (n + 1)) := by
  intro as Wd Qd h
  obtain ⟨v, room, kept, rfl, k, b, rfl, hk, rfl, hf, q⟩ := p3_of h
  clear h
  have no : (fitsM k b v = false) → Qd (.d (.bool false)) := fun e => by rw [e] at q; exact q
  have noS : shape v = none → Qd (.d (.bool false)) := fun e => no (by
    cases k with
    | zero => rfl
    | succ k => rw [fitsM_succ, e])
  cases v
  case list xs | tuple xs =>
    refine ifB (fun e => ⟨trivial, noS ?_⟩) fun e => ?_
    · have e1 : (((xs.length : Nat) : Int) == 0) = true := e
      have e2 : xs.length = 0 := by have := eq_of_beq e1; omega
      rw [List.length_eq_zero_iff.mp e2] <;> rfl
    cases xs with
    | nil => exact absurd e (by decide)
    | cons x r =>
      refine ifB (fun e => ⟨trivial, no ?_⟩) fun e => ?_
      · have e1 : ((k : Nat) : Int) < 1 := of_decide_eq_true e
        have e2 : k = 0 := by omega
        rw [e2] <;> rfl
      have hk1 : k ≠ 0 := by
        have e1 : ¬ ((k : Nat) : Int) < 1 := of_decide_eq_false e
        omega
      obtain ⟨k, rfl⟩ := Nat.exists_eq_succ_of_ne_zero hk1
      rw [fitsM_succ] at q
      refine fun _ => ⟨trivial, ?_⟩
      first
        | refine oIx_at (Int.le_refl 0) (by rfl) ?_
        | refine oIx_tup (Int.le_refl 0) (by rfl) ?_
      refine ⟨trivial, ?_⟩
      cases x with
      | str w =>
        refine oInK_is (b := (shp w).isSome) (by rw [shp_look]; cases shp w <;> rfl) (by rfl) ?_
        cases hs : shp w with
        | none =>
          refine ⟨trivial, noS ?_⟩
          rw [shape_row rfl rfl, hs]
        | some ls =>
          have h3 := shp_short hs
          refine oGet_some (x := .str (lettersOf ls)) (by rw [shp_look, hs] <;> rfl) (by rfl) ?_
          refine ⟨by rw [letters_len]; exact le_sz (by omega), ?_⟩
          have hl : (((((PyData.str w :: r).length : Nat) : Int)) == (((lettersOf ls).length : Nat) : Int) + 1) = decide (r.length = ls.length) := by
            rw [letters_len, List.length_cons]
            by_cases z : r.length = ls.length
            · rw [z, decide_eq_true rfl]
              exact beq_iff_eq.mpr (by omega)
            · rw [decide_eq_false z]
              exact beq_eq_false_iff_ne.mpr (by omega)
          refine ifB (fun e => ⟨trivial, noS ?_⟩) fun e => ?_
          · have e1 : (!(((((PyData.str w :: r).length : Nat) : Int)) == (((lettersOf ls).length : Nat) : Int) + 1)) = true := e
            rw [hl] at e1
            rw [shape_row rfl rfl, hs]
            show (if r.length = ls.length then _ else none) = none
            rw [if_neg (dec_t e1)]
          have e1 : (!(((((PyData.str w :: r).length : Nat) : Int)) == (((lettersOf ls).length : Nat) : Int) + 1)) = false := e
          rw [hl] at e1
          have e2 : r.length = ls.length := dec_f e1
          have hsh : ∀ v : D, isRow v = true → rowOf v = .str w :: r → shape v = some (w, ls, r) := fun v h1 h2 => by
            rw [shape_row h1 h2, hs]
            show (if r.length = ls.length then _ else none) = _
            rw [if_pos e2]
          rw [hsh _ rfl rfl] at q
          have hfr := (fine_row hf).2
          have hfi2 : ∀ x ∈ r, fineD x = true := fun x hx => hfr x (List.mem_cons_of_mem _ hx)
          have q1 : Qd (.d (.bool (!(b && inD (.str w) leaveW) && allZ (fitsM k (b || w == "keep")) ls r))) := q
          have hk' : k ≤ n := by omega
          cases b with
          | true =>
            refine ⟨trivial, trivial, trivial, nle rfl, ⟨rfl, by rfl⟩, ?_⟩
            refine ifB (fun e => ⟨trivial, ?_⟩) fun e => ?_
            · rw [show inD (.str w) leaveW = true from e] at q1
              exact q1
            · rw [show inD (.str w) leaveW = false from e] at q1
              first
                | exact m_is_rest (br := true) hk' hs e2 hfi2 q1
                | exact m_is_rest (br := false) hk' hs e2 hfi2 q1
          | false =>
            first
              | exact m_is_rest (br := true) hk' hs e2 hfi2 q1
              | exact m_is_rest (br := false) hk' hs e2 hfi2 q1
      | _ => exact ⟨trivial, noS rfl⟩
  all_goals exact ⟨trivial, noS rfl⟩
theorem m_is0 (tI : DSp) : Body 6 (b__law_is t_shapes tI) (t_fits 0) := by
  intro as Wd Qd h
  obtain ⟨v, room, kept, rfl, k, b, rfl, hk, rfl, hf, q⟩ := p3_of h
  obtain rfl : k = 0 := by omega
  have q : Qd (.d (.bool false)) := q
  cases v
  case list xs | tuple xs =>
    refine ifB (fun e => ⟨trivial, q⟩) fun e => ?_
    exact ⟨trivial, q⟩
  all_goals exact ⟨trivial, q⟩
def t_told : DSp := p1 fun v Q => fineD v = true ∧ Q (.d (.str (boolS (fitsM 8 false v))))
theorem m_told : Body 1 (b__law_told (t_fits 8)) t_told := by
  intro as Wd Qd h
  obtain ⟨v, rfl, hf, q⟩ := p1_of h
  refine ⟨trivial, trivial, trivial, 8, false, rfl, Nat.le_refl _, rfl, hf, fun _ => ?_⟩
  cases e : fitsM 8 false v with
  | true =>
    rw [e] at q
    exact ⟨trivial, q⟩
  | false =>
    rw [e] at q
    exact ⟨trivial, q⟩
end K

set_option Elab.async false
set_option linter.all false
set_option maxRecDepth 100000
set_option maxHeartbeats 4000000
namespace K
open PySem PySem.Spec PyProof.Rows L2 DL

/-! ### what is drawn -/
def t_draw : DSp := pB1 fun d Q => ∃ n : Int, d = .int n ∧ (0 < n ∧ n ≤ 1000000) ∧ ∀ k : Int, 0 ≤ k → k < n → Q (.d (.int k))
theorem mul0 {a b c : Nat} (h : a ≤ c) : a + b * 0 ≤ c := by omega
theorem sum_ones : ∀ {ys : List Str}, (∀ y ∈ ys, wS 1 y) → (ys.map (·.length)).sum ≤ ys.length
  | [], _ => Nat.le_refl _
  | y :: r, h => by
    have h1 := (h y (List.mem_cons_self ..)).1
    have h2 := sum_ones fun z hz => h z (List.mem_cons_of_mem _ hz)
    rw [List.map_cons, List.sum_cons, List.length_cons]
    omega
theorem strsD_ok {p : Str → Prop} : ∀ {ys : List D}, (∀ y ∈ ys, ∃ s, y = .str s ∧ p s) → ∃ ss, strsD ys = some ss ∧ ss.length = ys.length ∧ ∀ s ∈ ss, p s
  | [], _ => ⟨[], rfl, rfl, fun _ z => nomatch z⟩
  | y :: r, h => by
    obtain ⟨s, rfl, hs⟩ := h y (List.mem_cons_self ..)
    obtain ⟨ss, e, hl, ha⟩ := strsD_ok fun z hz => h z (List.mem_cons_of_mem _ hz)
    refine ⟨s :: ss, ?_, by rw [List.length_cons, List.length_cons, hl], fun z hz => ?_⟩
    · show (strsD r).map (s :: ·) = _
      rw [e] <;> rfl
    · rcases List.mem_cons.mp hz with rfl | hz
      · exact hs
      · exact ha z hz
/-- joined drawn signs -/
theorem join_ok {ys : List D} {n : Nat} {Q : DV → Prop} (h : ∀ y ∈ ys, ∃ s, y = .str s ∧ wS 1 s) (hl : ys.length = n) (hn : n ≤ 1000) (q : ∀ s, wS n s → Q (.d (.str s))) : ∃ zs, strsD ys = some zs ∧ joinOk ("" : Str) zs ∧ Q (.d (.str (Txt.join ("" : Str) zs))) := by
  obtain ⟨ss, e, hls, ha⟩ := strsD_ok h
  refine ⟨ss, e, ?_, q _ (wS_join ha (by omega))⟩
  have := sum_ones ha
  exact mul0 (by omega)
theorem sign_ok {s : Str} (h : okS s = true) {c : Nat} (hc : c ∈ s.cps.toList) : wS 1 ⟨#[c]⟩ := ⟨Nat.le_refl 1, by
  have := List.all_eq_true.mp h c hc
  show (okC c && true) = true
  rw [this] <;> rfl⟩
def t_letters : DSp := pB1 fun d Q => ∃ n : Nat, d = .int (n : Nat) ∧ n ≤ 1000 ∧ ∀ s, wS n s → Q (.d (.str s))
theorem m_letters : Body 3 (b__law_letters t_draw) t_letters := by
  intro as Wd Qd h
  obtain ⟨d, rfl, n, rfl, hn, q⟩ := pB1_of h
  refine ⟨⟨by omega, by omega⟩, ?_⟩
  rw [Int.toNat_natCast]
  refine ⟨by rw [rngD_length]; exact Nat.lt_of_le_of_lt hn (by decide), ?_⟩
  refine dMap_ok (fun y => ∃ s, y = .str s ∧ wS 1 s) (fun d hd Q' hq => ?_) fun ys hl ha => ?_
  · refine ⟨trivial, trivial, 26, rfl, ⟨by decide, by decide⟩, fun k k1 k2 _ => ?_⟩
    refine oIx_str (by decide) k1 k2 fun c hc => hq _ ⟨_, rfl, sign_ok (by decide +kernel) hc⟩
  · rw [rngD_length] at hl
    exact join_ok ha hl hn fun s hs => ⟨trivial, q s hs⟩
def t_written : DSp := pB fun Q => ∀ s, wS 20 s → Q (.d (.str s))
def signsW : Str := " !\"#$&()*+,-./0123456789:;<=>?@ABCDEFGHIJKLMNOPQRSTUVWXYZ[\\]^_`abcdefghijklmnopqrstuvwxyz{|}~"
theorem signsW_ok : okS signsW = true := by decide +kernel
theorem signsW_len : signsW.length = 93 := by decide +kernel
theorem m_written : Body 4 (b__law_written t_draw) t_written := by
  intro as Wd Qd h
  obtain ⟨rfl, q⟩ := pB_of h
  have fin : ∀ n : Int, 0 ≤ n → n ≤ 20 → b__law_written_3 t_draw (dE Wd Qd) [some .bag, some (.d (.str signsW)), some (.d (.int n)), none] := fun n h0 h20 => by
    refine ⟨⟨by omega, by omega⟩, ?_⟩
    refine ⟨by rw [rngD_length]; exact Nat.lt_of_le_of_lt (show n.toNat ≤ 1000 by omega) (by decide), ?_⟩
    refine dMap_ok (fun y => ∃ s, y = .str s ∧ wS 1 s) (fun d hd Q' hq => ?_) fun ys hl ha => ?_
    · refine ⟨by rw [signsW_len]; decide, trivial, trivial, _, rfl, ⟨by rw [signsW_len]; decide, by rw [signsW_len]; decide⟩, fun k k1 k2 _ => ?_⟩
      refine oIx_str (by rw [signsW_len]; decide) k1 (by rw [len_toList]; exact k2) fun c hc => hq _ ⟨_, rfl, sign_ok signsW_ok hc⟩
    · rw [rngD_length] at hl
      exact join_ok ha hl (by omega) fun s hs => ⟨trivial, q s (hs.mono (by omega))⟩
  refine ⟨trivial, trivial, trivial, 6, rfl, ⟨by decide, by decide⟩, fun k k1 k2 _ => ⟨trivial, ?_⟩⟩
  refine ifB (fun e => ?_) fun e => ?_
  · exact ⟨trivial, trivial, 21, rfl, ⟨by decide, by decide⟩, fun j j1 j2 _ => ⟨trivial, fin j j1 (by omega)⟩⟩
  · exact fin k k1 (by omega)
def t_name : DSp := pB fun Q => ∀ s, wS 20 s → Q (.d (.str s))
theorem words_ok : lawWords.all (fun s => decide (s.length ≤ 8) && okS s) = true := by decide +kernel
theorem m_name : Body 4 (b__law_name t_draw t_words t_letters) t_name := by
  intro as Wd Qd h
  obtain ⟨rfl, q⟩ := pB_of h
  refine ⟨trivial, trivial, 7, rfl, ⟨by decide, by decide⟩, fun ch c1 c2 _ => ⟨trivial, ?_⟩⟩
  refine fun _ => ⟨trivial, trivial, 36, rfl, ⟨by decide, by decide⟩, fun j j1 j2 _ => ?_⟩
  refine oIx_list j1 (by show j < ((lwD.length : Nat) : Int); rw [show lwD.length = 36 from by decide +kernel]; exact j2) fun d hd => ?_
  obtain ⟨w, hw, rfl⟩ := List.mem_map.mp hd
  have ww : wS 8 w := by
    have := List.all_eq_true.mp words_ok w hw
    exact wS_lit this
  refine ⟨trivial, trivial, trivial, 8, rfl, ⟨by decide, by decide⟩, fun m m1 m2 _ => ?_⟩
  refine ⟨trivial, trivial, (1 + m).toNat, ?_, by omega, fun more hm _ => ⟨trivial, ?_⟩⟩
  · rw [Int.toNat_of_nonneg (by omega)]
  have wm : wS 8 more := hm.mono (by omega)
  refine ⟨wS_sz ww (by decide), wS_sz wm (by decide), ?_, ?_⟩
  · have h1 := (wS_cut ww none (some 7)).1
    have h2 := (wS_cut wm none (some 1)).1
    exact le_sz (by omega)
  refine ⟨wS_sz ww (by decide), ?_⟩
  repeat refine ⟨trivial, ?_⟩
  refine ⟨nle rfl, ?_⟩
  refine oIx_list c1 c2 fun d hd => ⟨trivial, ?_⟩
  have hd2 : ∃ s, d = .str s ∧ wS 16 s := by
    have wl : ∀ s : Str, (decide (s.length ≤ 16) && okS s) = true → wS 16 s := fun s hs => wS_lit hs
    simp only [List.mem_cons, List.not_mem_nil, or_false] at hd
    rcases hd with rfl | rfl | rfl | rfl | rfl | rfl | rfl
    · exact ⟨_, rfl, wS_app (wS_cut ww _ _) (wS_cut wm _ _)⟩
    · exact ⟨_, rfl, (wS_cut ww _ _).mono (by decide)⟩
    · exact ⟨_, rfl, wm.mono (by decide)⟩
    · exact ⟨_, rfl, wl _ (by decide +kernel)⟩
    · exact ⟨_, rfl, wl _ (by decide +kernel)⟩
    · exact ⟨_, rfl, wl _ (by decide +kernel)⟩
    · exact ⟨_, rfl, wl _ (by decide +kernel)⟩
  obtain ⟨s, rfl, hs⟩ := hd2
  refine fun _ => ⟨⟨rfl, by rfl⟩, ?_⟩
  refine ifB (fun e => ?_) fun e => ?_
  · refine ⟨wS_sz hs (by decide), ?_, trivial, ?_⟩
    · have h1 := (wS_cut hs (some 1) none).1
      exact le_sz (by show 1 + _ ≤ 1000; omega)
    · exact q _ ((wS_app (wS_lit (n := 1) (by decide +kernel)) (wS_cut hs (some 1) none)).mono (by decide))
  · exact ⟨trivial, q _ (hs.mono (by decide))⟩
/-! generated expressions -/
def ItG (P : D → Prop) (l : Lt) (d : D) : Prop := match l with
  | .e => P d
  | .l => ∃ b xs, d = mkRow b xs ∧ xs.length ≤ 4 ∧ ∀ x ∈ xs, P x
  | .d => ∃ b xs, d = mkRow b xs ∧ xs.length ≤ 6 ∧ ∀ x ∈ xs, P x
  | .a => ∃ b xs, d = mkRow b xs ∧ xs.length ≤ 3 ∧ ∀ x ∈ xs, P x
  | .n => ∃ i : Int, d = .int i ∧ i.natAbs ≤ 5000
  | .m => ∃ i : Int, d = .int i ∧ i.natAbs ≤ 5000
  | .o => ∃ s, d = .str s ∧ wS 4 s
  | .c => ∃ s, d = .str s ∧ wS 4 s
  | _ => ∃ s, d = .str s ∧ wS 20 s
def ZipP (R : Lt → D → Prop) : List Lt → List D → Prop
  | [], [] => True
  | l :: ls, x :: xs => R l x ∧ ZipP R ls xs
  | _, _ => False
def Ex : Nat → D → Prop
  | 0 => fun _ => False
  | n + 1 => fun d => ∃ b w ls items, d = mkRow b (.str w :: items) ∧ shp w = some ls ∧ ZipP (ItG (Ex n)) ls items
def t_leaf : DSp := pB1 fun d Q => ∃ i : Int, d = .int i ∧ ∀ x, (∀ n, Ex (n + 1) x) → Q (.d x)
theorem ex_leaf0 (b : Bool) {w : Str} (h : shp w = some []) (n : Nat) : Ex (n + 1) (mkRow b [.str w]) := ⟨b, w, [], [], rfl, h, trivial⟩
theorem m_leaf : Body 3 (b__law_leaf t_draw t_name t_written) t_leaf := by
  intro as Wd Qd h
  obtain ⟨d, rfl, i, rfl, q⟩ := pB1_of h
  refine ⟨trivial, trivial, 7, rfl, ⟨by decide, by decide⟩, fun ch c1 c2 _ => ⟨trivial, ?_⟩⟩
  have nothing : Qd (.d (.tuple [.str "nothing"])) := q _ (ex_leaf0 false (w := "nothing") (by rfl))
  have rest : b__law_leaf_2 t_draw t_name t_written (dE Wd Qd) [some .bag, some (.d (.int i)), some (.d (.int ch))] := by
    refine ifB (fun e => ?_) fun e => ?_
    · refine ⟨trivial, fun s hs _ => ⟨trivial, trivial, nle rfl, trivial, q _ fun n => ?_⟩⟩
      exact ⟨false, "name", [.x], [.str s], rfl, by rfl, ⟨s, rfl, hs⟩, trivial⟩
    refine ifB (fun e => ?_) fun e => ?_
    · refine ⟨trivial, trivial, 1999, rfl, ⟨by decide, by decide⟩, fun k k1 k2 _ => ⟨trivial, trivial, nle rfl, trivial, q _ fun n => ?_⟩⟩
      exact ⟨false, "number", [.n], [.int (k - 999)], rfl, by rfl, ⟨_, rfl, by omega⟩, trivial⟩
    refine ifB (fun e => ?_) fun e => ?_
    · refine ⟨trivial, fun s hs _ => ⟨trivial, trivial, nle rfl, trivial, q _ fun n => ?_⟩⟩
      exact ⟨false, "text", [.t], [.str s], rfl, by rfl, ⟨s, rfl, hs⟩, trivial⟩
    rename_i e5 e1
    have n1 : ch ≠ 1 := fun z => by subst z; exact absurd e1 (by decide)
    have n2 : ch ≠ 2 := fun z => by subst z; exact absurd e (by decide)
    have n6 : ch ≤ 5 := by have : ¬ (5 : Int) < ch := of_decide_eq_false e5; omega
    repeat first | refine ⟨trivial, ?_⟩ | refine ⟨nle rfl, ?_⟩
    have hc : ch = 0 ∨ ch = 3 ∨ ch = 4 ∨ ch = 5 := by omega
    rcases hc with rfl | rfl | rfl | rfl
    · refine oIx_at (by decide) (by rfl) ?_
      exact ⟨trivial, nothing⟩
    · refine oIx_at (by decide) (by rfl) ?_
      exact ⟨trivial, q _ fun n => ⟨false, "list", [.l], [.list []], rfl, by rfl, ⟨true, [], rfl, by decide, fun _ z => nomatch z⟩, trivial⟩⟩
    · refine oIx_at (by decide) (by rfl) ?_
      exact ⟨trivial, q _ (ex_leaf0 false (w := "fall") (by rfl))⟩
    · refine oIx_at (by decide) (by rfl) ?_
      exact ⟨trivial, q _ (ex_leaf0 true (w := "here") (by rfl))⟩
  refine ifB (fun e => ?_) fun e => ?_
  · refine ifB (fun e => ⟨trivial, nle rfl, trivial, nothing⟩) fun e => rest
  · exact rest
def t_item (n : Nat) : DSp := pBLR fun lt dep kept Q => ∃ (l : Lt) (k : Nat) (i : Int), lt = .str (sgnL l) ∧ dep = .int (k : Nat) ∧ (1 ≤ k ∧ k ≤ n) ∧ kept = .int i ∧ ∀ d, ItG (Ex k) l d → Q (.d d)
def t_expr (n : Nat) : DSp := pBR fun dep kept Q => ∃ (k : Nat) (i : Int), dep = .int (k : Nat) ∧ (1 ≤ k ∧ k ≤ n) ∧ kept = .int i ∧ ∀ d, Ex k d → Q (.d d)
theorem m_item (n : Nat) : Body 9 (b__law_item (t_expr n) t_draw t_name t_written) (t_item n) := by
  intro as Wd Qd h
  obtain ⟨lt, dep, kept, rfl, l, k, i, rfl, rfl, hk, rfl, q⟩ := pBLR_of h
  clear h
  have row : ∀ (many turn : Int), 0 ≤ many → many ≤ 6 → 0 ≤ turn → turn < 2 → (∀ b (xs : List D), ((xs.length : Nat) : Int) ≤ many → (∀ x ∈ xs, Ex k x) → Qd (.d (mkRow b xs))) →
      b__law_item_8 (t_expr n) t_draw t_name t_written (dE Wd Qd) [some .bag, some (.d (.str (sgnL l))), some .room, some (.d (.int (k : Nat))), some (.d (.int i)), some (.d (.int many)), some (.d (.int turn)), none, none] := fun many turn m1 m2 t1 t2 fin => by
    refine ⟨⟨by omega, by omega⟩, by rw [rngD_length]; exact Nat.lt_of_le_of_lt (show many.toNat ≤ 6 by omega) (by decide), ?_⟩
    refine dMap_ok (fun y => Ex k y) (fun d hd Q' hq => ?_) fun ys hl ha => ⟨trivial, ?_⟩
    · exact ⟨trivial, trivial, trivial, trivial, k, i, rfl, hk, rfl, fun d hd _ => hq d hd⟩
    · rw [rngD_length] at hl
      have h6 : ((ys.length : Nat) : Int) ≤ many := by omega
      refine ⟨trivial, trivial, nle rfl, ?_⟩
      have ht : turn = 0 ∨ turn = 1 := by omega
      rcases ht with rfl | rfl
      · refine oIx_at (by decide) (by rfl) ?_
        exact ⟨trivial, fin true ys h6 ha⟩
      · refine oIx_at (by decide) (by rfl) ?_
        exact ⟨trivial, fin false ys h6 ha⟩
  cases l with
  | e => exact ⟨trivial, trivial, trivial, trivial, k, i, rfl, hk, rfl, fun d hd _ => ⟨trivial, q d hd⟩⟩
  | n => exact ⟨trivial, trivial, 1999, rfl, ⟨by decide, by decide⟩, fun j j1 j2 _ => ⟨trivial, q _ ⟨_, rfl, by show (j - 999).natAbs ≤ 5000; omega⟩⟩⟩
  | m => exact ⟨trivial, trivial, 21, rfl, ⟨by decide, by decide⟩, fun j j1 j2 _ => ⟨trivial, q _ ⟨_, rfl, by omega⟩⟩⟩
  | o =>
    refine ifT (inS_oc .o) ?_
    repeat refine ⟨trivial, ?_⟩
    refine ⟨nle rfl, trivial, trivial, trivial, 6, rfl, ⟨by decide, by decide⟩, fun j j1 j2 _ => ?_⟩
    refine ⟨.inl ⟨by decide, by decide⟩, ?_⟩
    refine oIx_list (i := j + 6 * 0) (by omega) (by show j + 6 * 0 < 12; omega) fun d hd => ⟨trivial, q d ?_⟩
    simp only [List.mem_cons, List.not_mem_nil, or_false] at hd
    rcases hd with rfl | rfl | rfl | rfl | rfl | rfl | rfl | rfl | rfl | rfl | rfl | rfl <;> exact ⟨_, rfl, wS_lit (by decide +kernel)⟩
  | c =>
    refine ifT (inS_oc .c) ?_
    repeat refine ⟨trivial, ?_⟩
    refine ⟨nle rfl, trivial, trivial, trivial, 6, rfl, ⟨by decide, by decide⟩, fun j j1 j2 _ => ?_⟩
    refine ⟨.inl ⟨by decide, by decide⟩, ?_⟩
    refine oIx_list (i := j + 6 * 1) (by omega) (by show j + 6 * 1 < 12; omega) fun d hd => ⟨trivial, q d ?_⟩
    simp only [List.mem_cons, List.not_mem_nil, or_false] at hd
    rcases hd with rfl | rfl | rfl | rfl | rfl | rfl | rfl | rfl | rfl | rfl | rfl | rfl <;> exact ⟨_, rfl, wS_lit (by decide +kernel)⟩
  | x =>
    refine ifF (inS_oc .x) ?_
    exact ⟨trivial, fun s hs _ => ⟨trivial, q _ ⟨s, rfl, hs⟩⟩⟩
  | t =>
    refine ifF (inS_oc .t) ?_
    exact ⟨trivial, fun s hs _ => ⟨trivial, q _ ⟨s, rfl, hs⟩⟩⟩
  | l =>
    refine ifF (inS_oc .l) ?_
    refine oGet_some (x := .int 5) (by rfl) (by rfl) ?_
    refine ⟨trivial, trivial, 5, rfl, ⟨by decide, by decide⟩, fun j j1 j2 _ => ⟨trivial, trivial, trivial, 2, rfl, ⟨by decide, by decide⟩, fun t t1 t2 _ => ⟨trivial, ?_⟩⟩⟩
    exact row (j + 0) t (by omega) (by omega) t1 t2 fun b xs h6 ha => q _ ⟨b, xs, rfl, by omega, ha⟩
  | d =>
    refine ifF (inS_oc .d) ?_
    refine oGet_some (x := .int 6) (by rfl) (by rfl) ?_
    refine ⟨trivial, trivial, 6, rfl, ⟨by decide, by decide⟩, fun j j1 j2 _ => ⟨trivial, trivial, trivial, 2, rfl, ⟨by decide, by decide⟩, fun t t1 t2 _ => ⟨trivial, ?_⟩⟩⟩
    exact row (j + 1) t (by omega) (by omega) t1 t2 fun b xs h6 ha => q _ ⟨b, xs, rfl, by omega, ha⟩
  | a =>
    refine ifF (inS_oc .a) ?_
    refine oGet_some (x := .int 4) (by rfl) (by rfl) ?_
    refine ⟨trivial, trivial, 4, rfl, ⟨by decide, by decide⟩, fun j j1 j2 _ => ⟨trivial, trivial, trivial, 2, rfl, ⟨by decide, by decide⟩, fun t t1 t2 _ => ⟨trivial, ?_⟩⟩⟩
    exact row (j + 0) t (by omega) (by omega) t1 t2 fun b xs h6 ha => q _ ⟨b, xs, rfl, by omega, ha⟩
end K

set_option Elab.async false
set_option linter.all false
set_option maxRecDepth 100000
set_option maxHeartbeats 4000000
namespace K
open PySem PySem.Spec PyProof.Rows L2 DL
theorem signs_letters (ls : List Lt) : signsD (lettersOf ls) = ls.map fun l => .str (sgnL l) := by
  unfold signsD
  rw [letters_list, List.map_map]
  rfl
theorem shp_len : SHP.length = 42 := by decide +kernel
theorem mem_shp {d : D} (h : d ∈ SHP.map (·.1)) : ∃ w ls, d = .str w ∧ shp w = some ls := by
  obtain ⟨p, hp, rfl⟩ := List.mem_map.mp h
  obtain ⟨q, hq, rfl⟩ := List.mem_map.mp hp
  refine ⟨q.1, q.2, rfl, ?_⟩
  have hall : (TBL.all fun p => decide (shp p.1 = some p.2)) = true := by decide +kernel
  exact of_decide_eq_true (List.all_eq_true.mp hall q hq)
theorem m_expr_loop {n k : Nat} (hk : 1 ≤ k ∧ k ≤ n) {i j : Int} {w : Str} {Wd : XD → Prop} {Qd : DV → Prop} {nx : Ro → Prop} {x4 x5 : Option DV} : ∀ (ls : List Lt) (done : List D) (x8 : Option DV), done.length + ls.length ≤ 3 →
    (∀ items x8, ZipP (ItG (Ex k)) ls items → nx [some .bag, some .room, some (.d (.int ((k + 1 : Nat) : Int))), some (.d (.int i)), x4, x5, some (.d (.int j)), some (.own (.str w :: (done ++ items))), x8]) →
    dLoop (dgN 8) (b__law_expression_f0 t_leaf t_shapes t_draw (t_item n)) { dE Wd Qd with nx := nx } (ls.map fun l => .str (sgnL l))
      [some .bag, some .room, some (.d (.int ((k + 1 : Nat) : Int))), some (.d (.int i)), x4, x5, some (.d (.int j)), some (.own (.str w :: done)), x8]
  | [], done, x8, _, h => by
    have := h [] x8 trivial
    rw [List.append_nil] at this
    exact this
  | l :: ls, done, x8, hl, h => by
    rw [List.length_cons] at hl
    have dep : ((k + 1 : Nat) : Int) - 1 = ((k : Nat) : Int) := by omega
    refine ⟨trivial, trivial, trivial, trivial, trivial, l, k, j, rfl, ?_, hk, rfl, fun d hd _ => ⟨?_, ?_⟩⟩
    · show PyData.int (((k + 1 : Nat) : Int) - 1) = _
      rw [dep]
    · show (PyData.str w :: done).length < sizeLine
      rw [List.length_cons]
      exact Nat.lt_of_le_of_lt (show done.length + 1 ≤ 1000 by omega) (by decide)
    · refine m_expr_loop hk ls (done ++ [d]) _ (by rw [List.length_append, List.length_singleton]; omega) fun items x8 hz => ?_
      rw [List.append_assoc]
      exact h (d :: items) x8 ⟨hd, hz⟩
theorem m_expr_loop2 {n k : Nat} (hk : 1 ≤ k ∧ k ≤ n) {i j : Int} {w : Str} {Wd : XD → Prop} {Qd : DV → Prop} {nx : Ro → Prop} {x4 x5 x8 : Option DV} (ls : List Lt) (hl : ls.length ≤ 3)
    (h : ∀ items x8, ZipP (ItG (Ex k)) ls items → nx [some .bag, some .room, some (.d (.int ((k + 1 : Nat) : Int))), some (.d (.int i)), x4, x5, some (.d (.int j)), some (.own (.str w :: items)), x8]) :
    dLoop (dgN 8) (b__law_expression_f0 t_leaf t_shapes t_draw (t_item n)) { dE Wd Qd with nx := nx } (signsD (lettersOf ls))
      [some .bag, some .room, some (.d (.int ((k + 1 : Nat) : Int))), some (.d (.int i)), x4, x5, some (.d (.int j)), some (.own [.str w]), x8] := by
  rw [signs_letters]
  exact m_expr_loop hk ls [] x8 (by show 0 + _ ≤ 3; omega) h
theorem m_expr_rest {n k : Nat} (hk : 1 ≤ k ∧ k ≤ n) {i : Int} {w : Str} {ls : List Lt} {Wd : XD → Prop} {Qd : DV → Prop} (hw : shp w = some ls) (q : ∀ d, Ex (k + 1) d → Qd (.d d)) {x6 x7 x8 : Option DV} :
    b__law_expression_5 t_leaf t_shapes t_draw (t_item n) (dE Wd Qd) [some .bag, some .room, some (.d (.int ((k + 1 : Nat) : Int))), some (.d (.int i)), some (.d (.dict SHP)), some (.d (.str w)), x6, x7, x8] := by
  have h3 := shp_short hw
  refine ⟨trivial, trivial, nle rfl, ?_⟩
  refine oGet_some (x := .str (lettersOf ls)) (by rw [shp_look, hw] <;> rfl) (by rfl) ?_
  refine m_expr_loop2 hk ls h3 fun items x8 hz => ?_
  have fin : ∀ b, Qd (.d (mkRow b (.str w :: items))) := fun b => q _ ⟨b, w, ls, items, rfl, hw, hz⟩
  refine ⟨trivial, trivial, nle rfl, trivial, trivial, 3, rfl, ⟨by decide, by decide⟩, fun t t1 t2 _ => ?_⟩
  have hm : (if (1 : Int) < t then (1 : Int) else t) = 0 ∨ (if (1 : Int) < t then (1 : Int) else t) = 1 := by
    split <;> omega
  rcases hm with hm | hm
  · refine oIx_at (i := if (1 : Int) < t then (1 : Int) else t) (d := .list (.str w :: items)) (by rw [hm]; decide) (by rw [hm] <;> rfl) ?_
    exact ⟨trivial, fin true⟩
  · refine oIx_at (i := if (1 : Int) < t then (1 : Int) else t) (d := .tuple (.str w :: items)) (by rw [hm]; decide) (by rw [hm] <;> rfl) ?_
    exact ⟨trivial, fin false⟩
theorem m_expr (n : Nat) : Body 9 (b__law_expression t_leaf t_shapes t_draw (t_item n)) (t_expr (n + 1)) := by
  intro as Wd Qd h
  obtain ⟨dep, kept, rfl, k, i, rfl, hk, rfl, q⟩ := pBR_of h
  clear h
  refine ⟨rfl, fun r0 => ⟨rfl, ?_⟩⟩
  have leaf : sRet (dCall (lo0 t_leaf) [] (dCons (dVar 0) (dCons (dVar 3) dNil))) (dE Wd Qd) [some .bag, some .room, some (.d (.int (k : Nat))), some (.d (.int i)), none, none, none, none, none] :=
    ⟨trivial, trivial, i, rfl, fun x hx _ => ⟨trivial, q x (by
      obtain ⟨m, rfl⟩ := Nat.exists_eq_succ_of_ne_zero (show k ≠ 0 by omega)
      exact hx m)⟩⟩
  refine ifB (fun e => leaf) fun e => ?_
  have k1 : ¬ ((k : Nat) : Int) ≤ 1 := of_decide_eq_false e
  refine ⟨rfl, fun r1 => ?_⟩
  refine ifB (fun e => leaf) fun e => ?_
  refine fun _ => ⟨trivial, ?_⟩
  refine ⟨trivial, trivial, _, rfl, ⟨by rw [shp_len]; decide, by rw [shp_len]; decide⟩, fun j j1 j2 _ => ?_⟩
  refine oIx_list j1 (by rw [List.length_map]; exact j2) fun d hd => ⟨trivial, ?_⟩
  obtain ⟨w, ls, rfl, hw⟩ := mem_shp hd
  obtain ⟨m, rfl⟩ : ∃ m, k = m + 1 := ⟨k - 1, by omega⟩
  have hm : 1 ≤ m ∧ m ≤ n := by omega
  refine ifB (fun e => ?_) fun e => ?_
  · refine ⟨trivial, trivial, trivial, nle rfl, ⟨rfl, by rfl⟩, ?_⟩
    refine ifB (fun e => ⟨trivial, ?_⟩) fun e => ?_
    · exact m_expr_rest hm (w := "say") (ls := [.e]) (by rfl) q
    · exact m_expr_rest hm hw q
  · exact m_expr_rest hm hw q
end K

set_option Elab.async false
set_option linter.all false
set_option maxRecDepth 100000
set_option maxHeartbeats 4000000
namespace K
open PySem PySem.Spec PyProof.Rows L2 DL
/-! ### how long a value is written -/
/-- a sign, written -/
def cc (c : Nat) : Nat := if c = 39 ∨ c = 34 ∨ c = 92 ∨ c = 10 then 2 else 1
def strSz (s : Str) : Nat := 2 + (s.cps.toList.map cc).sum
theorem cc_le (c : Nat) : cc c ≤ 2 := by
  unfold cc
  split <;> omega
theorem sum_cc : ∀ l : List Nat, (l.map cc).sum ≤ 2 * l.length
  | [] => Nat.le_refl _
  | c :: r => by
    have h1 := cc_le c
    have h2 := sum_cc r
    rw [List.map_cons, List.sum_cons, List.length_cons]
    omega
theorem strSz_le {n : Nat} {s : Str} (h : wS n s) : strSz s ≤ 2 * n + 2 := by
  have h1 := sum_cc s.cps.toList
  rw [len_toList] at h1
  have h2 := h.1
  unfold strSz
  omega
mutual
def rsz : D → Nat
  | .none => 4
  | .bool _ => 5
  | .int _ => 11
  | .str s => strSz s
  | .list xs => 2 + rszAll xs
  | .tuple xs => 2 + rszAll xs
  | .dict kvs => 2 + rszKv kvs
def rszAll : List D → Nat
  | [] => 0
  | x :: r => (rsz x + 2) + rszAll r
def rszKv : List (D × D) → Nat
  | [] => 0
  | (k, d) :: r => (rsz k + rsz d + 4) + rszKv r
end
theorem rsz_row (b : Bool) (xs : List D) : rsz (mkRow b xs) = 2 + rszAll xs := by cases b <;> rfl
theorem fine_mk (b : Bool) {xs : List D} (h : xs.length ≤ 1000) (h2 : ∀ x ∈ xs, fineD x = true) : fineD (mkRow b xs) = true := by
  have e : (decide (xs.length ≤ 1000) && fineAll xs) = true := by
    rw [decide_eq_true h, Bool.true_and, fineAll_eq, List.all_eq_true]
    exact h2
  cases b <;> exact e
theorem fine_s {n : Nat} {s : Str} (h : wS n s) (hn : n ≤ 1000) : fineD (.str s) = true := by
  rw [fineD, h.2, Bool.and_true]
  exact decide_eq_true (Nat.le_trans h.1 hn)
theorem fine_i {i : Int} (h : i.natAbs ≤ 1000000000) : fineD (.int i) = true := decide_eq_true h
def okO (d : D) : Bool := fineD d && decide (rsz d ≤ 400)
def t_wrap : DSp := pB1 fun t Q => fineD t = true ∧ ∀ d, fineD d = true → rsz d ≤ rsz t + 60 → d.depth ≤ t.depth + 2 → Q (.d d)
theorem m_wrap : Body 3 (b__law_wrap t_draw) t_wrap := by
  intro as Wd Qd h
  obtain ⟨t, rfl, hf, q⟩ := pB1_of h
  refine ⟨trivial, trivial, 8, rfl, ⟨by decide, by decide⟩, fun ch c1 c2 _ => ⟨trivial, ?_⟩⟩
  have here : fineD (.tuple [.str "here"]) = true := by decide +kernel
  have hereL : fineD (.list [.str "here"]) = true := by decide +kernel
  have kw : ∀ s : Str, (decide (s.length ≤ 10) && okS s) = true → fineD (.str s) = true := fun s hs => fine_s (n := 10) (wS_lit hs) (by decide)
  have two : ∀ (b : Bool) (x y : D), fineD x = true → fineD y = true → fineD (mkRow b [x, y]) = true := fun b x y h1 h2 => fine_mk b (nle rfl) fun z hz => by
    simp only [List.mem_cons, List.not_mem_nil, or_false] at hz
    rcases hz with rfl | rfl <;> assumption
  have three : ∀ (b : Bool) (x y z : D), fineD x = true → fineD y = true → fineD z = true → fineD (mkRow b [x, y, z]) = true := fun b x y z h1 h2 h3 => fine_mk b (nle rfl) fun u hz => by
    simp only [List.mem_cons, List.not_mem_nil, or_false] at hz
    rcases hz with rfl | rfl | rfl <;> assumption
  have one : ∀ (b : Bool) (x : D), fineD x = true → fineD (mkRow b [x]) = true := fun b x h1 => fine_mk b (nle rfl) fun z hz => by
    simp only [List.mem_cons, List.not_mem_nil, or_false] at hz
    rw [hz]
    exact h1
  refine ifB (fun e => ⟨trivial, trivial, nle rfl, trivial, ?_⟩) fun e => ?_
  · exact q _ (two true _ _ (kw _ (by decide +kernel)) hf) (by simp [rsz, rszAll, show strSz "first" = 7 from by decide +kernel]; omega) (by simp [PyData.depth, PyData.depthAll] <;> omega)
  refine ifB (fun e => ⟨trivial, nle rfl, trivial, trivial, nle rfl, trivial, ?_⟩) fun e => ?_
  · exact q _ (two false _ _ (kw _ (by decide +kernel)) (one true _ hf)) (by simp [rsz, rszAll, show strSz "do" = 4 from by decide +kernel]; omega) (by simp [PyData.depth, PyData.depthAll] <;> omega)
  refine ifB (fun e => ⟨trivial, nle rfl, trivial, trivial, nle rfl, trivial, ?_⟩) fun e => ?_
  · exact q _ (two false _ _ (kw _ (by decide +kernel)) (one false _ hf)) (by simp [rsz, rszAll, show strSz "list" = 6 from by decide +kernel]; omega) (by simp [PyData.depth, PyData.depthAll] <;> omega)
  refine ifB (fun e => ?_) fun e => ?_
  · repeat first | refine ⟨trivial, ?_⟩ | refine ⟨nle rfl, ?_⟩
    refine q _ (fine_mk false (nle rfl) fun z hz => ?_) (by simp [rsz, rszAll, show strSz "if" = 4 from by decide +kernel, show strSz "here" = 6 from by decide +kernel]; omega) (by simp [PyData.depth, PyData.depthAll] <;> omega)
    simp only [List.mem_cons, List.not_mem_nil, or_false] at hz
    rcases hz with rfl | rfl | rfl | rfl
    · exact kw _ (by decide +kernel)
    · exact here
    · exact here
    · exact hf
  refine ifB (fun e => ?_) fun e => ?_
  · repeat first | refine ⟨trivial, ?_⟩ | refine ⟨nle rfl, ?_⟩
    exact q _ (three false _ _ _ (kw _ (by decide +kernel)) (kw _ (by decide +kernel)) hf) (by simp [rsz, rszAll, show strSz "give" = 6 from by decide +kernel, show strSz "x" = 3 from by decide +kernel]; omega) (by simp [PyData.depth, PyData.depthAll] <;> omega)
  refine ifB (fun e => ?_) fun e => ?_
  · repeat first | refine ⟨trivial, ?_⟩ | refine ⟨nle rfl, ?_⟩
    exact q _ (three true _ _ _ (kw _ (by decide +kernel)) hf (by decide +kernel)) (by simp [rsz, rszAll, show strSz "call" = 6 from by decide +kernel]; omega) (by simp [PyData.depth, PyData.depthAll] <;> omega)
  refine ifB (fun e => ?_) fun e => ?_
  · repeat first | refine ⟨trivial, ?_⟩ | refine ⟨nle rfl, ?_⟩
    exact q _ (two false _ _ (kw _ (by decide +kernel)) hf) (by simp [rsz, rszAll, show strSz "keep" = 6 from by decide +kernel]; omega) (by simp [PyData.depth, PyData.depthAll] <;> omega)
  · repeat first | refine ⟨trivial, ?_⟩ | refine ⟨nle rfl, ?_⟩
    exact q _ (three false _ _ _ (kw _ (by decide +kernel)) hereL (one true _ hf)) (by simp [rsz, rszAll, show strSz "call" = 6 from by decide +kernel, show strSz "here" = 6 from by decide +kernel]; omega) (by simp [PyData.depth, PyData.depthAll] <;> omega)
def t_odd : DSp := pB fun Q => ∀ d, okO d = true → Q (.d d)
theorem m_odd_end {xs : List D} {Wd : XD → Prop} {Qd : DV → Prop} {ch turn : Int} {here : D} (h0 : 0 < xs.length) (ha : ∀ d ∈ xs, okO d = true) (q : ∀ d, okO d = true → Qd (.d d)) :
    b__law_odd_4 t_draw t_letters t_words (dE Wd Qd) [some .bag, some (.d (.int ch)), some (.d (.int turn)), some (.d here), some (.d (.list xs))] := by
  have hp : (0 : Int) < ((xs.length : Nat) : Int) := by omega
  refine ⟨hp, ?_⟩
  refine oIx_list (Int.emod_nonneg _ (by omega)) (Int.emod_lt_of_pos _ hp) fun d hd => ⟨trivial, q d (ha d hd)⟩
theorem okO_app {xs ys : List D} (h : ∀ d ∈ xs, okO d = true) (h2 : ∀ d ∈ ys, okO d = true) : ∀ d ∈ xs ++ ys, okO d = true := fun d hd => by
  rcases List.mem_append.mp hd with hd | hd
  · exact h d hd
  · exact h2 d hd
theorem okO_all {xs : List D} (h : xs.all okO = true) : ∀ d ∈ xs, okO d = true := fun d hd => List.all_eq_true.mp h d hd
theorem okO_cons {x : D} {xs : List D} (h : okO x = true) (h2 : ∀ d ∈ xs, okO d = true) : ∀ d ∈ x :: xs, okO d = true := fun d hd => by
  rcases List.mem_cons.mp hd with rfl | hd
  · exact h
  · exact h2 d hd
theorem okO_of {d : D} (h : fineD d = true) (h2 : rsz d ≤ 400) : okO d = true := by
  unfold okO
  rw [h, decide_eq_true h2] <;> rfl
theorem okO_two {w s : Str} {b : Bool} (h : wS 20 w) (h2 : wS 40 s) : okO (mkRow b [.str w, .str s]) = true := by
  refine okO_of (fine_mk b (nle rfl) fun z hz => ?_) ?_
  · simp only [List.mem_cons, List.not_mem_nil, or_false] at hz
    rcases hz with rfl | rfl
    · exact fine_s h (by decide)
    · exact fine_s h2 (by decide)
  · rw [rsz_row]
    have h3 := strSz_le h
    have h4 := strSz_le h2
    simp only [rsz, rszAll]
    omega
theorem okO_num {w : Str} {i : Int} (h : wS 20 w) (h2 : i.natAbs ≤ 10000) : okO (.tuple [.str w, .int i]) = true := by
  refine okO_of (fine_mk false (nle rfl) fun z hz => ?_) ?_
  · simp only [List.mem_cons, List.not_mem_nil, or_false] at hz
    rcases hz with rfl | rfl
    · exact fine_s h (by decide)
    · exact fine_i (by omega)
  · have h3 := strSz_le h
    simp only [rsz, rszAll]
    omega
theorem okO_most {w : Str} {i : Int} {x : D} (h : wS 20 w) (h2 : i.natAbs ≤ 10000) (h5 : fineD x = true) (h6 : rsz x ≤ 100) : okO (.tuple [.str w, .int i, x]) = true := by
  refine okO_of (fine_mk false (nle rfl) fun z hz => ?_) ?_
  · simp only [List.mem_cons, List.not_mem_nil, or_false] at hz
    rcases hz with rfl | rfl | rfl
    · exact fine_s h (by decide)
    · exact fine_i (by omega)
    · exact h5
  · have h3 := strSz_le h
    simp only [rsz, rszAll]
    omega
theorem repS_b (n : Nat) : okS (repS "b" n) = true := by
  have key : ∀ (n : Nat) (acc : Array Nat), acc.toList.all okC = true → ((List.replicate n (#[98] : Array Nat)).foldl (· ++ ·) acc).toList.all okC = true := by
    intro n
    induction n with
    | zero => intro acc h; exact h
    | succ n ih =>
      intro acc h
      rw [List.replicate_succ, List.foldl_cons]
      refine ih _ ?_
      rw [Array.toList_append, List.all_append, h] <;> rfl
  exact key n #[] rfl
theorem m_odd : Body 5 (b__law_odd t_draw t_letters t_words) t_odd := by
  intro as Wd Qd h
  obtain ⟨rfl, q⟩ := pB_of h
  refine ⟨trivial, trivial, 5, rfl, ⟨by decide, by decide⟩, fun ch c1 c2 _ => ⟨trivial, ?_⟩⟩
  refine ⟨trivial, trivial, 60, rfl, ⟨by decide, by decide⟩, fun turn t1 t2 _ => ⟨trivial, ?_⟩⟩
  refine ⟨trivial, nle rfl, trivial, ?_⟩
  have wl : ∀ s : Str, (decide (s.length ≤ 20) && okS s) = true → wS 20 s := fun s hs => wS_lit hs
  refine ifB (fun e => ?_) fun e => ?_
  · refine ⟨trivial, trivial, 4001, rfl, ⟨by decide, by decide⟩, fun j j1 j2 _ => ⟨trivial, trivial, nle rfl, ?_⟩⟩
    refine ⟨⟨by decide, by decide⟩, trivial, trivial, (turn / 5).toNat, ?_, by omega, fun s hs _ => ⟨trivial, trivial, nle rfl, ?_⟩⟩
    · show PyData.int (turn / 5) = _
      rw [Int.toNat_of_nonneg (by omega)]
    repeat first | refine ⟨trivial, ?_⟩ | refine ⟨nle rfl, ?_⟩
    refine fun _ => ?_
    repeat first | refine ⟨trivial, ?_⟩ | refine ⟨nle rfl, ?_⟩
    refine ⟨36, rfl, ⟨by decide, by decide⟩, fun m m1 m2 _ => ?_⟩
    refine oIx_list m1 (by show m < ((lwD.length : Nat) : Int); rw [show lwD.length = 36 from by decide +kernel]; exact m2) fun d hd => ?_
    obtain ⟨w, hw, rfl⟩ := List.mem_map.mp hd
    have ww : wS 8 w := wS_lit (List.all_eq_true.mp words_ok w hw)
    refine ⟨trivial, trivial, nle rfl, ?_⟩
    have hdiv : 0 ≤ turn / 2 ∧ turn / 2 ≤ 30 := by omega
    refine ⟨⟨by decide, by decide⟩, ⟨hdiv.1, by show turn / 2 ≤ 1000; omega, by decide +kernel⟩, ?_⟩
    repeat first | refine ⟨trivial, ?_⟩ | refine ⟨nle rfl, ?_⟩
    have hb : wS 40 (repS "b" (turn / 2).toNat) := ⟨by rw [repS_length]; show (turn / 2).toNat * 1 ≤ 40; omega, repS_b _⟩
    refine m_odd_end (ch := ch) (turn := turn) (here := .tuple [.str "here"]) (nle rfl) (okO_app (okO_app ?_ ?_) (okO_all (by decide +kernel))) q
    · refine okO_cons (okO_num (wl _ (by decide +kernel)) (by show (j - 2000).natAbs ≤ 10000; omega)) (okO_cons (okO_two (b := false) (wl _ (by decide +kernel)) (hs.mono (by omega))) (okO_cons (okO_most (wl _ (by decide +kernel)) (by show (turn - 29).natAbs ≤ 10000; omega) (by decide +kernel) (by decide +kernel)) fun _ z => nomatch z))
    · refine okO_cons (okO_two (b := false) (wl _ (by decide +kernel)) (ww.mono (by decide))) (okO_cons (okO_two (b := false) (wl _ (by decide +kernel)) hb) (okO_all (by decide +kernel)))
  refine ifB (fun e => ?_) fun e => ?_
  · repeat first | refine ⟨trivial, ?_⟩ | refine ⟨nle rfl, ?_⟩
    exact m_odd_end (ch := ch) (turn := turn) (here := .tuple [.str "here"]) (nle rfl) (okO_all (by decide +kernel)) q
  refine ifB (fun e => ?_) fun e => ?_
  · repeat first | refine ⟨trivial, ?_⟩ | refine ⟨nle rfl, ?_⟩ | refine ⟨⟨by decide, by decide, nle rfl⟩, ?_⟩
    exact m_odd_end (ch := ch) (turn := turn) (here := .tuple [.str "here"]) (nle rfl) (okO_all (by decide +kernel)) q
  · repeat first | refine ⟨trivial, ?_⟩ | refine ⟨nle rfl, ?_⟩ | refine ⟨⟨by decide, by decide, nle rfl⟩, ?_⟩
    exact m_odd_end (ch := ch) (turn := turn) (here := .tuple [.str "here"]) (nle rfl) (okO_all (by decide +kernel)) q
end K

set_option Elab.async false
set_option linter.all false
set_option maxRecDepth 100000
set_option maxHeartbeats 4000000
namespace K
open PySem PySem.Spec PyProof.Rows L2 DL

/-! ### counting loops -/
theorem dLoop_rng {g : DG} {tb : DS} {E : DEnds} {n : Nat} (inv : Nat → Ro → Prop) {ρ : Ro} (h0 : inv 0 ρ)
    (step : ∀ i, i < n → ∀ (ρ : Ro) (nx : Ro → Prop), inv i ρ → (∀ ρ', inv (i + 1) ρ' → nx ρ') → g (.int ((i : Nat) : Int)) ρ fun ρ1 => tb { E with nx := nx, ct := nx, bk := E.nx } ρ1)
    (fin : ∀ ρ, inv n ρ → E.nx ρ) : dLoop g tb E (rngD 0 n) ρ := by
  have key : ∀ (m k : Nat) (ρ : Ro), k + m = n → inv k ρ → dLoop g tb E ((List.range' k m).map fun i : Nat => PyData.int (0 + (i : Int))) ρ := by
    intro m
    induction m with
    | zero =>
      intro k ρ hk i
      have e : k = n := by omega
      subst e
      exact fin ρ i
    | succ m ih =>
      intro k ρ hk i
      rw [List.range'_succ, List.map_cons]
      have e0 : (0 : Int) + ((k : Nat) : Int) = ((k : Nat) : Int) := by omega
      rw [e0]
      exact step k (by omega) ρ _ i fun ρ' i' => ih (k + 1) ρ' (by omega) i'
  unfold rngD
  rw [List.range_eq_range']
  exact key n 0 ρ (by omega) h0
/-! ### trees that may be walked -/
def okI (f : D → Bool) (l : Lt) (x : D) : Bool := if l = .e then f x else if isRowL l = true then isRow x && (decide ((rowOf x).length ≤ 6) && (rowOf x).all f) else true
def okZ (f : D → Bool) : List Lt → List D → Bool
  | l :: ls, x :: xs => okI f l x && okZ f ls xs
  | _, _ => true
def goodM : Nat → D → Bool
  | 0 => fun _ => false
  | n + 1 => fun v => match shape v with
    | some (_, ls, items) => okZ (goodM n) ls items
    | none => false
theorem goodM_succ {n : Nat} {v : D} (h : goodM (n + 1) v = true) : ∃ b w ls items, v = mkRow b (.str w :: items) ∧ shp w = some ls ∧ items.length = ls.length ∧ okZ (goodM n) ls items = true := by
  unfold goodM at h
  split at h
  · rename_i w ls items e
    obtain ⟨hr, er, hw, hl⟩ := shape_some e
    obtain ⟨b, hb⟩ := row_of hr er
    exact ⟨b, w, ls, items, hb, hw, hl, h⟩
  · cases h
theorem shape_mk {b : Bool} {w : Str} {ls : List Lt} {items : List D} (hw : shp w = some ls) (hl : items.length = ls.length) : shape (mkRow b (.str w :: items)) = some (w, ls, items) := by
  have h1 : isRow (mkRow b (.str w :: items)) = true := by cases b <;> rfl
  have h2 : rowOf (mkRow b (.str w :: items)) = .str w :: items := by cases b <;> rfl
  rw [shape_row h1 h2, hw]
  show (if items.length = ls.length then _ else none) = _
  rw [if_pos hl]
theorem okZ_get {f : D → Bool} : ∀ {ls : List Lt} {xs : List D} {i : Nat} {l : Lt} {x : D}, okZ f ls xs = true → ls[i]? = some l → xs[i]? = some x → okI f l x = true
  | [], _, _, _, _, _, h, _ => by simp at h
  | _ :: _, [], _, _, _, _, _, h => by simp at h
  | l :: ls, x :: xs, 0, l', x', h, h1, h2 => by
    simp at h1 h2
    subst h1 h2
    unfold okZ at h
    rw [Bool.and_eq_true] at h
    exact h.1
  | l :: ls, x :: xs, i + 1, l', x', h, h1, h2 => by
    unfold okZ at h
    rw [Bool.and_eq_true] at h
    exact okZ_get (i := i) h.2 (by simpa using h1) (by simpa using h2)
/-- the parts in one item -/
def innerOf (l : Lt) (x : D) : List D := if l = .e then [x] else if isRowL l = true then rowOf x else []
def partsZ : List Lt → List D → List D
  | l :: ls, x :: xs => innerOf l x ++ partsZ ls xs
  | _, _ => []
def partsM (v : D) : List D := match shape v with
  | some (_, ls, items) => partsZ ls items
  | none => []
theorem partsZ_snoc : ∀ {ls : List Lt} {xs : List D} {i : Nat} {l : Lt} {x : D}, ls[i]? = some l → xs[i]? = some x → partsZ (ls.take (i + 1)) (xs.take (i + 1)) = partsZ (ls.take i) (xs.take i) ++ innerOf l x
  | [], _, _, _, _, h, _ => by simp at h
  | _ :: _, [], _, _, _, _, h => by simp at h
  | l :: ls, x :: xs, 0, l', x', h1, h2 => by
    simp at h1 h2
    subst h1 h2
    simp [partsZ]
  | l :: ls, x :: xs, i + 1, l', x', h1, h2 => by
    have ih := partsZ_snoc (ls := ls) (xs := xs) (i := i) (l := l') (x := x') (by simpa using h1) (by simpa using h2)
    rw [List.take_succ_cons, List.take_succ_cons, List.take_succ_cons, List.take_succ_cons]
    show innerOf l x ++ partsZ (ls.take (i + 1)) (xs.take (i + 1)) = (innerOf l x ++ partsZ (ls.take i) (xs.take i)) ++ innerOf l' x'
    rw [ih, List.append_assoc]
def costL : Lt → Nat
  | .e => 1
  | .l => 6
  | .d => 6
  | .a => 6
  | _ => 0
theorem cost_shp {w : Str} {ls : List Lt} (h : shp w = some ls) : (ls.map costL).sum ≤ 7 := by
  have hall : (TB.all fun p => decide ((p.2.map costL).sum ≤ 7)) = true := by decide +kernel
  exact of_decide_eq_true (List.all_eq_true.mp hall _ (mem_lk h))
theorem inner_len {f : D → Bool} {l : Lt} {x : D} (h : okI f l x = true) : (innerOf l x).length ≤ costL l := by
  cases l <;> simp [innerOf, costL, isRowL] <;> simp [okI, isRowL] at h <;> exact h.2.1
theorem parts_len {f : D → Bool} : ∀ {ls : List Lt} {xs : List D}, okZ f ls xs = true → (partsZ ls xs).length ≤ (ls.map costL).sum
  | [], _, _ => by simp [partsZ]
  | l :: ls, [], _ => by simp [partsZ]
  | l :: ls, x :: xs, h => by
    unfold okZ at h
    rw [Bool.and_eq_true] at h
    have h1 := inner_len h.1
    have h2 := parts_len h.2
    show (innerOf l x ++ partsZ ls xs).length ≤ _
    rw [List.length_append, List.map_cons, List.sum_cons]
    omega
theorem inner_ok {f : D → Bool} {l : Lt} {x : D} (h : okI f l x = true) : ∀ p ∈ innerOf l x, f p = true := by
  intro p hp
  cases l <;> simp [innerOf, isRowL] at hp <;> simp [okI, isRowL] at h
  · rw [hp]; exact h
  all_goals exact h.2.2 p hp
theorem parts_ok {f : D → Bool} : ∀ {ls : List Lt} {xs : List D}, okZ f ls xs = true → ∀ p ∈ partsZ ls xs, f p = true
  | [], _, _, p, hp => by simp [partsZ] at hp
  | l :: ls, [], _, p, hp => by simp [partsZ] at hp
  | l :: ls, x :: xs, h, p, hp => by
    unfold okZ at h
    rw [Bool.and_eq_true] at h
    rcases List.mem_append.mp (show p ∈ innerOf l x ++ partsZ ls xs from hp) with hp | hp
    · exact inner_ok h.1 p hp
    · exact parts_ok h.2 p hp
theorem parts_take : ∀ (ls : List Lt) (xs : List D) (i : Nat), (partsZ (ls.take i) (xs.take i)).length ≤ (partsZ ls xs).length
  | _, _, 0 => by simp [partsZ]
  | [], _, _ + 1 => by simp [partsZ]
  | l :: ls, [], _ + 1 => by simp [partsZ]
  | l :: ls, x :: xs, i + 1 => by
    have ih := parts_take ls xs i
    rw [List.take_succ_cons, List.take_succ_cons]
    show (innerOf l x ++ partsZ (ls.take i) (xs.take i)).length ≤ (innerOf l x ++ partsZ ls xs).length
    rw [List.length_append, List.length_append]
    omega
theorem seven {n : Nat} (h : n ≤ 14) : n < sizeLine := Nat.lt_of_le_of_lt h (by decide)
def t_parts : DSp := p1 fun v Q => (∃ n, goodM (n + 1) v = true) ∧ Q (.d (.list (partsM v)))
theorem m_parts : Body 4 (b__law_parts t_shapes) t_parts := by
  intro as Wd Qd h
  obtain ⟨v, rfl, ⟨n, hg⟩, q⟩ := p1_of h
  clear h
  obtain ⟨b, w, ls, items, rfl, hw, hl, hz⟩ := goodM_succ hg
  have h3 := shp_short hw
  have hs : look SHP (.str w) = some (.str (lettersOf ls)) := by rw [shp_look, hw] <;> rfl
  have ep : partsM (mkRow b (.str w :: items)) = partsZ ls items := by
    unfold partsM
    rw [shape_mk hw hl]
  rw [ep] at q
  refine ⟨nle rfl, fun _ => ?_⟩
  refine oIx_row (b := b) (Int.le_refl 0) (by rfl) ?_
  refine oGet_some (x := .str (lettersOf ls)) hs (by rfl) ?_
  refine ⟨trivial, by rw [letters_len]; exact le_sz (by omega), ⟨by rw [letters_len]; omega, by rw [letters_len]; omega⟩, ?_⟩
  rw [letters_len, Int.toNat_natCast]
  refine dLoop_rng (fun i ρ => ∃ x3, ρ = [some (.d (mkRow b (.str w :: items))), some (.own (partsZ (ls.take i) (items.take i))), some (.d (.str (lettersOf ls))), x3]) ⟨none, by simp [partsZ] <;> rfl⟩ ?_ ?_
  · intro i hi ρ nx hr hn
    obtain ⟨x3, rfl⟩ := hr
    have hi2 : i < items.length := by omega
    have el : ls[i]? = some ls[i] := List.getElem?_eq_getElem hi
    have ei : items[i]? = some items[i] := List.getElem?_eq_getElem hi2
    have ho := okZ_get hz el ei
    have hsn := partsZ_snoc el ei
    have hlen : (partsZ (ls.take i) (items.take i)).length ≤ 7 := Nat.le_trans (parts_take ls items i) (Nat.le_trans (parts_len hz) (cost_shp hw))
    have e1 : (((i : Nat) : Int) + 1).toNat = i + 1 := by omega
    have eg : (PyData.str w :: items)[(((i : Nat) : Int) + 1).toNat]? = some items[i] := by
      rw [e1, List.getElem?_cons_succ, ei]
    have hsg : (lettersOf ls).cps.toList[((i : Nat) : Int).toNat]? = some (sgnc ls[i]) := by
      rw [Int.toNat_natCast, letters_list, List.getElem?_map, el] <;> rfl
    have hls : (lettersOf ls).length ≤ sizeLine := by rw [letters_len]; exact le_sz (by omega)
    generalize ls[i] = l at el ho hsn hsg
    generalize items[i] = x at ei ho hsn eg
    have done : ∀ x3, nx [some (.d (mkRow b (.str w :: items))), some (.own (partsZ (ls.take i) (items.take i) ++ innerOf l x)), some (.d (.str (lettersOf ls))), x3] := fun x3 => by
      rw [← hsn]
      exact hn _ ⟨x3, rfl⟩
    refine oIx_sat (c := sgnc l) hls (Int.natCast_nonneg i) hsg ?_
    cases l with
    | e =>
      refine oIx_row (b := b) (d := x) (by omega) eg ?_
      exact ⟨seven (by omega), done _⟩
    | l | d | a =>
      refine oIx_sat (c := sgnc _) hls (Int.natCast_nonneg i) hsg ?_
      refine ifT (inS_lda _) ?_
      refine oIx_row (b := b) (d := x) (by omega) eg ?_
      have ho2 := inner_len ho
      simp [okI, isRowL] at ho
      obtain ⟨bx, ex⟩ := row_of (xs := rowOf x) ho.1 rfl
      have hr2 := ho.2.1
      have dn : ∀ x3, nx [some (.d (mkRow b (.str w :: items))), some (.own (partsZ (ls.take i) (items.take i) ++ rowOf x)), some (.d (.str (lettersOf ls))), x3] := done
      generalize rowOf x = xs at ex dn hr2
      subst ex
      cases bx <;> exact ⟨Nat.le_of_lt (seven (by omega)), dn _⟩
    | _ =>
      refine oIx_sat (c := sgnc _) hls (Int.natCast_nonneg i) hsg ?_
      refine ifF (inS_lda _) ?_
      have dn := done (some (.d (.int ((i : Nat) : Int))))
      rw [show innerOf _ x = [] from rfl, List.append_nil] at dn
      exact dn
  · intro ρ hr
    obtain ⟨x3, rfl⟩ := hr
    rw [List.take_length, ← hl, List.take_length]
    exact ⟨trivial, q⟩
/-! ### walks -/
def walkL (f : D → List D → List D) : Nat → List D → List D → List D
  | _, [], _ => []
  | k, p :: ps, way => f p (way ++ [.int ((k : Nat) : Int)]) ++ walkL f (k + 1) ps way
def walkM : Nat → D → List D → List D
  | 0 => fun v way => [.tuple [.tuple way, v]]
  | n + 1 => fun v way => .tuple [.tuple way, v] :: walkL (walkM n) 0 (partsM v) way
theorem walkL_snoc {f : D → List D → List D} {way : List D} : ∀ {ps : List D} {i k : Nat} {p : D}, ps[i]? = some p → walkL f k (ps.take (i + 1)) way = walkL f k (ps.take i) way ++ f p (way ++ [.int ((k + i : Nat) : Int)])
  | [], _, _, _, h => by simp at h
  | q :: ps, 0, k, p, h => by
    simp at h
    subst h
    simp [walkL]
  | q :: ps, i + 1, k, p, h => by
    have ih := walkL_snoc (f := f) (way := way) (ps := ps) (i := i) (k := k + 1) (p := p) (by simpa using h)
    rw [List.take_succ_cons, List.take_succ_cons]
    show f q _ ++ walkL f (k + 1) (ps.take (i + 1)) way = (f q _ ++ walkL f (k + 1) (ps.take i) way) ++ _
    rw [ih, List.append_assoc, show k + 1 + i = k + (i + 1) by omega]
def cnt : Nat → Nat
  | 0 => 0
  | n + 1 => 1 + 7 * cnt n
theorem cnt_mono : ∀ {m n : Nat}, m ≤ n → cnt m ≤ cnt n
  | 0, _, _ => Nat.zero_le _
  | m + 1, n + 1, h => by
    have := cnt_mono (show m ≤ n by omega)
    unfold cnt
    omega
theorem cnt_9 : cnt 9 = 6725601 := by decide +kernel
theorem walkL_len {f : D → List D → List D} {c : Nat} : ∀ {ps : List D} {k : Nat} {way : List D}, (∀ p ∈ ps, ∀ way, (f p way).length ≤ c) → (walkL f k ps way).length ≤ ps.length * c
  | [], _, _, _ => by simp [walkL]
  | p :: ps, k, way, h => by
    have h1 := h p (List.mem_cons_self ..) (way ++ [.int ((k : Nat) : Int)])
    have h2 := walkL_len (k := k + 1) (way := way) fun p hp => h p (List.mem_cons_of_mem _ hp)
    show (f p _ ++ walkL f (k + 1) ps way).length ≤ _
    rw [List.length_append, List.length_cons, Nat.succ_mul]
    omega
theorem parts_good {n : Nat} {v : D} (h : goodM (n + 1) v = true) : (partsM v).length ≤ 7 ∧ ∀ p ∈ partsM v, goodM n p = true := by
  obtain ⟨b, w, ls, items, rfl, hw, hl, hz⟩ := goodM_succ h
  unfold partsM
  rw [shape_mk hw hl]
  exact ⟨Nat.le_trans (parts_len hz) (cost_shp hw), parts_ok hz⟩
theorem walkM_len : ∀ {n : Nat} {v : D} {way : List D}, goodM n v = true → (walkM n v way).length ≤ cnt n
  | 0, _, _, h => by cases h
  | n + 1, v, way, h => by
    obtain ⟨h1, h2⟩ := parts_good h
    have h3 := walkL_len (f := walkM n) (c := cnt n) (ps := partsM v) (k := 0) (way := way) fun p hp way => walkM_len (h2 p hp)
    have h4 : (partsM v).length * cnt n ≤ 7 * cnt n := Nat.mul_le_mul_right _ h1
    show (walkL (walkM n) 0 (partsM v) way).length + 1 ≤ 1 + 7 * cnt n
    omega
theorem walkL_take_le {f : D → List D → List D} {way : List D} : ∀ (ps : List D) (i k : Nat), (walkL f k (ps.take i) way).length ≤ (walkL f k ps way).length
  | _, 0, _ => by simp [walkL]
  | [], _ + 1, _ => by simp [walkL]
  | p :: ps, i + 1, k => by
    have ih := walkL_take_le (f := f) (way := way) ps i (k + 1)
    rw [List.take_succ_cons]
    show (f p _ ++ walkL f (k + 1) (ps.take i) way).length ≤ (f p _ ++ walkL f (k + 1) ps way).length
    rw [List.length_append, List.length_append]
    omega
def t_walk (n : Nat) : DSp := p2 fun v way Q => ∃ ws, way = .tuple ws ∧ (n ≤ 9 ∧ ws.length + n ≤ 500) ∧ goodM n v = true ∧ Q (.d (.list (walkM n v ws)))
theorem m_walk (n : Nat) : Body 5 (b__law_walk t_parts (t_walk n)) (t_walk (n + 1)) := by
  intro as Wd Qd h
  obtain ⟨v, way, rfl, ws, rfl, hn, hg, q⟩ := p2_of h
  clear h
  obtain ⟨h7, hps⟩ := parts_good hg
  refine ⟨trivial, trivial, nle rfl, trivial, nle rfl, ?_⟩
  refine ⟨trivial, ⟨n, hg⟩, fun _ => ⟨trivial, ?_⟩⟩
  refine ⟨⟨by omega, by omega⟩, ?_⟩
  rw [Int.toNat_natCast]
  have hfull : (walkL (walkM n) 0 (partsM v) ws).length ≤ 7 * cnt n := by
    have h3 := walkL_len (f := walkM n) (c := cnt n) (ps := partsM v) (k := 0) (way := ws) fun p hp way => walkM_len (hps p hp)
    exact Nat.le_trans h3 (Nat.mul_le_mul_right _ h7)
  have hc : 1 + 7 * cnt n ≤ 6725601 := by
    have := cnt_mono (show n + 1 ≤ 9 by omega)
    rw [cnt_9] at this
    exact this
  refine dLoop_rng (fun i ρ => ∃ x4, ρ = [some (.d v), some (.d (.tuple ws)), some (.own (.tuple [.tuple ws, v] :: walkL (walkM n) 0 ((partsM v).take i) ws)), some (.d (.list (partsM v))), x4]) ⟨none, by simp [walkL] <;> rfl⟩ ?_ ?_
  · intro i hi ρ nx hr hx
    obtain ⟨x4, rfl⟩ := hr
    have ei : (partsM v)[i]? = some (partsM v)[i] := List.getElem?_eq_getElem hi
    have hgi := hps _ (List.getElem_mem hi)
    have hsn := walkL_snoc (f := walkM n) (way := ws) (k := 0) ei
    rw [Nat.zero_add] at hsn
    have hle := walkL_take_le (f := walkM n) (way := ws) (partsM v) (i + 1) 0
    rw [hsn, List.length_append] at hle
    refine oIx_at (d := (partsM v)[i]) (Int.natCast_nonneg i) (by rw [Int.toNat_natCast]; exact ei) ?_
    refine ⟨trivial, nle rfl, le_sz (by show ws.length + 1 ≤ 1000; omega), trivial, trivial, ws ++ [.int ((i : Nat) : Int)], rfl, ⟨by omega, by rw [List.length_append, List.length_singleton]; omega⟩, hgi, fun _ => ⟨?_, ?_⟩⟩
    · show (_ :: _ : List D).length + _ ≤ _
      rw [List.length_cons, show sizeLine = 16777216 from sizeLine_eq]
      omega
    · refine hx _ ⟨some (.d (.int ((i : Nat) : Int))), ?_⟩
      rw [hsn]
      rfl
  · intro ρ hr
    obtain ⟨x4, rfl⟩ := hr
    rw [List.take_length]
    exact ⟨trivial, q⟩
end K

set_option Elab.async false
set_option linter.all false
set_option maxRecDepth 100000
set_option maxHeartbeats 4000000
namespace K
open PySem PySem.Spec PyProof.Rows L2 DL

def wItem (f : D → D) (l : Lt) (x : D) (m : Int) : D := if 0 ≤ m ∧ m < ((innerOf l x).length : Nat) then match (innerOf l x)[m.toNat]? with
    | some p => if l = .e then f p else .tuple ((innerOf l x).set m.toNat (f p))
    | none => x
  else x
def wZ (f : D → D) : List Lt → List D → Int → List D
  | l :: ls, x :: xs, m => wItem f l x m :: wZ f ls xs (m - ((innerOf l x).length : Nat))
  | _, _, _ => []
def mZ : List Lt → List D → Int → Int
  | l :: ls, x :: xs, m => mZ ls xs (m - ((innerOf l x).length : Nat))
  | _, _, m => m
def withM : Nat → D → List Int → D → D
  | 0 => fun v is piece => match is with
    | [] => piece
    | _ => v
  | n + 1 => fun v is piece => match is with
    | [] => piece
    | i :: r => match shape v with
      | some (w, ls, items) => .tuple (.str w :: wZ (fun p => withM n p r piece) ls items i)
      | none => v
theorem withM_nil (n : Nat) (v piece : D) : withM n v [] piece = piece := by cases n <;> rfl
theorem wZ_snoc {f : D → D} : ∀ {ls : List Lt} {xs : List D} {i : Nat} {l : Lt} {x : D} {m : Int}, ls[i]? = some l → xs[i]? = some x → wZ f (ls.take (i + 1)) (xs.take (i + 1)) m = wZ f (ls.take i) (xs.take i) m ++ [wItem f l x (mZ (ls.take i) (xs.take i) m)]
  | [], _, _, _, _, _, h, _ => by simp at h
  | _ :: _, [], _, _, _, _, _, h => by simp at h
  | l :: ls, x :: xs, 0, l', x', m, h1, h2 => by
    simp at h1 h2
    subst h1 h2
    simp [wZ, mZ]
  | l :: ls, x :: xs, i + 1, l', x', m, h1, h2 => by
    have ih := wZ_snoc (f := f) (ls := ls) (xs := xs) (i := i) (l := l') (x := x') (m := m - ((innerOf l x).length : Nat)) (by simpa using h1) (by simpa using h2)
    rw [List.take_succ_cons, List.take_succ_cons, List.take_succ_cons, List.take_succ_cons]
    show wItem f l x m :: wZ f (ls.take (i + 1)) (xs.take (i + 1)) _ = (wItem f l x m :: wZ f (ls.take i) (xs.take i) _) ++ _
    rw [ih] <;> rfl
theorem mZ_snoc : ∀ {ls : List Lt} {xs : List D} {i : Nat} {l : Lt} {x : D} {m : Int}, ls[i]? = some l → xs[i]? = some x → mZ (ls.take (i + 1)) (xs.take (i + 1)) m = mZ (ls.take i) (xs.take i) m - ((innerOf l x).length : Nat)
  | [], _, _, _, _, _, h, _ => by simp at h
  | _ :: _, [], _, _, _, _, _, h => by simp at h
  | l :: ls, x :: xs, 0, l', x', m, h1, h2 => by
    simp at h1 h2
    subst h1 h2
    simp [mZ]
  | l :: ls, x :: xs, i + 1, l', x', m, h1, h2 => by
    have ih := mZ_snoc (ls := ls) (xs := xs) (i := i) (l := l') (x := x') (m := m - ((innerOf l x).length : Nat)) (by simpa using h1) (by simpa using h2)
    rw [List.take_succ_cons, List.take_succ_cons, List.take_succ_cons, List.take_succ_cons]
    exact ih
theorem wZ_len {f : D → D} : ∀ {ls : List Lt} {xs : List D} {m : Int}, xs.length = ls.length → (wZ f ls xs m).length = ls.length
  | [], [], _, _ => rfl
  | [], _ :: _, _, h => by cases h
  | _ :: _, [], _, h => by cases h
  | l :: ls, x :: xs, m, h => by
    have ih := wZ_len (f := f) (ls := ls) (xs := xs) (m := m - ((innerOf l x).length : Nat)) (by simpa using h)
    show (wZ f ls xs _).length + 1 = _
    rw [ih] <;> rfl
theorem set_mid {α : Type} (a : α) : ∀ (A : List α) (x y : α) (r : List α) (i : Nat), A.length = i → (a :: (A ++ x :: r)).set (i + 1) y = a :: (A ++ y :: r)
  | [], x, y, r, i, h => by
    have e : i = 0 := h.symm
    subst e
    rfl
  | b :: A, x, y, r, i, h => by
    cases i with
    | zero => cases h
    | succ i =>
      have ih := set_mid b A x y r i (by simpa using h)
      show a :: (b :: (A ++ x :: r)).set (i + 1) y = _
      rw [ih] <;> rfl
theorem ixN_of {n i : Nat} (h : i < n) : ixN n ((i : Nat) : Int) = some i := by
  unfold ixN
  rw [if_pos (Int.natCast_nonneg i), if_pos (by omega), Int.toNat_natCast]
theorem setAt_at {xs : List D} {i : Nat} {d : D} {Q : List D → Prop} (h : i < xs.length) (q : Q (xs.set i d)) : setAt xs ((i : Nat) : Int) d Q := by
  unfold setAt
  rw [ixN_of h]
  exact q
theorem oIx_own {ds : List D} {i : Int} {d : D} {Q : DV → Prop} (h : 0 ≤ i) (e : ds[i.toNat]? = some d) (q : Q (.d d)) : oIx (.own ds) (.d (.int i)) Q := by
  obtain ⟨x, e1, e2⟩ := atI_in (xs := ds) h (by have := (List.getElem?_eq_some_iff.mp e).1; omega)
  unfold oIx
  simp only [e1]
  rw [e] at e2
  cases e2
  exact q
theorem cut_ints (i : Int) (is : List Int) : DL.cutD ((i :: is).map PyData.int) (some 1) none = is.map .int := by
  rw [List.map_cons, cutD_1]
def t_with (n : Nat) : DSp := p3 fun v way piece Q => ∃ is : List Int, way = .tuple (is.map .int) ∧ (is = [] ∨ goodM n v = true) ∧ Q (.d (withM n v is piece))
theorem m_with_ex {n : Nat} {v piece : D} {sh : Str} {i0 : Int} {is : List Int} {R inn : List D} {l : Lt} {m : Int} {i : Nat} {Wd : XD → Prop} {Qd : DV → Prop} {bk nx : Ro → Prop} (hz : sh.length ≤ sizeLine) (hsg : sh.cps.toList[((i : Nat) : Int).toNat]? = some (sgnc l)) (hR : i + 1 < R.length)
    (hg : ∀ p ∈ inn, goodM n p = true)
    (h1 : ¬ (0 ≤ m ∧ m < ((inn.length : Nat) : Int)) → nx [some (.d v), some (.d (.tuple ((i0 :: is).map .int))), some (.d piece), some (.own R), some (.d (.str sh)), some (.d (.int (m - ((inn.length : Nat) : Int)))), some (.d (.int ((i : Nat) : Int))), some (.own inn)])
    (h2 : ∀ (k : Nat) (p z : D), m = ((k : Nat) : Int) → inn[k]? = some p → (inn.set k (withM n p is piece))[0]? = some z →
      nx [some (.d v), some (.d (.tuple ((i0 :: is).map .int))), some (.d piece), some (.own (R.set (i + 1) (if l = .e then z else .tuple (inn.set k (withM n p is piece))))), some (.d (.str sh)), some (.d (.int (m - ((inn.length : Nat) : Int)))), some (.d (.int ((i : Nat) : Int))), some (.own (inn.set k (withM n p is piece)))]) :
    b__law_with_q2 t_shapes (t_with n) { dE Wd Qd with nx := nx, ct := nx, bk := bk }
      [some (.d v), some (.d (.tuple ((i0 :: is).map .int))), some (.d piece), some (.own R), some (.d (.str sh)), some (.d (.int m)), some (.d (.int ((i : Nat) : Int))), some (.own inn)] := by
  refine ifB (fun e => ?_) fun e => ?_
  · have m0 : 0 ≤ m := of_decide_eq_true e
    refine ifB (fun e => ?_) fun e => ?_
    · have m1 : m < ((inn.length : Nat) : Int) := of_decide_eq_true e
      obtain ⟨k, rfl⟩ := Int.eq_ofNat_of_zero_le m0
      have hk : k < inn.length := by omega
      have ek : inn[k]? = some inn[k] := List.getElem?_eq_getElem hk
      refine oIx_own (d := inn[k]) m0 (by rw [Int.toNat_natCast]; exact ek) ?_
      refine ⟨trivial, trivial, trivial, is, by rw [cut_ints], .inr (hg _ (List.getElem_mem hk)), fun _ => ?_⟩
      refine setAt_at hk ?_
      have hl : (inn.set k (withM n inn[k] is piece)).length = inn.length := List.length_set
      have h0 : 0 < (inn.set k (withM n inn[k] is piece)).length := by omega
      have ez : (inn.set k (withM n inn[k] is piece))[0]? = some (inn.set k (withM n inn[k] is piece))[0] := List.getElem?_eq_getElem h0
      have fin := h2 k inn[k] _ rfl ek ez
      refine oIx_own (d := (inn.set k (withM n inn[k] is piece))[0]) (Int.le_refl 0) ez ?_
      refine ⟨trivial, trivial, nle rfl, ?_⟩
      refine oIx_sat (c := sgnc l) hz (Int.natCast_nonneg i) hsg ?_
      have ci : ((i : Nat) : Int) + 1 = ((i + 1 : Nat) : Int) := by omega
      have tail : ∀ y : D, y = (if l = .e then (inn.set k (withM n inn[k] is piece))[0] else .tuple (inn.set k (withM n inn[k] is piece))) →
          setAt R (((i : Nat) : Int) + 1) y fun ys => b__law_with_q1 t_shapes (t_with n) { dE Wd Qd with nx := nx, ct := nx, bk := bk } [some (.d v), some (.d (.tuple ((i0 :: is).map .int))), some (.d piece), some (.own ys), some (.d (.str sh)), some (.d (.int ((k : Nat) : Int))), some (.d (.int ((i : Nat) : Int))), some (.own (inn.set k (withM n inn[k] is piece)))] := fun y hy => by
        rw [ci]
        refine setAt_at hR ?_
        rw [hy]
        have fin2 := fin
        rw [← hl] at fin2
        exact ⟨trivial, fin2⟩
      cases l with
      | e =>
        refine oIx_at (i := 1) (by decide) (by rfl) ?_
        exact tail _ (by simp)
      | _ =>
        refine oIx_at (i := 0) (by decide) (by rfl) ?_
        exact tail _ (by simp)
    · have m1 : ¬ m < ((inn.length : Nat) : Int) := of_decide_eq_false e
      exact ⟨trivial, h1 fun h => m1 h.2⟩
  · have m0 : ¬ 0 ≤ m := of_decide_eq_false e
    exact ⟨trivial, h1 fun h => m0 h.1⟩
theorem m_with_step {n : Nat} {b : Bool} {w : Str} {ls : List Lt} {items : List D} (hw : shp w = some ls) (hl : items.length = ls.length) (hz : okZ (goodM n) ls items = true) {i0 : Int} {is : List Int} {piece : D} {Wd : XD → Prop} {Qd : DV → Prop} {bk : Ro → Prop}
    (i : Nat) (hi : i < ls.length) (x6 x7 : Option DV) (nx : Ro → Prop)
    (hn : ∀ x6 x7, nx [some (.d (mkRow b (.str w :: items))), some (.d (.tuple ((i0 :: is).map .int))), some (.d piece), some (.own (.str w :: (wZ (fun p => withM n p is piece) (ls.take (i + 1)) (items.take (i + 1)) i0 ++ items.drop (i + 1)))), some (.d (.str (lettersOf ls))), some (.d (.int (mZ (ls.take (i + 1)) (items.take (i + 1)) i0))), x6, x7]) :
    b__law_with_f0 t_shapes (t_with n) { dE Wd Qd with nx := nx, ct := nx, bk := bk }
      [some (.d (mkRow b (.str w :: items))), some (.d (.tuple ((i0 :: is).map .int))), some (.d piece), some (.own (.str w :: (wZ (fun p => withM n p is piece) (ls.take i) (items.take i) i0 ++ items.drop i))), some (.d (.str (lettersOf ls))), some (.d (.int (mZ (ls.take i) (items.take i) i0))), some (.d (.int ((i : Nat) : Int))), x7] := by
  have h3 := shp_short hw
  have hi2 : i < items.length := by omega
  have el : ls[i]? = some ls[i] := List.getElem?_eq_getElem hi
  have ei : items[i]? = some items[i] := List.getElem?_eq_getElem hi2
  have ho := okZ_get hz el ei
  have e1 : (((i : Nat) : Int) + 1).toNat = i + 1 := by omega
  have eg : (PyData.str w :: items)[(((i : Nat) : Int) + 1).toNat]? = some items[i] := by
    rw [e1, List.getElem?_cons_succ, ei]
  have hsg : (lettersOf ls).cps.toList[((i : Nat) : Int).toNat]? = some (sgnc ls[i]) := by
    rw [Int.toNat_natCast, letters_list, List.getElem?_map, el] <;> rfl
  have hls : (lettersOf ls).length ≤ sizeLine := by rw [letters_len]; exact le_sz (by omega)
  have hd : items.drop i = items[i] :: items.drop (i + 1) := List.drop_eq_getElem_cons hi2
  rw [wZ_snoc el ei, mZ_snoc el ei] at hn
  have hwl : (wZ (fun p => withM n p is piece) (ls.take i) (items.take i) i0).length = i := by
    rw [wZ_len (by rw [List.length_take, List.length_take]; omega), List.length_take]
    omega
  rw [hd]
  generalize ls[i] = l at el ho hsg hn
  generalize items[i] = x at ei ho eg hn
  generalize wZ (fun p => withM n p is piece) (ls.take i) (items.take i) i0 = A at hwl hn
  generalize mZ (ls.take i) (items.take i) i0 = m at hn
  generalize items.drop (i + 1) = B at hn
  have rl : (PyData.str w :: (A ++ x :: B)).length > i + 1 := by
    rw [List.length_cons, List.length_append, List.length_cons]
    omega
  have ci : ((i : Nat) : Int) + 1 = ((i + 1 : Nat) : Int) := by omega
  -- no part is exchanged here
  have keep : ∀ x7, wItem (fun p => withM n p is piece) l x m = x → nx [some (.d (mkRow b (.str w :: items))), some (.d (.tuple ((i0 :: is).map .int))), some (.d piece), some (.own (.str w :: (A ++ x :: B))), some (.d (.str (lettersOf ls))), some (.d (.int (m - ((innerOf l x).length : Nat)))), some (.d (.int ((i : Nat) : Int))), x7] := fun x7 he => by
    have := hn (some (.d (.int ((i : Nat) : Int)))) x7
    rw [he, List.append_assoc] at this
    exact this
  have hgi := inner_ok ho
  -- a part is exchanged
  have change : ∀ (k : Nat) (p z : D) (x7 : Option DV), m = ((k : Nat) : Int) → (innerOf l x)[k]? = some p → ((innerOf l x).set k (withM n p is piece))[0]? = some z →
      nx [some (.d (mkRow b (.str w :: items))), some (.d (.tuple ((i0 :: is).map .int))), some (.d piece), some (.own ((.str w :: (A ++ x :: B)).set (i + 1) (if l = .e then z else .tuple ((innerOf l x).set k (withM n p is piece))))), some (.d (.str (lettersOf ls))), some (.d (.int (m - ((innerOf l x).length : Nat)))), some (.d (.int ((i : Nat) : Int))), x7] := fun k p z x7 hm hp hz0 => by
    have hk : k < (innerOf l x).length := (List.getElem?_eq_some_iff.mp hp).1
    have ew : wItem (fun p => withM n p is piece) l x m = if l = .e then z else .tuple ((innerOf l x).set k (withM n p is piece)) := by
      unfold wItem
      rw [if_pos (by omega), hm, Int.toNat_natCast, hp]
      by_cases he : l = .e
      · subst he
        have ex : innerOf .e x = [x] := rfl
        rw [ex] at hk hz0
        have k0 : k = 0 := by simpa using hk
        subst k0
        simp at hz0
        simp [hz0]
      · simp [he]
    have := hn (some (.d (.int ((i : Nat) : Int)))) x7
    rw [ew, List.append_assoc] at this
    rw [set_mid _ A _ _ _ _ hwl]
    exact this
  have same : ∀ x7, ¬ (0 ≤ m ∧ m < (((innerOf l x).length : Nat) : Int)) → nx [some (.d (mkRow b (.str w :: items))), some (.d (.tuple ((i0 :: is).map .int))), some (.d piece), some (.own (.str w :: (A ++ x :: B))), some (.d (.str (lettersOf ls))), some (.d (.int (m - ((innerOf l x).length : Nat)))), some (.d (.int ((i : Nat) : Int))), x7] := fun x7 hm => keep x7 (by
    unfold wItem
    rw [if_neg hm])
  have ex := m_with_ex (n := n) (v := mkRow b (.str w :: items)) (piece := piece) (sh := lettersOf ls) (i0 := i0) (is := is) (R := .str w :: (A ++ x :: B)) (inn := innerOf l x) (l := l) (m := m) (i := i) (Wd := Wd) (Qd := Qd) (bk := bk) (nx := nx) hls hsg rl hgi (same _) (fun k p z h1 h2 h3 => change k p z _ h1 h2 h3)
  refine ⟨nle rfl, ?_⟩
  refine oIx_sat (c := sgnc l) hls (Int.natCast_nonneg i) hsg ?_
  cases l with
  | e =>
    refine oIx_row (b := b) (d := x) (by omega) eg ?_
    exact ⟨trivial, nle rfl, ex⟩
  | l | d | a =>
    refine oIx_sat (c := sgnc _) hls (Int.natCast_nonneg i) hsg ?_
    refine ifT (inS_lda _) ?_
    refine oIx_row (b := b) (d := x) (by omega) eg ?_
    simp [okI, isRowL] at ho
    obtain ⟨bx, e2⟩ := row_of (xs := rowOf x) ho.1 rfl
    have ex2 : b__law_with_q2 t_shapes (t_with n) { dE Wd Qd with nx := nx, ct := nx, bk := bk }
      [some (.d (mkRow b (.str w :: items))), some (.d (.tuple ((i0 :: is).map .int))), some (.d piece), some (.own (.str w :: (A ++ x :: B))), some (.d (.str (lettersOf ls))), some (.d (.int m)), some (.d (.int ((i : Nat) : Int))), some (.own (rowOf x))] := ex
    revert ex2
    generalize hxs : rowOf x = xs at e2 ⊢
    intro ex2
    rw [e2]
    rw [e2] at ex2
    cases bx <;> exact ex2
  | _ =>
    refine oIx_sat (c := sgnc _) hls (Int.natCast_nonneg i) hsg ?_
    refine ifF (inS_lda _) ?_
    exact ex
theorem m_with_rest {n : Nat} {b : Bool} {w : Str} {ls : List Lt} {items : List D} (hw : shp w = some ls) (hl : items.length = ls.length) (hz : okZ (goodM n) ls items = true) {i0 : Int} {is : List Int} {piece : D} {Wd : XD → Prop} {Qd : DV → Prop} {x4 x5 x6 x7 : Option DV}
    (q : Qd (.d (withM (n + 1) (mkRow b (.str w :: items)) (i0 :: is) piece))) :
    b__law_with_2 t_shapes (t_with n) (dE Wd Qd) [some (.d (mkRow b (.str w :: items))), some (.d (.tuple ((i0 :: is).map .int))), some (.d piece), some (.own (.str w :: items)), x4, x5, x6, x7] := by
  have h3 := shp_short hw
  have hs : look SHP (.str w) = some (.str (lettersOf ls)) := by rw [shp_look, hw] <;> rfl
  refine fun _ => ?_
  refine oIx_row (b := b) (Int.le_refl 0) (by rfl) ?_
  refine oGet_some (x := .str (lettersOf ls)) hs (by rfl) ?_
  refine ⟨trivial, ?_⟩
  refine oIx_tup (d := .int i0) (Int.le_refl 0) (by rfl) ?_
  refine ⟨trivial, by rw [letters_len]; exact le_sz (by omega), ⟨by rw [letters_len]; omega, by rw [letters_len]; omega⟩, ?_⟩
  rw [letters_len, Int.toNat_natCast]
  have ew : withM (n + 1) (mkRow b (.str w :: items)) (i0 :: is) piece = .tuple (.str w :: wZ (fun p => withM n p is piece) ls items i0) := by
    show (match shape (mkRow b (.str w :: items)) with
      | some (w, ls, items) => _
      | none => _) = _
    rw [shape_mk hw hl]
  rw [ew] at q
  refine dLoop_rng (fun i ρ => ∃ x6 x7, ρ = [some (.d (mkRow b (.str w :: items))), some (.d (.tuple ((i0 :: is).map .int))), some (.d piece), some (.own (.str w :: (wZ (fun p => withM n p is piece) (ls.take i) (items.take i) i0 ++ items.drop i))), some (.d (.str (lettersOf ls))), some (.d (.int (mZ (ls.take i) (items.take i) i0))), x6, x7]) ⟨x6, x7, by simp [wZ, mZ] <;> rfl⟩ ?_ ?_
  · intro i hi ρ nx hr hn
    obtain ⟨x6, x7, rfl⟩ := hr
    exact m_with_step hw hl hz i hi x6 x7 nx fun x6 x7 => hn _ ⟨x6, x7, rfl⟩
  · intro ρ hr
    obtain ⟨x6, x7, rfl⟩ := hr
    rw [List.take_length, ← hl, List.take_length, List.drop_length, List.append_nil]
    exact ⟨trivial, q⟩
theorem m_with (n : Nat) : Body 8 (b__law_with t_shapes (t_with n)) (t_with (n + 1)) := by
  intro as Wd Qd h
  obtain ⟨v, way, piece, rfl, is, rfl, hg, q⟩ := p3_of h
  clear h
  cases is with
  | nil =>
    rw [withM_nil] at q
    exact ⟨trivial, q⟩
  | cons i0 is =>
    have hg : goodM (n + 1) v = true := hg.resolve_left (fun z => nomatch z)
    obtain ⟨b, w, ls, items, rfl, hw, hl, hz⟩ := goodM_succ hg
    cases b
    · exact m_with_rest (b := false) hw hl hz q
    · exact m_with_rest (b := true) hw hl hz q
theorem m_with0 (tW : DSp) : Body 8 (b__law_with t_shapes tW) (t_with 0) := by
  intro as Wd Qd h
  obtain ⟨v, way, piece, rfl, is, rfl, hg, q⟩ := p3_of h
  have e : is = [] := hg.resolve_right (fun z => nomatch z)
  subst e
  exact ⟨trivial, q⟩
end K

set_option Elab.async false
set_option linter.all false
set_option maxRecDepth 100000
set_option maxHeartbeats 4000000
namespace K
open PySem PySem.Spec PyProof.Rows L2 DL

/-! ### what a generated expression is -/
theorem zip_len {R : Lt → D → Prop} : ∀ {ls : List Lt} {xs : List D}, ZipP R ls xs → xs.length = ls.length
  | [], [], _ => rfl
  | [], _ :: _, h => h.elim
  | _ :: _, [], h => h.elim
  | l :: ls, x :: xs, h => by
    rw [List.length_cons, List.length_cons, zip_len h.2]
theorem isRow_mk (b : Bool) (xs : List D) : isRow (mkRow b xs) = true := by cases b <;> rfl
theorem rowOf_mk (b : Bool) (xs : List D) : rowOf (mkRow b xs) = xs := by cases b <;> rfl
theorem ok_item {P : D → Prop} {f : D → Bool} (hP : ∀ d, P d → f d = true) {l : Lt} {x : D} (h : ItG P l x) : okI f l x = true := by
  cases l with
  | e => simpa [okI] using hP x h
  | l | d | a =>
    obtain ⟨b, xs, rfl, h1, h2⟩ := h
    simp only [okI, isRow_mk, rowOf_mk, isRowL]
    simp
    exact ⟨by omega, fun x hx => hP x (h2 x hx)⟩
  | _ => simp [okI, isRowL]
theorem ok_zip {P : D → Prop} {f : D → Bool} (hP : ∀ d, P d → f d = true) : ∀ {ls : List Lt} {xs : List D}, ZipP (ItG P) ls xs → okZ f ls xs = true
  | [], [], _ => rfl
  | [], _ :: _, h => h.elim
  | _ :: _, [], h => h.elim
  | l :: ls, x :: xs, h => by
    unfold okZ
    rw [ok_item hP h.1, ok_zip hP h.2] <;> rfl
theorem ex_good : ∀ {n : Nat} {d : D}, Ex n d → goodM n d = true
  | 0, _, h => h.elim
  | n + 1, d, h => by
    obtain ⟨b, w, ls, items, rfl, hw, hz⟩ := h
    show (match shape (mkRow b (.str w :: items)) with
      | some (_, ls, items) => okZ (goodM n) ls items
      | none => false) = true
    rw [shape_mk hw (zip_len hz)]
    exact ok_zip (fun d hd => ex_good hd) hz
theorem okI_mono {f g : D → Bool} (h : ∀ d, f d = true → g d = true) {l : Lt} {x : D} (q : okI f l x = true) : okI g l x = true := by
  cases l with
  | e => simp only [okI, if_true] at q ⊢; exact h x q
  | l | d | a =>
    simp [okI, isRowL] at q ⊢
    exact ⟨q.1, q.2.1, fun x hx => h x (q.2.2 x hx)⟩
  | _ => simp [okI, isRowL]
theorem okZ_mono {f g : D → Bool} (h : ∀ d, f d = true → g d = true) : ∀ {ls : List Lt} {xs : List D}, okZ f ls xs = true → okZ g ls xs = true
  | [], xs, _ => by cases xs <;> rfl
  | l :: ls, [], _ => rfl
  | l :: ls, x :: xs, q => by
    unfold okZ at q ⊢
    rw [Bool.and_eq_true] at q
    rw [okI_mono h q.1, okZ_mono h q.2] <;> rfl
theorem good_mono : ∀ {n : Nat} {d : D}, goodM n d = true → goodM (n + 1) d = true
  | 0, _, h => by cases h
  | n + 1, d, h => by
    obtain ⟨b, w, ls, items, rfl, hw, hl, hz⟩ := goodM_succ h
    show (match shape (mkRow b (.str w :: items)) with
      | some (_, ls, items) => okZ (goodM (n + 1)) ls items
      | none => false) = true
    rw [shape_mk hw hl]
    exact okZ_mono (fun d hd => good_mono hd) hz
theorem good_le {m n : Nat} {d : D} (h : goodM m d = true) (l : m ≤ n) : goodM n d = true := by
  induction l with
  | refl => exact h
  | step _ ih => exact good_mono ih
/-! fine -/
theorem shp_word {w : Str} {ls : List Lt} (h : shp w = some ls) : wS 8 w ∧ ls.length ≤ 3 := by
  have hm := mem_lk h
  have hall : (TB.all fun p => decide (p.1.length ≤ 8) && okS p.1) = true := by decide +kernel
  exact ⟨wS_lit (List.all_eq_true.mp hall _ hm), shp_short h⟩
theorem fine_item {P : D → Prop} (hP : ∀ d, P d → fineD d = true) {l : Lt} {x : D} (h : ItG P l x) : fineD x = true := by
  cases l with
  | e => exact hP x h
  | l | d | a =>
    obtain ⟨b, xs, rfl, h1, h2⟩ := h
    exact fine_mk b (by omega) fun x hx => hP x (h2 x hx)
  | n | m =>
    obtain ⟨i, rfl, hi⟩ := h
    exact fine_i (by omega)
  | o | c =>
    obtain ⟨s, rfl, hs⟩ := h
    exact fine_s hs (by decide)
  | x | t =>
    obtain ⟨s, rfl, hs⟩ := h
    exact fine_s hs (by decide)
theorem fine_zip {P : D → Prop} (hP : ∀ d, P d → fineD d = true) : ∀ {ls : List Lt} {xs : List D}, ZipP (ItG P) ls xs → ∀ x ∈ xs, fineD x = true
  | [], [], _, x, hx => nomatch hx
  | [], _ :: _, h, _, _ => h.elim
  | _ :: _, [], h, _, _ => h.elim
  | l :: ls, y :: xs, h, x, hx => by
    rcases List.mem_cons.mp hx with rfl | hx
    · exact fine_item hP h.1
    · exact fine_zip hP h.2 x hx
theorem ex_fine : ∀ {n : Nat} {d : D}, Ex n d → fineD d = true
  | 0, _, h => h.elim
  | n + 1, d, h => by
    obtain ⟨b, w, ls, items, rfl, hw, hz⟩ := h
    obtain ⟨h1, h3⟩ := shp_word hw
    have hl := zip_len hz
    refine fine_mk b (by rw [List.length_cons]; omega) fun x hx => ?_
    rcases List.mem_cons.mp hx with rfl | hx
    · exact fine_s h1 (by decide)
    · exact fine_zip (fun d hd => ex_fine hd) hz x hx
/-! how long -/
def szE : Nat → Nat
  | 0 => 5
  | n + 1 => 6 * szE n + 24
/-- (how many expressions, how much else) -/
def coef : Lt → Nat × Nat
  | .e => (1, 2)
  | .l => (4, 12)
  | .d => (6, 16)
  | .a => (3, 10)
  | .n => (0, 13)
  | .m => (0, 13)
  | .o => (0, 12)
  | .c => (0, 12)
  | .x => (0, 44)
  | .t => (0, 44)
theorem sz_rows {P : D → Prop} {S : Nat} (hP : ∀ d, P d → rsz d ≤ S) : ∀ {xs : List D}, (∀ x ∈ xs, P x) → rszAll xs ≤ xs.length * (S + 2)
  | [], _ => Nat.zero_le _
  | x :: xs, h => by
    have h1 := hP x (h x (List.mem_cons_self ..))
    have h2 := sz_rows hP fun y hy => h y (List.mem_cons_of_mem _ hy)
    rw [List.length_cons, Nat.succ_mul]
    show (rsz x + 2) + rszAll xs ≤ _
    omega
theorem sz_item {P : D → Prop} {S : Nat} (hP : ∀ d, P d → rsz d ≤ S) {l : Lt} {x : D} (h : ItG P l x) : rsz x + 2 ≤ (coef l).1 * S + (coef l).2 := by
  cases l with
  | e =>
    have := hP x h
    simp [coef]
    omega
  | l | d | a =>
    obtain ⟨b, xs, rfl, h1, h2⟩ := h
    have h3 := sz_rows hP h2
    have h4 := Nat.mul_le_mul_right (S + 2) h1
    rw [rsz_row]
    simp only [coef]
    omega
  | n | m =>
    obtain ⟨i, rfl, hi⟩ := h
    simp [coef, rsz]
  | o | c =>
    obtain ⟨s, rfl, hs⟩ := h
    have := strSz_le hs
    simp [coef, rsz]
    omega
  | x | t =>
    obtain ⟨s, rfl, hs⟩ := h
    have := strSz_le hs
    simp [coef, rsz]
    omega
theorem sz_zip {P : D → Prop} {S : Nat} (hP : ∀ d, P d → rsz d ≤ S) : ∀ {ls : List Lt} {xs : List D}, ZipP (ItG P) ls xs → rszAll xs ≤ (ls.map fun l => (coef l).1).sum * S + (ls.map fun l => (coef l).2).sum
  | [], [], _ => Nat.zero_le _
  | [], _ :: _, h => h.elim
  | _ :: _, [], h => h.elim
  | l :: ls, x :: xs, h => by
    have h1 := sz_item hP h.1
    have h2 := sz_zip hP h.2
    rw [List.map_cons, List.map_cons, List.sum_cons, List.sum_cons, Nat.add_mul]
    show (rsz x + 2) + rszAll xs ≤ _
    omega
/-- without expressions below: only those rows that ask for none -/
theorem sz_zip0 : ∀ {ls : List Lt} {xs : List D}, ZipP (ItG fun _ => False) ls xs → .e ∉ ls ∧ rszAll xs ≤ (ls.map fun l => if isRowL l = true then 4 else (coef l).2).sum
  | [], [], _ => ⟨by simp, Nat.zero_le _⟩
  | [], _ :: _, h => h.elim
  | _ :: _, [], h => h.elim
  | l :: ls, x :: xs, h => by
    obtain ⟨h1, h2⟩ := sz_zip0 h.2
    have hx : l ≠ .e ∧ rsz x + 2 ≤ if isRowL l = true then 4 else (coef l).2 := by
      have hi := h.1
      cases l with
      | e => exact hi.elim
      | l | d | a =>
        obtain ⟨b, xs, rfl, h3, h4⟩ := hi
        have e : xs = [] := by
          cases xs with
          | nil => rfl
          | cons y r => exact (h4 y (List.mem_cons_self ..)).elim
        subst e
        rw [rsz_row]
        exact ⟨by decide, by decide⟩
      | n | m | o | c | x | t =>
        have := sz_item (S := 0) (fun d hd => hd.elim) hi
        simpa [coef, isRowL] using this
    refine ⟨?_, ?_⟩
    · simp only [List.mem_cons, not_or]
      exact ⟨fun e => hx.1 e.symm, h1⟩
    · rw [List.map_cons, List.sum_cons]
      show (rsz x + 2) + rszAll xs ≤ _
      omega
theorem szE_ge : ∀ n, 54 ≤ szE (n + 1)
  | 0 => by decide
  | n + 1 => by
    have := szE_ge n
    show 54 ≤ 6 * szE (n + 1) + 24
    omega
theorem ex_size : ∀ {n : Nat} {d : D}, Ex n d → rsz d ≤ szE n
  | 0, _, h => h.elim
  | 1, d, h => by
    obtain ⟨b, w, ls, items, rfl, hw, hz⟩ := h
    have hm := mem_lk hw
    obtain ⟨h1, h2⟩ := sz_zip0 hz
    have hall : (TB.all fun p => p.2.contains .e || decide (2 + (strSz p.1 + 2) + (p.2.map fun l => if isRowL l = true then 4 else (coef l).2).sum ≤ 54)) = true := by decide +kernel
    have h3 := List.all_eq_true.mp hall _ hm
    rw [Bool.or_eq_true] at h3
    have h4 : 2 + (strSz w + 2) + (ls.map fun l => if isRowL l = true then 4 else (coef l).2).sum ≤ 54 := of_decide_eq_true (h3.resolve_left (by simpa using h1))
    rw [rsz_row]
    show 2 + ((strSz w + 2) + rszAll items) ≤ 54
    omega
  | n + 2, d, h => by
    obtain ⟨b, w, ls, items, rfl, hw, hz⟩ := h
    have hm := mem_lk hw
    have h1 := sz_zip (fun d hd => ex_size hd) hz
    have h54 := szE_ge n
    have hall : (TB.all fun p => decide ((p.2.map fun l => (coef l).1).sum ≤ 6) && decide (2 + (strSz p.1 + 2) + (p.2.map fun l => (coef l).2).sum ≤ 24 + (6 - (p.2.map fun l => (coef l).1).sum) * 54)) = true := by decide +kernel
    have h3 := List.all_eq_true.mp hall _ hm
    rw [Bool.and_eq_true] at h3
    have h4 : (ls.map fun l => (coef l).1).sum ≤ 6 := of_decide_eq_true h3.1
    have h5 : 2 + (strSz w + 2) + (ls.map fun l => (coef l).2).sum ≤ 24 + (6 - (ls.map fun l => (coef l).1).sum) * 54 := of_decide_eq_true h3.2
    rw [rsz_row]
    show 2 + ((strSz w + 2) + rszAll items) ≤ 6 * szE (n + 1) + 24
    generalize (ls.map fun l => (coef l).1).sum = A at h1 h4 h5
    generalize (ls.map fun l => (coef l).2).sum = C at h1 h5
    generalize szE (n + 1) = S at h1 h54 ⊢
    have h6 : (6 - A) * 54 ≤ (6 - A) * S := Nat.mul_le_mul_left _ h54
    have h7 : A * S + (6 - A) * S = 6 * S := by rw [← Nat.add_mul, Nat.add_sub_cancel' h4]
    omega
theorem szE_8 : szE 8 = 16460232 := by decide +kernel
/-! ### an exchange: fine, and not much longer -/
theorem rszAll_set : ∀ {xs : List D} {k : Nat} {p y : D} {P : Nat}, xs[k]? = some p → rsz y ≤ rsz p + P → rszAll (xs.set k y) ≤ rszAll xs + P
  | [], _, _, _, _, h, _ => by simp at h
  | x :: xs, 0, p, y, P, h, hy => by
    simp at h
    subst h
    show (rsz y + 2) + rszAll xs ≤ (rsz x + 2) + rszAll xs + P
    omega
  | x :: xs, k + 1, p, y, P, h, hy => by
    have ih := rszAll_set (xs := xs) (k := k) (p := p) (y := y) (P := P) (by simpa using h) hy
    show (rsz x + 2) + rszAll (xs.set k y) ≤ (rsz x + 2) + rszAll xs + P
    omega
theorem rsz_ge (b : Bool) (xs : List D) : rsz (mkRow b xs) = 2 + rszAll xs := rsz_row b xs
theorem sz_wItem {f : D → D} {P : Nat} {l : Lt} {x : D} {m : Int} {g : D → Bool} (ho : okI g l x = true) (hf : ∀ p ∈ innerOf l x, rsz (f p) ≤ rsz p + P) : rsz (wItem f l x m) ≤ rsz x + P := by
  unfold wItem
  split
  · split
    · rename_i p hp
      have h1 := hf p (List.mem_of_getElem? hp)
      by_cases he : l = .e
      · rw [if_pos he]
        subst he
        have ex : innerOf .e x = [x] := rfl
        rw [ex] at hp
        have : p = x := by
          cases hm : m.toNat with
          | zero => rw [hm] at hp; simpa using hp.symm
          | succ k => rw [hm] at hp; simp at hp
        rw [this] at h1 ⊢
        exact h1
      · rw [if_neg he]
        have hr : isRowL l = true := by
          cases hb : isRowL l with
          | true => rfl
          | false =>
            have : innerOf l x = [] := by simp [innerOf, he, hb]
            rw [this] at hp
            simp at hp
        have ei : innerOf l x = rowOf x := by simp [innerOf, he, hr]
        rw [ei] at hp ⊢
        have hrow : isRow x = true := by
          simp [okI, he, hr] at ho
          exact ho.1
        obtain ⟨b, ex⟩ := row_of (xs := rowOf x) hrow rfl
        have h2 := rszAll_set hp h1
        have h3 : rsz x = 2 + rszAll (rowOf x) := by
          rw [ex, rsz_row, rowOf_mk]
        rw [h3]
        show 2 + rszAll _ ≤ _
        omega
    · omega
  · omega
theorem wItem_neg {f : D → D} {l : Lt} {x : D} {m : Int} (h : m < 0) : wItem f l x m = x := by
  unfold wItem
  rw [if_neg (by omega)]
theorem wZ_neg {f : D → D} : ∀ {ls : List Lt} {xs : List D} {m : Int}, xs.length = ls.length → m < 0 → wZ f ls xs m = xs
  | [], [], _, _, _ => rfl
  | [], _ :: _, _, h, _ => by cases h
  | _ :: _, [], _, h, _ => by cases h
  | l :: ls, x :: xs, m, h, hm => by
    have ih := wZ_neg (f := f) (ls := ls) (xs := xs) (m := m - ((innerOf l x).length : Nat)) (by simpa using h) (by omega)
    show wItem f l x m :: wZ f ls xs _ = _
    rw [wItem_neg hm, ih]
theorem sz_wZ {f : D → D} {P : Nat} {g : D → Bool} : ∀ {ls : List Lt} {xs : List D} {m : Int}, xs.length = ls.length → okZ g ls xs = true → (∀ p ∈ partsZ ls xs, rsz (f p) ≤ rsz p + P) → rszAll (wZ f ls xs m) ≤ rszAll xs + P
  | [], [], _, _, _, _ => Nat.zero_le _
  | [], _ :: _, _, h, _, _ => by cases h
  | _ :: _, [], _, h, _, _ => by cases h
  | l :: ls, x :: xs, m, h, ho, hf => by
    unfold okZ at ho
    rw [Bool.and_eq_true] at ho
    have hl : xs.length = ls.length := by simpa using h
    have h1 := sz_wItem (m := m) ho.1 fun p hp => hf p (List.mem_append_left _ hp)
    show (rsz (wItem f l x m) + 2) + rszAll (wZ f ls xs (m - ((innerOf l x).length : Nat))) ≤ ((rsz x + 2) + rszAll xs) + P
    by_cases hm : 0 ≤ m ∧ m < ((innerOf l x).length : Nat)
    · rw [wZ_neg hl (by omega)]
      omega
    · have e : wItem f l x m = x := by
        unfold wItem
        rw [if_neg hm]
      have ih := sz_wZ (m := m - ((innerOf l x).length : Nat)) hl ho.2 fun p hp => hf p (List.mem_append_right _ hp)
      rw [e]
      omega
theorem with_size : ∀ {n : Nat} {v piece : D} {is : List Int}, (is = [] ∨ goodM n v = true) → rsz (withM n v is piece) ≤ rsz v + rsz piece
  | n, v, piece, [], _ => by rw [withM_nil]; omega
  | 0, _, _, _ :: _, h => by
    rcases h with h | h
    · cases h
    · cases h
  | n + 1, v, piece, i :: r, h => by
    have hg : goodM (n + 1) v = true := h.resolve_left (fun z => nomatch z)
    obtain ⟨b, w, ls, items, rfl, hw, hl, hz⟩ := goodM_succ hg
    show rsz (match shape (mkRow b (.str w :: items)) with
      | some (w, ls, items) => _
      | none => _) ≤ _
    rw [shape_mk hw hl, rsz_row]
    have h1 := sz_wZ (f := fun p => withM n p r piece) (P := rsz piece) (m := i) hl hz fun p hp => with_size (.inr (parts_ok hz p hp))
    show 2 + ((strSz w + 2) + rszAll (wZ (fun p => withM n p r piece) ls items i)) ≤ 2 + ((strSz w + 2) + rszAll items) + rsz piece
    omega
theorem fine_rowOf {v : D} (h : fineD v = true) : ∀ x ∈ rowOf v, fineD x = true := (fine_row h).2
theorem fine_wItem {f : D → D} {l : Lt} {x : D} {m : Int} (hx : fineD x = true) (hf : ∀ p ∈ innerOf l x, fineD (f p) = true) : fineD (wItem f l x m) = true := by
  unfold wItem
  split
  · split
    · rename_i p hp
      have h1 := hf p (List.mem_of_getElem? hp)
      by_cases he : l = .e
      · rw [if_pos he]
        exact h1
      · rw [if_neg he]
        have hin : (innerOf l x).length ≤ 1000 ∧ ∀ y ∈ innerOf l x, fineD y = true := by
          unfold innerOf
          rw [if_neg he]
          split
          · exact fine_row hx
          · exact ⟨by simp, fun _ z => nomatch z⟩
        refine fine_mk false (by rw [List.length_set]; exact hin.1) fun y hy => ?_
        rcases List.mem_or_eq_of_mem_set hy with h2 | h2
        · exact hin.2 y h2
        · rw [h2]
          exact h1
    · exact hx
  · exact hx
theorem fine_wZ {f : D → D} : ∀ {ls : List Lt} {xs : List D} {m : Int}, (∀ x ∈ xs, fineD x = true) → (∀ p ∈ partsZ ls xs, fineD (f p) = true) → ∀ y ∈ wZ f ls xs m, fineD y = true
  | [], xs, _, _, _, y, hy => by cases xs <;> cases hy
  | l :: ls, [], _, _, _, y, hy => by cases hy
  | l :: ls, x :: xs, m, hx, hf, y, hy => by
    rcases List.mem_cons.mp (show y ∈ wItem f l x m :: wZ f ls xs _ from hy) with rfl | hy
    · exact fine_wItem (hx x (List.mem_cons_self ..)) fun p hp => hf p (List.mem_append_left _ hp)
    · exact fine_wZ (fun z hz => hx z (List.mem_cons_of_mem _ hz)) (fun p hp => hf p (List.mem_append_right _ hp)) y hy
theorem fine_parts : ∀ {ls : List Lt} {xs : List D}, (∀ x ∈ xs, fineD x = true) → ∀ p ∈ partsZ ls xs, fineD p = true
  | [], xs, _, p, hp => by cases xs <;> cases hp
  | l :: ls, [], _, p, hp => by cases hp
  | l :: ls, x :: xs, h, p, hp => by
    rcases List.mem_append.mp (show p ∈ innerOf l x ++ partsZ ls xs from hp) with hp | hp
    · have hx := h x (List.mem_cons_self ..)
      unfold innerOf at hp
      split at hp
      · simp at hp
        rw [hp]
        exact hx
      · split at hp
        · exact fine_rowOf hx p hp
        · cases hp
    · exact fine_parts (fun z hz => h z (List.mem_cons_of_mem _ hz)) p hp
theorem with_fine : ∀ {n : Nat} {v piece : D} {is : List Int}, (is = [] ∨ goodM n v = true) → fineD v = true → fineD piece = true → fineD (withM n v is piece) = true
  | n, v, piece, [], _, _, hp => by rw [withM_nil]; exact hp
  | 0, _, _, _ :: _, h, _, _ => by
    rcases h with h | h
    · cases h
    · cases h
  | n + 1, v, piece, i :: r, h, hv, hp => by
    have hg : goodM (n + 1) v = true := h.resolve_left (fun z => nomatch z)
    obtain ⟨b, w, ls, items, rfl, hw, hl, hz⟩ := goodM_succ hg
    have hr := fine_row hv
    rw [rowOf_mk] at hr
    have hi : ∀ x ∈ items, fineD x = true := fun x hx => hr.2 x (List.mem_cons_of_mem _ hx)
    show fineD (match shape (mkRow b (.str w :: items)) with
      | some (w, ls, items) => _
      | none => _) = true
    rw [shape_mk hw hl]
    refine fine_mk false ?_ fun y hy => ?_
    · rw [List.length_cons, wZ_len hl, ← hl]
      exact hr.1
    · rcases List.mem_cons.mp hy with rfl | hy
      · exact hr.2 _ (List.mem_cons_self ..)
      · exact fine_wZ hi (fun p hp' => with_fine (.inr (parts_ok hz p hp')) (fine_parts hi p hp') hp) y hy
end K

set_option Elab.async false
set_option linter.all false
set_option maxRecDepth 100000
set_option maxHeartbeats 4000000
/-! GA: the generator yields expressions. -/
namespace K
open PySem PySem.Spec PyProof.Rows L2 DL
def lnS (n : Nat) (s : Str) : Prop := s.length = n ∧ s.cps.toList.all letC = true
theorem ones_len : ∀ {ys : List Str}, (∀ y ∈ ys, y.length = 1) → ((ys.map fun y => y.cps.toList).flatten).length = ys.length
  | [], _ => rfl
  | y :: r, h => by
    have h1 := h y (List.mem_cons_self ..)
    have h2 := ones_len fun z hz => h z (List.mem_cons_of_mem _ hz)
    rw [List.map_cons, List.flatten_cons, List.length_append, h2, len_toList, h1, List.length_cons]
    omega
/-- joined drawn signs of one kind -/
theorem join_p {p : Nat → Bool} {ys : List D} {n : Nat} {Q : DV → Prop} (h : ∀ y ∈ ys, ∃ s, y = .str s ∧ (s.length = 1 ∧ s.cps.toList.all p = true)) (hl : ys.length = n) (hn : n ≤ 1000)
    (q : ∀ s : Str, s.length = n → s.cps.toList.all p = true → Q (.d (.str s))) : ∃ zs, strsD ys = some zs ∧ joinOk ("" : Str) zs ∧ Q (.d (.str (Txt.join ("" : Str) zs))) := by
  obtain ⟨ss, e, hls, ha⟩ := strsD_ok h
  have hlen : (Txt.join ("" : Str) ss).length = n := by
    rw [← len_toList, DL.join_one, ones_len fun y hy => (ha y hy).1, hls, hl]
  refine ⟨ss, e, ?_, q _ hlen ?_⟩
  · have : (ss.map (·.length)).sum = ss.length := by
      clear e hls hlen
      induction ss with
      | nil => rfl
      | cons y r ih =>
        rw [List.map_cons, List.sum_cons, List.length_cons, ih fun z hz => ha z (List.mem_cons_of_mem _ hz), (ha y (List.mem_cons_self ..)).1]
        omega
    exact mul0 (by omega)
  · rw [DL.join_one, List.all_eq_true]
    intro c hc
    obtain ⟨l, hl, hc⟩ := List.mem_flatten.mp hc
    obtain ⟨y, hy, rfl⟩ := List.mem_map.mp hl
    exact List.all_eq_true.mp (ha y hy).2 c hc
theorem one_p {p : Nat → Bool} {s : Str} (h : s.cps.toList.all p = true) {c : Nat} (hc : c ∈ s.cps.toList) : (⟨#[c]⟩ : Str).length = 1 ∧ (⟨#[c]⟩ : Str).cps.toList.all p = true := ⟨rfl, by
  have := List.all_eq_true.mp h c hc
  show (p c && true) = true
  rw [this] <;> rfl⟩
def t_lettersV : DSp := pB1 fun d Q => ∃ n : Nat, d = .int (n : Nat) ∧ n ≤ 1000 ∧ ∀ s, lnS n s → Q (.d (.str s))
theorem m_lettersV : Body 3 (b__law_letters t_draw) t_lettersV := by
  intro as Wd Qd h
  obtain ⟨d, rfl, n, rfl, hn, q⟩ := pB1_of h
  refine ⟨⟨by omega, by omega⟩, ?_⟩
  rw [Int.toNat_natCast]
  refine ⟨by rw [rngD_length]; exact Nat.lt_of_le_of_lt hn (by decide), ?_⟩
  refine dMap_ok (fun y => ∃ s, y = .str s ∧ (s.length = 1 ∧ s.cps.toList.all letC = true)) (fun d hd Q' hq => ?_) fun ys hl ha => ?_
  · refine ⟨trivial, trivial, 26, rfl, ⟨by decide, by decide⟩, fun k k1 k2 _ => ?_⟩
    refine oIx_str (by decide) k1 k2 fun c hc => hq _ ⟨_, rfl, one_p (by decide +kernel) hc⟩
  · rw [rngD_length] at hl
    exact join_p ha hl hn fun s h1 h2 => ⟨trivial, q s ⟨h1, h2⟩⟩
def t_writtenV : DSp := pB fun Q => ∀ s, isTextD (.str s) = true → Q (.d (.str s))
theorem signsW_sgn : signsW.cps.toList.all sgnC = true := by decide +kernel
theorem m_writtenV : Body 4 (b__law_written t_draw) t_writtenV := by
  intro as Wd Qd h
  obtain ⟨rfl, q⟩ := pB_of h
  have fin : ∀ n : Int, 0 ≤ n → n ≤ 20 → b__law_written_3 t_draw (dE Wd Qd) [some .bag, some (.d (.str signsW)), some (.d (.int n)), none] := fun n h0 h20 => by
    refine ⟨⟨by omega, by omega⟩, ?_⟩
    refine ⟨by rw [rngD_length]; exact Nat.lt_of_le_of_lt (show n.toNat ≤ 1000 by omega) (by decide), ?_⟩
    refine dMap_ok (fun y => ∃ s, y = .str s ∧ (s.length = 1 ∧ s.cps.toList.all sgnC = true)) (fun d hd Q' hq => ?_) fun ys hl ha => ?_
    · refine ⟨by rw [signsW_len]; decide, trivial, trivial, _, rfl, ⟨by rw [signsW_len]; decide, by rw [signsW_len]; decide⟩, fun k k1 k2 _ => ?_⟩
      refine oIx_str (by rw [signsW_len]; decide) k1 (by rw [len_toList]; exact k2) fun c hc => hq _ ⟨_, rfl, one_p signsW_sgn hc⟩
    · rw [rngD_length] at hl
      refine join_p ha hl (by omega) fun s h1 h2 => ⟨trivial, q s ?_⟩
      show (decide (s.length ≤ 20) && s.cps.toList.all sgnC) = true
      rw [h2, decide_eq_true (show s.length ≤ 20 by omega)] <;> rfl
  refine ⟨trivial, trivial, trivial, 6, rfl, ⟨by decide, by decide⟩, fun k k1 k2 _ => ⟨trivial, ?_⟩⟩
  refine ifB (fun e => ?_) fun e => ?_
  · exact ⟨trivial, trivial, 21, rfl, ⟨by decide, by decide⟩, fun j j1 j2 _ => ⟨trivial, fin j j1 (by omega)⟩⟩
  · exact fin k k1 (by omega)
/-! names -/
theorem ix7 (n d : Nat) : HT.sIx n d (some 7) = min 7 n := HT.sIx_nat n d 7
theorem ix1 (n d : Nat) : HT.sIx n d (some 1) = min 1 n := HT.sIx_nat n d 1
theorem ixm (n d : Nat) : HT.sIx n d (some (-1)) = n - 1 := by
  show (if (-1 : Int) < 0 then ((-1 : Int) + (n : Int)).toNat else min (-1 : Int).toNat n) = n - 1
  rw [if_pos (by decide)]
  omega
def nS (s : Str) : Prop := (1 ≤ s.length ∧ s.length ≤ 8) ∧ s.cps.toList.all letC = true
theorem all_cut {p : Nat → Bool} {s : Str} (h : s.cps.toList.all p = true) (lo hi : Option Int) : (cutS s lo hi).cps.toList.all p = true := by
  rw [cut_list, List.all_eq_true]
  intro c hc
  exact List.all_eq_true.mp h c (List.mem_of_mem_drop (List.mem_of_mem_take hc))
theorem all_app {p : Nat → Bool} {a b : Str} (h : a.cps.toList.all p = true) (h2 : b.cps.toList.all p = true) : (a ++ b).cps.toList.all p = true := by
  rw [app_list, List.all_append, h, h2] <;> rfl
theorem cut_len' (s : Str) (lo hi : Option Int) : (cutS s lo hi).length = min (HT.sIx s.length s.length hi - HT.sIx s.length 0 lo) (s.length - HT.sIx s.length 0 lo) := by
  rw [← len_toList, cut_list, List.length_take, List.length_drop, len_toList]
theorem zname {s : Str} (h : nS s) : isNameD (.str (("z" : Str) ++ cutS s (some 1) none)) = true := by
  have hl : (cutS s (some 1) none).length ≤ s.length - 1 := by
    rw [cut_len']
    simp only [ix7, ix1, ixm, HT.sIx_none]
    have := h.1.1
    omega
  have hz : ("z" : Str).length = 1 := by decide +kernel
  have ha : (("z" : Str) ++ cutS s (some 1) none).cps.toList.all letC = true := all_app (by decide +kernel) (all_cut h.2 _ _)
  have hw : inD (.str (("z" : Str) ++ cutS s (some 1) none)) wordsW = false := by
    rw [← words_same]
    show inD (.str _) (lawWords.map .str) = false
    rw [inD_strs, List.any_eq_false]
    intro y hy hb
    have e := eq_of_beq hb
    have hall : (lawWords.all fun y => y.cps.toList.head? != some 122) = true := by decide +kernel
    have h1 := List.all_eq_true.mp hall y hy
    rw [e, app_list] at h1
    exact absurd h1 (by
      show ¬ ((some 122 : Option Nat) != some 122) = true
      decide)
  have h8 := h.1.2
  have h1 := h.1.1
  show ((decide (1 ≤ _) && decide (_ ≤ 8)) && (!inD _ wordsW && _)) = true
  rw [hw, ha, app_len, hz, decide_eq_true (show 1 ≤ 1 + (cutS s (some 1) none).length by omega), decide_eq_true (show 1 + (cutS s (some 1) none).length ≤ 8 by omega)] <;> rfl
def t_nameV : DSp := pB fun Q => ∀ s, isNameD (.str s) = true → Q (.d (.str s))
theorem words_let : lawWords.all (fun s => (decide (2 ≤ s.length) && decide (s.length ≤ 8)) && s.cps.toList.all letC) = true := by decide +kernel
theorem nS_w {s : Str} (h : nS s) : wS 16 s := ⟨by have := h.1.2; omega, by
  show s.cps.toList.all okC = true
  rw [List.all_eq_true]
  intro c hc
  have := List.all_eq_true.mp h.2 c hc
  unfold letC at this
  unfold okC
  rw [Bool.and_eq_true] at this
  have h1 := of_decide_eq_true this.1
  have h2 := of_decide_eq_true this.2
  rw [decide_eq_true (show 32 ≤ c by omega), decide_eq_true (show c ≤ 126 by omega)] <;> rfl⟩
theorem m_nameV : Body 4 (b__law_name t_draw t_words t_lettersV) t_nameV := by
  intro as Wd Qd h
  obtain ⟨rfl, q⟩ := pB_of h
  refine ⟨trivial, trivial, 7, rfl, ⟨by decide, by decide⟩, fun ch c1 c2 _ => ⟨trivial, ?_⟩⟩
  refine fun _ => ⟨trivial, trivial, 36, rfl, ⟨by decide, by decide⟩, fun j j1 j2 _ => ?_⟩
  refine oIx_list j1 (by show j < ((lwD.length : Nat) : Int); rw [show lwD.length = 36 from by decide +kernel]; exact j2) fun d hd => ?_
  obtain ⟨w, hw, rfl⟩ := List.mem_map.mp hd
  have hww := List.all_eq_true.mp words_let w hw
  rw [Bool.and_eq_true, Bool.and_eq_true] at hww
  have w2 := of_decide_eq_true hww.1.1
  have w8 := of_decide_eq_true hww.1.2
  have wl := hww.2
  refine ⟨trivial, trivial, trivial, 8, rfl, ⟨by decide, by decide⟩, fun m m1 m2 _ => ?_⟩
  refine ⟨trivial, trivial, (1 + m).toNat, ?_, by omega, fun more hm _ => ⟨trivial, ?_⟩⟩
  · rw [Int.toNat_of_nonneg (by omega)]
  have ml : 1 ≤ more.length ∧ more.length ≤ 8 := by
    have := hm.1
    omega
  have c7 : (cutS w none (some 7)).length ≤ 7 := by
    rw [cut_len']
    simp only [ix7, ix1, ixm, HT.sIx_none]
    omega
  have c1l : (cutS more none (some 1)).length = 1 := by
    rw [cut_len']
    simp only [ix7, ix1, ixm, HT.sIx_none]
    omega
  have cm1 : 1 ≤ (cutS w none (some (-1))).length ∧ (cutS w none (some (-1))).length ≤ 8 := by
    rw [cut_len']
    simp only [ix7, ix1, ixm, HT.sIx_none]
    omega
  refine ⟨le_sz (by omega), le_sz (by omega), ?_, ?_⟩
  · exact le_sz (by omega)
  refine ⟨le_sz (by omega), ?_⟩
  repeat refine ⟨trivial, ?_⟩
  refine ⟨nle rfl, ?_⟩
  refine oIx_list c1 c2 fun d hd => ⟨trivial, ?_⟩
  have hd2 : ∃ s, d = .str s ∧ nS s := by
    have lit : ∀ s : Str, ((decide (1 ≤ s.length) && decide (s.length ≤ 8)) && s.cps.toList.all letC) = true → nS s := fun s hs => by
      rw [Bool.and_eq_true, Bool.and_eq_true] at hs
      exact ⟨⟨of_decide_eq_true hs.1.1, of_decide_eq_true hs.1.2⟩, hs.2⟩
    simp only [List.mem_cons, List.not_mem_nil, or_false] at hd
    rcases hd with rfl | rfl | rfl | rfl | rfl | rfl | rfl
    · exact ⟨_, rfl, ⟨by rw [app_len]; omega, by rw [app_len]; omega⟩, all_app (all_cut wl _ _) (all_cut hm.2 _ _)⟩
    · exact ⟨_, rfl, cm1, all_cut wl _ _⟩
    · exact ⟨_, rfl, ml, hm.2⟩
    · exact ⟨_, rfl, lit _ (by decide +kernel)⟩
    · exact ⟨_, rfl, lit _ (by decide +kernel)⟩
    · exact ⟨_, rfl, lit _ (by decide +kernel)⟩
    · exact ⟨_, rfl, lit _ (by decide +kernel)⟩
  obtain ⟨s, rfl, hs⟩ := hd2
  have hs8 := hs.1.2
  refine fun _ => ⟨⟨rfl, by rfl⟩, ?_⟩
  refine ifB (fun e => ?_) fun e => ?_
  · refine ⟨le_sz (by omega), ?_, trivial, ?_⟩
    · have h1 := cut_len s (some 1) none
      exact le_sz (by show 1 + _ ≤ 1000; omega)
    · exact q _ (zname hs)
  · refine ⟨trivial, q _ ?_⟩
    have hw : inD (.str s) wordsW = false := by
      rw [← words_same]
      exact e
    show ((decide (1 ≤ _) && decide (_ ≤ 8)) && (!inD _ wordsW && _)) = true
    rw [hw, hs.2, decide_eq_true hs.1.1, decide_eq_true hs8] <;> rfl
end K

set_option Elab.async false
set_option linter.all false
set_option maxRecDepth 100000
set_option maxHeartbeats 4000000
namespace K
open PySem PySem.Spec PyProof.Rows L2 DL
def bI : Bool → Int
  | true => 1
  | false => 0
theorem fits_mk {n : Nat} {b br : Bool} {w : Str} {ls : List Lt} {items : List D} (hw : shp w = some ls) (hl : items.length = ls.length) : fitsM (n + 1) b (mkRow br (.str w :: items)) = (!(b && inD (.str w) leaveW) && allZ (fitsM n (b || w == "keep")) ls items) := by
  rw [fitsM_succ, shape_mk hw hl]
theorem fits_in {n : Nat} {b br : Bool} {w : Str} {ls : List Lt} {items : List D} (hw : shp w = some ls) (hl : items.length = ls.length) (h : (b && inD (.str w) leaveW) = false) (hz : allZ (fitsM n (b || w == "keep")) ls items = true) : fitsM (n + 1) b (mkRow br (.str w :: items)) = true := by
  rw [fits_mk hw hl, h, hz] <;> rfl
def t_leafV : DSp := pB1 fun d Q => ∃ b : Bool, d = .int (bI b) ∧ ∀ x, (∀ n, fitsM (n + 1) b x = true) → Q (.d x)
theorem m_leafV : Body 3 (b__law_leaf t_draw t_nameV t_writtenV) t_leafV := by
  intro as Wd Qd h
  obtain ⟨d, rfl, b, rfl, q⟩ := pB1_of h
  refine ⟨trivial, trivial, 7, rfl, ⟨by decide, by decide⟩, fun ch c1 c2 _ => ⟨trivial, ?_⟩⟩
  have nothing : Qd (.d (.tuple [.str "nothing"])) := q _ fun n => fits_in (br := false) (w := "nothing") (items := []) (by rfl) rfl (by cases b <;> rfl) rfl
  have rest : (ch = 4 → b = false) → b__law_leaf_2 t_draw t_nameV t_writtenV (dE Wd Qd) [some .bag, some (.d (.int (bI b))), some (.d (.int ch))] := fun h4 => by
    refine ifB (fun e => ?_) fun e => ?_
    · refine ⟨trivial, fun s hs _ => ⟨trivial, trivial, nle rfl, trivial, q _ fun n => ?_⟩⟩
      refine fits_in (br := false) (w := "name") (ls := [.x]) (items := [.str s]) (by rfl) rfl (by cases b <;> rfl) ?_
      show (isNameD (.str s) && true) = true
      rw [hs] <;> rfl
    refine ifB (fun e => ?_) fun e => ?_
    · refine ⟨trivial, trivial, 1999, rfl, ⟨by decide, by decide⟩, fun k k1 k2 _ => ⟨trivial, trivial, nle rfl, trivial, q _ fun n => ?_⟩⟩
      refine fits_in (br := false) (w := "number") (ls := [.n]) (items := [.int (k - 999)]) (by rfl) rfl (by cases b <;> rfl) ?_
      show ((decide (-999 ≤ k - 999) && decide (k - 999 ≤ 999)) && true) = true
      rw [decide_eq_true (show -999 ≤ k - 999 by omega), decide_eq_true (show k - 999 ≤ 999 by omega)] <;> rfl
    refine ifB (fun e => ?_) fun e => ?_
    · refine ⟨trivial, fun s hs _ => ⟨trivial, trivial, nle rfl, trivial, q _ fun n => ?_⟩⟩
      refine fits_in (br := false) (w := "text") (ls := [.t]) (items := [.str s]) (by rfl) rfl (by cases b <;> rfl) ?_
      show (isTextD (.str s) && true) = true
      rw [hs] <;> rfl
    rename_i e5 e1
    have n1 : ch ≠ 1 := fun z => by subst z; exact absurd e1 (by decide)
    have n2 : ch ≠ 2 := fun z => by subst z; exact absurd e (by decide)
    have n6 : ch ≤ 5 := by have : ¬ (5 : Int) < ch := of_decide_eq_false e5; omega
    repeat first | refine ⟨trivial, ?_⟩ | refine ⟨nle rfl, ?_⟩
    have hc : ch = 0 ∨ ch = 3 ∨ ch = 4 ∨ ch = 5 := by omega
    rcases hc with rfl | rfl | rfl | rfl
    · refine oIx_at (by decide) (by rfl) ?_
      exact ⟨trivial, nothing⟩
    · refine oIx_at (by decide) (by rfl) ?_
      exact ⟨trivial, q _ fun n => fits_in (br := false) (w := "list") (ls := [.l]) (items := [.list []]) (by rfl) rfl (by cases b <;> rfl) (by cases b <;> rfl)⟩
    · refine oIx_at (by decide) (by rfl) ?_
      obtain rfl := h4 rfl
      exact ⟨trivial, q _ fun n => fits_in (br := false) (w := "fall") (items := []) (by rfl) rfl rfl rfl⟩
    · refine oIx_at (by decide) (by rfl) ?_
      exact ⟨trivial, q _ fun n => fits_in (br := true) (w := "here") (items := []) (by rfl) rfl (by cases b <;> rfl) rfl⟩
  refine ifB (fun e => ?_) fun e => ?_
  · cases b with
    | true => exact ⟨trivial, nle rfl, trivial, nothing⟩
    | false => exact rest fun _ => rfl
  · exact rest fun z => by
      subst z
      exact absurd e (by decide)
def t_itemV (n : Nat) : DSp := pBLR fun lt dep kept Q => ∃ (l : Lt) (k : Nat) (b : Bool), lt = .str (sgnL l) ∧ dep = .int (k : Nat) ∧ (1 ≤ k ∧ k ≤ n) ∧ kept = .int (bI b) ∧ ∀ d, itemM (fitsM k b) l d = true → Q (.d d)
def t_exprV (n : Nat) : DSp := pBR fun dep kept Q => ∃ (k : Nat) (b : Bool), dep = .int (k : Nat) ∧ (1 ≤ k ∧ k ≤ n) ∧ kept = .int (bI b) ∧ ∀ d, fitsM k b d = true → Q (.d d)
theorem row_fit {f : D → Bool} {l : Lt} {b : Bool} {xs : List D} (hl : isRowL l = true) (h1 : (sizeL l).1 ≤ xs.length) (h2 : xs.length ≤ (sizeL l).2) (h : ∀ x ∈ xs, f x = true) : itemM f l (mkRow b xs) = true := by
  have hr : rowOf (mkRow b xs) = xs := by cases b <;> rfl
  have hi : isRow (mkRow b xs) = true := by cases b <;> rfl
  have he : l ≠ .e := fun z => by subst z; exact absurd hl (by decide)
  unfold itemM rowFitM
  rw [if_neg he, if_pos hl, hr, hi, decide_eq_true h1, decide_eq_true h2, List.all_eq_true.mpr h] <;> rfl
theorem it_o {f : D → Bool} {s : Str} (h : inD (.str s) opsW = true) : itemM f .o (.str s) = true := h
theorem it_c {f : D → Bool} {s : Str} (h : inD (.str s) testsW = true) : itemM f .c (.str s) = true := h
theorem m_itemV (n : Nat) : Body 9 (b__law_item (t_exprV n) t_draw t_nameV t_writtenV) (t_itemV n) := by
  intro as Wd Qd h
  obtain ⟨lt, dep, kept, rfl, l, k, kb, rfl, rfl, hk, rfl, q⟩ := pBLR_of h
  clear h
  have row : ∀ (many turn : Int), 0 ≤ many → many ≤ 6 → 0 ≤ turn → turn < 2 → (∀ b (xs : List D), xs.length = many.toNat → (∀ x ∈ xs, fitsM k kb x = true) → Qd (.d (mkRow b xs))) →
      b__law_item_8 (t_exprV n) t_draw t_nameV t_writtenV (dE Wd Qd) [some .bag, some (.d (.str (sgnL l))), some .room, some (.d (.int (k : Nat))), some (.d (.int (bI kb))), some (.d (.int many)), some (.d (.int turn)), none, none] := fun many turn m1 m2 t1 t2 fin => by
    refine ⟨⟨by omega, by omega⟩, by rw [rngD_length]; exact Nat.lt_of_le_of_lt (show many.toNat ≤ 6 by omega) (by decide), ?_⟩
    refine dMap_ok (fun y => fitsM k kb y = true) (fun d hd Q' hq => ?_) fun ys hl ha => ⟨trivial, ?_⟩
    · exact ⟨trivial, trivial, trivial, trivial, k, kb, rfl, hk, rfl, fun d hd _ => hq d hd⟩
    · rw [rngD_length] at hl
      refine ⟨trivial, trivial, nle rfl, ?_⟩
      have ht : turn = 0 ∨ turn = 1 := by omega
      rcases ht with rfl | rfl
      · refine oIx_at (by decide) (by rfl) ?_
        exact ⟨trivial, fin true ys hl ha⟩
      · refine oIx_at (by decide) (by rfl) ?_
        exact ⟨trivial, fin false ys hl ha⟩
  have j6 : ∀ j : Int, 0 ≤ j → j < 6 → j = 0 ∨ j = 1 ∨ j = 2 ∨ j = 3 ∨ j = 4 ∨ j = 5 := fun j _ _ => by omega
  cases l with
  | e => exact ⟨trivial, trivial, trivial, trivial, k, kb, rfl, hk, rfl, fun d hd _ => ⟨trivial, q d hd⟩⟩
  | n => exact ⟨trivial, trivial, 1999, rfl, ⟨by decide, by decide⟩, fun j j1 j2 _ => ⟨trivial, q _ (by
      show (decide (-999 ≤ j - 999) && decide (j - 999 ≤ 999)) = true
      rw [decide_eq_true (show -999 ≤ j - 999 by omega), decide_eq_true (show j - 999 ≤ 999 by omega)] <;> rfl)⟩⟩
  | m => exact ⟨trivial, trivial, 21, rfl, ⟨by decide, by decide⟩, fun j j1 j2 _ => ⟨trivial, q _ (by
      show (decide (0 ≤ j) && decide (j ≤ 20)) = true
      rw [decide_eq_true j1, decide_eq_true (show j ≤ 20 by omega)] <;> rfl)⟩⟩
  | o =>
    refine ifT (inS_oc .o) ?_
    repeat refine ⟨trivial, ?_⟩
    refine ⟨nle rfl, trivial, trivial, trivial, 6, rfl, ⟨by decide, by decide⟩, fun j j1 j2 _ => ?_⟩
    refine ⟨.inl ⟨by decide, by decide⟩, ?_⟩
    rcases j6 j j1 j2 with rfl | rfl | rfl | rfl | rfl | rfl <;> (refine oIx_at (by decide) (by rfl) ?_; refine ⟨trivial, q _ ?_⟩; exact it_o (by decide +kernel))
  | c =>
    refine ifT (inS_oc .c) ?_
    repeat refine ⟨trivial, ?_⟩
    refine ⟨nle rfl, trivial, trivial, trivial, 6, rfl, ⟨by decide, by decide⟩, fun j j1 j2 _ => ?_⟩
    refine ⟨.inl ⟨by decide, by decide⟩, ?_⟩
    rcases j6 j j1 j2 with rfl | rfl | rfl | rfl | rfl | rfl <;> (refine oIx_at (by decide) (by rfl) ?_; refine ⟨trivial, q _ ?_⟩; exact it_c (by decide +kernel))
  | x =>
    refine ifF (inS_oc .x) ?_
    exact ⟨trivial, fun s hs _ => ⟨trivial, q _ hs⟩⟩
  | t =>
    refine ifF (inS_oc .t) ?_
    exact ⟨trivial, fun s hs _ => ⟨trivial, q _ hs⟩⟩
  | l =>
    refine ifF (inS_oc .l) ?_
    refine oGet_some (x := .int 5) (by rfl) (by rfl) ?_
    refine ⟨trivial, trivial, 5, rfl, ⟨by decide, by decide⟩, fun j j1 j2 _ => ⟨trivial, trivial, trivial, 2, rfl, ⟨by decide, by decide⟩, fun t t1 t2 _ => ⟨trivial, ?_⟩⟩⟩
    exact row (j + 0) t (by omega) (by omega) t1 t2 fun b xs h6 ha => q _ (row_fit rfl (Nat.zero_le _) (by rw [h6]; show (j + 0).toNat ≤ 4; omega) ha)
  | d =>
    refine ifF (inS_oc .d) ?_
    refine oGet_some (x := .int 6) (by rfl) (by rfl) ?_
    refine ⟨trivial, trivial, 6, rfl, ⟨by decide, by decide⟩, fun j j1 j2 _ => ⟨trivial, trivial, trivial, 2, rfl, ⟨by decide, by decide⟩, fun t t1 t2 _ => ⟨trivial, ?_⟩⟩⟩
    exact row (j + 1) t (by omega) (by omega) t1 t2 fun b xs h6 ha => q _ (row_fit rfl (by rw [h6]; show 1 ≤ (j + 1).toNat; omega) (by rw [h6]; show (j + 1).toNat ≤ 6; omega) ha)
  | a =>
    refine ifF (inS_oc .a) ?_
    refine oGet_some (x := .int 4) (by rfl) (by rfl) ?_
    refine ⟨trivial, trivial, 4, rfl, ⟨by decide, by decide⟩, fun j j1 j2 _ => ⟨trivial, trivial, trivial, 2, rfl, ⟨by decide, by decide⟩, fun t t1 t2 _ => ⟨trivial, ?_⟩⟩⟩
    exact row (j + 0) t (by omega) (by omega) t1 t2 fun b xs h6 ha => q _ (row_fit rfl (Nat.zero_le _) (by rw [h6]; show (j + 0).toNat ≤ 3; omega) ha)
/-! expressions -/
theorem v_expr_loop {n k : Nat} (hk : 1 ≤ k ∧ k ≤ n) {i : Int} {jb : Bool} {w : Str} {Wd : XD → Prop} {Qd : DV → Prop} {nx : Ro → Prop} {x4 x5 : Option DV} : ∀ (ls : List Lt) (done : List D) (x8 : Option DV), done.length + ls.length ≤ 3 →
    (∀ items x8, items.length = ls.length → allZ (fitsM k jb) ls items = true → nx [some .bag, some .room, some (.d (.int ((k + 1 : Nat) : Int))), some (.d (.int i)), x4, x5, some (.d (.int (bI jb))), some (.own (.str w :: (done ++ items))), x8]) →
    dLoop (dgN 8) (b__law_expression_f0 t_leafV t_shapes t_draw (t_itemV n)) { dE Wd Qd with nx := nx } (ls.map fun l => .str (sgnL l))
      [some .bag, some .room, some (.d (.int ((k + 1 : Nat) : Int))), some (.d (.int i)), x4, x5, some (.d (.int (bI jb))), some (.own (.str w :: done)), x8]
  | [], done, x8, _, h => by
    have := h [] x8 rfl rfl
    rw [List.append_nil] at this
    exact this
  | l :: ls, done, x8, hl, h => by
    rw [List.length_cons] at hl
    have dep : ((k + 1 : Nat) : Int) - 1 = ((k : Nat) : Int) := by omega
    refine ⟨trivial, trivial, trivial, trivial, trivial, l, k, jb, rfl, ?_, hk, rfl, fun d hd _ => ⟨?_, ?_⟩⟩
    · show PyData.int (((k + 1 : Nat) : Int) - 1) = _
      rw [dep]
    · show (PyData.str w :: done).length < sizeLine
      rw [List.length_cons]
      exact Nat.lt_of_le_of_lt (show done.length + 1 ≤ 1000 by omega) (by decide)
    · refine v_expr_loop hk ls (done ++ [d]) _ (by rw [List.length_append, List.length_singleton]; omega) fun items x8 hl2 hz => ?_
      rw [List.append_assoc]
      refine h (d :: items) x8 (by rw [List.length_cons, List.length_cons, hl2]) ?_
      show (itemM (fitsM k jb) l d && allZ (fitsM k jb) ls items) = true
      rw [hd, hz] <;> rfl
theorem v_expr_loop2 {n k : Nat} (hk : 1 ≤ k ∧ k ≤ n) {i j : Int} {jb : Bool} {w : Str} {Wd : XD → Prop} {Qd : DV → Prop} {nx : Ro → Prop} {x4 x5 x8 : Option DV} (ls : List Lt) (hl : ls.length ≤ 3) (hj : j = bI jb)
    (h : ∀ items x8, items.length = ls.length → allZ (fitsM k jb) ls items = true → nx [some .bag, some .room, some (.d (.int ((k + 1 : Nat) : Int))), some (.d (.int i)), x4, x5, some (.d (.int j)), some (.own (.str w :: items)), x8]) :
    dLoop (dgN 8) (b__law_expression_f0 t_leafV t_shapes t_draw (t_itemV n)) { dE Wd Qd with nx := nx } (signsD (lettersOf ls))
      [some .bag, some .room, some (.d (.int ((k + 1 : Nat) : Int))), some (.d (.int i)), x4, x5, some (.d (.int j)), some (.own [.str w]), x8] := by
  subst hj
  rw [signs_letters]
  exact v_expr_loop hk ls [] x8 (by show 0 + _ ≤ 3; omega) h
theorem v_expr_rest {n k : Nat} (hk : 1 ≤ k ∧ k ≤ n) {b : Bool} {w : Str} {ls : List Lt} {Wd : XD → Prop} {Qd : DV → Prop} (hw : shp w = some ls) (hb : (b && inD (.str w) leaveW) = false) (q : ∀ d, fitsM (k + 1) b d = true → Qd (.d d)) {x6 x7 x8 : Option DV} :
    b__law_expression_5 t_leafV t_shapes t_draw (t_itemV n) (dE Wd Qd) [some .bag, some .room, some (.d (.int ((k + 1 : Nat) : Int))), some (.d (.int (bI b))), some (.d (.dict SHP)), some (.d (.str w)), x6, x7, x8] := by
  have h3 := shp_short hw
  refine ⟨trivial, trivial, nle rfl, ?_⟩
  refine oGet_some (x := .str (lettersOf ls)) (by rw [shp_look, hw] <;> rfl) (by rfl) ?_
  refine v_expr_loop2 (jb := b || w == "keep") hk ls h3 ?_ fun items x8 hl hz => ?_
  · cases b
    · show (if (0 : Int) < (if (w == "keep") = true then (1 : Int) else 0) then (if (w == "keep") = true then (1 : Int) else 0) else 0) = bI (w == "keep")
      cases (w == "keep") <;> rfl
    · show (if (1 : Int) < (if (w == "keep") = true then (1 : Int) else 0) then (if (w == "keep") = true then (1 : Int) else 0) else 1) = bI true
      cases (w == "keep") <;> rfl
  have fin : ∀ b2, Qd (.d (mkRow b2 (.str w :: items))) := fun b2 => q _ (fits_in hw hl hb hz)
  refine ⟨trivial, trivial, nle rfl, trivial, trivial, 3, rfl, ⟨by decide, by decide⟩, fun t t1 t2 _ => ?_⟩
  have hm : (if (1 : Int) < t then (1 : Int) else t) = 0 ∨ (if (1 : Int) < t then (1 : Int) else t) = 1 := by
    split <;> omega
  rcases hm with hm | hm
  · refine oIx_at (i := if (1 : Int) < t then (1 : Int) else t) (d := .list (.str w :: items)) (by rw [hm]; decide) (by rw [hm] <;> rfl) ?_
    exact ⟨trivial, fin true⟩
  · refine oIx_at (i := if (1 : Int) < t then (1 : Int) else t) (d := .tuple (.str w :: items)) (by rw [hm]; decide) (by rw [hm] <;> rfl) ?_
    exact ⟨trivial, fin false⟩
theorem m_exprV (n : Nat) : Body 9 (b__law_expression t_leafV t_shapes t_draw (t_itemV n)) (t_exprV (n + 1)) := by
  intro as Wd Qd h
  obtain ⟨dep, kept, rfl, k, b, rfl, hk, rfl, q⟩ := pBR_of h
  clear h
  refine ⟨rfl, fun r0 => ⟨rfl, ?_⟩⟩
  have leaf : sRet (dCall (lo0 t_leafV) [] (dCons (dVar 0) (dCons (dVar 3) dNil))) (dE Wd Qd) [some .bag, some .room, some (.d (.int (k : Nat))), some (.d (.int (bI b))), none, none, none, none, none] :=
    ⟨trivial, trivial, b, rfl, fun x hx _ => ⟨trivial, q x (by
      obtain ⟨m, rfl⟩ := Nat.exists_eq_succ_of_ne_zero (show k ≠ 0 by omega)
      exact hx m)⟩⟩
  refine ifB (fun e => leaf) fun e => ?_
  have k1 : ¬ ((k : Nat) : Int) ≤ 1 := of_decide_eq_false e
  refine ⟨rfl, fun r1 => ?_⟩
  refine ifB (fun e => leaf) fun e => ?_
  refine fun _ => ⟨trivial, ?_⟩
  refine ⟨trivial, trivial, _, rfl, ⟨by rw [shp_len]; decide, by rw [shp_len]; decide⟩, fun j j1 j2 _ => ?_⟩
  refine oIx_list j1 (by rw [List.length_map]; exact j2) fun d hd => ⟨trivial, ?_⟩
  obtain ⟨w, ls, rfl, hw⟩ := mem_shp hd
  obtain ⟨m, rfl⟩ : ∃ m, k = m + 1 := ⟨k - 1, by omega⟩
  have hm : 1 ≤ m ∧ m ≤ n := by omega
  cases b with
  | true =>
    refine ⟨trivial, trivial, trivial, nle rfl, ⟨rfl, by rfl⟩, ?_⟩
    refine ifB (fun e => ⟨trivial, ?_⟩) fun e => ?_
    · exact v_expr_rest hm (b := true) (w := "say") (ls := [.e]) (by rfl) (by decide +kernel) q
    · exact v_expr_rest hm (b := true) hw e q
  | false =>
    exact v_expr_rest hm (b := false) hw rfl q
end K

set_option Elab.async false
set_option linter.all false
set_option maxRecDepth 100000
set_option maxHeartbeats 4000000
namespace K
open PySem PySem.Spec PyProof.Rows L2 DL
theorem fit_row {f : D → Bool} {l : Lt} {x : D} (hr : isRowL l = true) (h : itemM f l x = true) : isRow x = true ∧ ((sizeL l).1 ≤ (rowOf x).length ∧ (rowOf x).length ≤ (sizeL l).2) ∧ ∀ y ∈ rowOf x, f y = true := by
  have he : l ≠ .e := fun z => by subst z; exact absurd hr (by decide)
  unfold itemM rowFitM at h
  rw [if_neg he, if_pos hr, Bool.and_eq_true, Bool.and_eq_true, Bool.and_eq_true] at h
  exact ⟨h.1.1, ⟨of_decide_eq_true h.1.2.1, of_decide_eq_true h.1.2.2⟩, fun y hy => List.all_eq_true.mp h.2 y hy⟩
theorem int_R {lo hi : Int} {x : D} (h : isIntR lo hi x = true) : ∃ i : Int, x = .int i ∧ lo ≤ i ∧ i ≤ hi := by
  cases x with
  | int i =>
    have h : (decide (lo ≤ i) && decide (i ≤ hi)) = true := h
    rw [Bool.and_eq_true] at h
    exact ⟨i, rfl, of_decide_eq_true h.1, of_decide_eq_true h.2⟩
  | _ => cases h
theorem in_strs {xs : List Str} {x : D} (h : isInD (xs.map .str) x = true) : ∃ s, x = .str s ∧ s ∈ xs := by
  cases x with
  | str s =>
    have h : inD (.str s) (xs.map .str) = true := h
    rw [inD_strs, List.any_eq_true] at h
    obtain ⟨y, hy, e⟩ := h
    exact ⟨s, rfl, (eq_of_beq e) ▸ hy⟩
  | _ => cases h
theorem ops_S {x : D} (h : isInD opsW x = true) : ∃ s, x = .str s ∧ wS 4 s := by
  obtain ⟨s, rfl, hs⟩ := in_strs (xs := ["+", "-", "*", "/", "mod", "."]) h
  refine ⟨s, rfl, wS_lit ?_⟩
  have hall : ((["+", "-", "*", "/", "mod", "."] : List Str).all fun s => decide (s.length ≤ 4) && okS s) = true := by decide +kernel
  exact List.all_eq_true.mp hall s hs
theorem tests_S {x : D} (h : isInD testsW x = true) : ∃ s, x = .str s ∧ wS 4 s := by
  obtain ⟨s, rfl, hs⟩ := in_strs (xs := ["<", "<=", "=", "<>", "is", "isnt"]) h
  refine ⟨s, rfl, wS_lit ?_⟩
  have hall : ((["<", "<=", "=", "<>", "is", "isnt"] : List Str).all fun s => decide (s.length ≤ 4) && okS s) = true := by decide +kernel
  exact List.all_eq_true.mp hall s hs
theorem name_S {x : D} (h : isNameD x = true) : ∃ s, x = .str s ∧ nS s := by
  cases x with
  | str s =>
    have h : ((decide (1 ≤ s.length) && decide (s.length ≤ 8)) && (!inD (.str s) wordsW && s.cps.toList.all letC)) = true := h
    rw [Bool.and_eq_true, Bool.and_eq_true, Bool.and_eq_true] at h
    exact ⟨s, rfl, ⟨of_decide_eq_true h.1.1, of_decide_eq_true h.1.2⟩, h.2.2⟩
  | _ => cases h
theorem text_S {x : D} (h : isTextD x = true) : ∃ s, x = .str s ∧ wS 20 s := by
  cases x with
  | str s =>
    have h : (decide (s.length ≤ 20) && s.cps.toList.all sgnC) = true := h
    rw [Bool.and_eq_true] at h
    refine ⟨s, rfl, of_decide_eq_true h.1, ?_⟩
    show s.cps.toList.all okC = true
    rw [List.all_eq_true]
    intro c hc
    have := List.all_eq_true.mp h.2 c hc
    unfold sgnC at this
    unfold okC
    rw [Bool.and_eq_true] at this
    rw [this.1] <;> rfl
  | _ => cases h
theorem it_item {f : D → Bool} {P : D → Prop} (hP : ∀ d, f d = true → P d) {l : Lt} {x : D} (h : itemM f l x = true) : ItG P l x := by
  have row : isRowL l = true → ∃ b xs, x = mkRow b xs ∧ xs.length ≤ (sizeL l).2 ∧ ∀ y ∈ xs, P y := fun hr => by
    obtain ⟨h1, h2, h3⟩ := fit_row hr h
    obtain ⟨b, e⟩ := row_of (xs := rowOf x) h1 rfl
    exact ⟨b, rowOf x, e, h2.2, fun y hy => hP y (h3 y hy)⟩
  cases l with
  | e => exact hP x h
  | l => exact row rfl
  | d => exact row rfl
  | a => exact row rfl
  | n =>
    obtain ⟨i, rfl, h1, h2⟩ := int_R (show isIntR (-999) 999 x = true from h)
    exact ⟨i, rfl, by omega⟩
  | m =>
    obtain ⟨i, rfl, h1, h2⟩ := int_R (show isIntR 0 20 x = true from h)
    exact ⟨i, rfl, by omega⟩
  | o => exact ops_S h
  | c => exact tests_S h
  | x =>
    obtain ⟨s, e, hs⟩ := name_S h
    exact ⟨s, e, (nS_w hs).mono (by decide)⟩
  | t => exact text_S h
theorem it_zip {f : D → Bool} {P : D → Prop} (hP : ∀ d, f d = true → P d) : ∀ {ls : List Lt} {xs : List D}, xs.length = ls.length → allZ f ls xs = true → ZipP (ItG P) ls xs
  | [], [], _, _ => trivial
  | [], _ :: _, h, _ => by cases h
  | _ :: _, [], h, _ => by cases h
  | l :: ls, x :: xs, hl, h => by
    have h : (itemM f l x && allZ f ls xs) = true := h
    rw [Bool.and_eq_true] at h
    exact ⟨it_item hP h.1, it_zip hP (by simpa using hl) h.2⟩
theorem fits_some {n : Nat} {b : Bool} {v : D} (h : fitsM (n + 1) b v = true) : ∃ br w ls items, v = mkRow br (.str w :: items) ∧ shp w = some ls ∧ items.length = ls.length ∧ (b && inD (.str w) leaveW) = false ∧ allZ (fitsM n (b || w == "keep")) ls items = true := by
  rw [fitsM_succ] at h
  split at h
  · rename_i w ls items e
    obtain ⟨hr, er, hw, hl⟩ := shape_some e
    obtain ⟨br, hb⟩ := row_of hr er
    rw [Bool.and_eq_true] at h
    exact ⟨br, w, ls, items, hb, hw, hl, not_t h.1, h.2⟩
  · cases h
theorem fits_ex : ∀ {n : Nat} {b : Bool} {d : D}, fitsM n b d = true → Ex n d
  | 0, _, _, h => by cases h
  | n + 1, b, d, h => by
    obtain ⟨br, w, ls, items, rfl, hw, hl, _, hz⟩ := fits_some h
    exact ⟨br, w, ls, items, rfl, hw, it_zip (fun d hd => fits_ex hd) hl hz⟩
end K

set_option Elab.async false
set_option linter.all false
set_option maxRecDepth 100000
set_option maxHeartbeats 4000000
/-! FA: what readings come to; texts of expressions. -/
namespace K
open PySem PySem.Spec PyProof.Rows L2 DL
section
variable {Wd : DW} {ρ : Ro} {ta tb : DE} {i : Nat} {x y d : D} {a b : Str}
theorem ev_c : Ev (dC x) Wd ρ x := fun Q q => q
theorem ev_v (h : get ρ i = some (.d x)) : Ev (dVar i) Wd ρ x := fun Q q => by
  unfold dVar
  rw [h]
  exact q
theorem ev_ix {br : Bool} {xs : List D} {k : Int} (h : Ev ta Wd ρ (mkRow br xs)) (hk : 0 ≤ k) (e : xs[k.toNat]? = some d) : Ev (dOp oIx ta (dC (.int k))) Wd ρ d := fun Q q => h _ (oIx_row (b := br) hk e q)
theorem ev_add (ha : Ev ta Wd ρ (.str a)) (hb : Ev tb Wd ρ (.str b)) (hl : a.length + b.length ≤ sizeLine) : Ev (dOp oAdd ta tb) Wd ρ (.str (a ++ b)) := fun Q q => ha _ (hb _ ⟨hl, q⟩)
theorem ev_call {t : DSp} (ha : Ev ta Wd ρ x) (h : ∀ Q : DV → Prop, Q (.d y) → t [.d x] noX Q) : Ev (dCall (lo0 t) [] (dCons ta dNil)) Wd ρ y := fun Q q => ha _ ⟨trivial, h _ fun _ => q⟩
theorem ev_call2 {t : DSp} {z : D} (ha : Ev ta Wd ρ x) (hb : Ev tb Wd ρ z) (h : ∀ Q : DV → Prop, Q (.d y) → t [.d x, .d z] noX Q) : Ev (dCall (lo0 t) [] (dCons ta (dCons tb dNil))) Wd ρ y := fun Q q => ha _ (hb _ ⟨trivial, trivial, h _ fun _ => q⟩)
def strV : D → Str
  | .int i => (toString i : String)
  | .str s => s
  | _ => Str.empty
theorem ev_str (h : Ev ta Wd ρ x) (hx : (∃ s, x = .str s) ∨ ∃ i : Int, x = .int i ∧ i.natAbs.log2 < 1920) : Ev (dUn oStr ta) Wd ρ (.str (strV x)) := fun Q q => h _ (by
  rcases hx with ⟨s, rfl⟩ | ⟨i, rfl, hi⟩
  · exact q
  · exact ⟨hi, q⟩)
theorem ev_fmt (h : Ev ta Wd ρ x) (hx : (∃ s : Str, x = .str s ∧ s.length ≤ sizeLine) ∨ ∃ i : Int, x = .int i ∧ i.natAbs.log2 < 1920) : Ev (dUn oFmt ta) Wd ρ (.str (strV x)) := fun Q q => h _ (by
  rcases hx with ⟨s, rfl, hs⟩ | ⟨i, rfl, hi⟩
  · exact ⟨hs, q⟩
  · exact ⟨hi, q⟩)
theorem ev_js0 : Ev (dJs [] a) Wd ρ (.str a) := fun Q q => q
theorem ev_js {ts : List DE} {y : Str} {r : D} (h : Ev ta Wd ρ (.str y)) (hl : (a ++ y).length ≤ sizeLine) (hr : Ev (dJs ts (a ++ y)) Wd ρ r) : Ev (dJs (ta :: ts) a) Wd ρ r := fun Q q => h _ ⟨hl, hr _ q⟩
theorem strsD_map : ∀ ys : List Str, strsD (ys.map .str) = some ys
  | [] => rfl
  | y :: r => by
    show (strsD (r.map .str)).map (y :: ·) = some (y :: r)
    rw [strsD_map r] <;> rfl
theorem ev_join {ys : List Str} (ha : Ev ta Wd ρ (.str a)) (hb : Ev tb Wd ρ (.list (ys.map .str))) (hj : joinOk a ys) : Ev (dJoin ta tb) Wd ρ (.str (Txt.join a ys)) := fun Q q => ha _ (hb _ ⟨ys, strsD_map ys, hj, q⟩)
theorem ev_comp {t : DSp} {br : Bool} {xs : List D} (f : D → D) (h : Ev ta Wd ρ (mkRow br xs)) (hi : i < ρ.length) (hl : xs.length < sizeLine) (hf : ∀ x ∈ xs, ∀ Q : DV → Prop, Q (.d (f x)) → t [.d x] noX Q) :
    Ev (dComp (dOver ta) [i] (dgN i) dtYes (dCall (lo0 t) [] (dCons (dVar i) dNil))) Wd ρ (.list (xs.map f)) := fun Q q => h _ (by
  have go : xs.length < sizeLine ∧ dMap (dgN i) dtYes (dCall (lo0 t) [] (dCons (dVar i) dNil)) Wd (wipeR ρ [i]) xs fun ys => Q (.d (.list ys)) := by
    refine ⟨hl, dMap_fn f (fun d hd Q' hq => ?_) q⟩
    have hg : get (put (wipeR ρ [i]) i (.d d)) i = some (.d d) := by
      have : ∀ (r : Ro) (i : Nat), i < r.length → get (put r i (.d d)) i = some (.d d) := by
        intro r
        induction r with
        | nil => intro i h; exact absurd h (Nat.not_lt_zero _)
        | cons y r ih =>
          intro i h
          cases i with
          | zero => rfl
          | succ i => exact ih i (by simpa using h)
      refine this _ _ ?_
      show i < (ρ.set i none).length
      rw [List.length_set]
      exact hi
    exact ev_call (ev_v hg) (fun Q hq => hf d hd Q hq) Q' hq
  cases br <;> exact go)
theorem sIf_t {c : DT} {st su : DS} {E : DEnds} (h : EvT c E.ex ρ true) (h1 : st E ρ) : sIf c st su E ρ := h _ (ifT rfl h1)
end
end K

set_option Elab.async false
set_option linter.all false
set_option maxRecDepth 100000
set_option maxHeartbeats 4000000
namespace K
open PySem PySem.Spec PyProof.Rows L2 DL
/-! ### what is written of a value: no longer than rsz -/
theorem repr_sum (q : Nat) (f : Nat → Nat) : ∀ (l : List Nat) (n : Nat), (∀ c ∈ l, (Builtin.Str.reprChar q c).length ≤ f c) → l.foldl (fun n c => n + (Builtin.Str.reprChar q c).length) n ≤ n + (l.map f).sum
  | [], n, _ => by simp
  | c :: r, n, h => by
    have h1 := h c (List.mem_cons_self ..)
    have h2 := repr_sum q f r (n + (Builtin.Str.reprChar q c).length) fun d hd => h d (List.mem_cons_of_mem _ hd)
    rw [List.foldl_cons, List.map_cons, List.sum_cons]
    omega
theorem sign_all : ((List.range 127).all fun c => !okC c || (decide ((Builtin.Str.reprChar 39 c).length ≤ cc c) && decide ((Builtin.Str.reprChar 34 c).length ≤ cc c))) = true := by decide +kernel
theorem sign_one {q c : Nat} (hq : q = 39 ∨ q = 34) (h : okC c = true) : (Builtin.Str.reprChar q c).length ≤ cc c := by
  have hc : c < 127 := by
    unfold okC at h
    rw [Bool.or_eq_true, Bool.and_eq_true] at h
    rcases h with h | h
    · have := of_decide_eq_true h.2
      omega
    · have := eq_of_beq h
      omega
  have h1 := List.all_eq_true.mp sign_all c (List.mem_range.mpr hc)
  rw [h, Bool.not_true, Bool.false_or, Bool.and_eq_true] at h1
  rcases hq with rfl | rfl
  · exact of_decide_eq_true h1.1
  · exact of_decide_eq_true h1.2
theorem str_shown {s : Str} (h : okS s = true) : (reprText s).length ≤ strSz s := by
  have hq : reprQuote s = 39 ∨ reprQuote s = 34 := by
    unfold reprQuote
    split
    · exact .inr rfl
    · exact .inl rfl
  rw [← reprLen_eq, ← Array.foldl_toList]
  exact repr_sum _ cc _ 2 fun c hc => sign_one hq (List.all_eq_true.mp h c hc)
theorem list_len (ts : List Str) : (listText ts).length ≤ 2 + piled ts := by
  unfold listText
  rw [strLen_append]
  cases ts with
  | nil => decide
  | cons t r =>
    show (textFrom 1 _ r).length + _ ≤ _
    rw [textFrom_length_pos _ _ _ (by decide), strLen_append, strLen_append, piled_cons]
    have e1 : ((("[" : String) : Str)).length = 1 := rfl
    have e2 : ((("]" : String) : Str)).length = 1 := rfl
    have e3 : (((if 0 > 0 then ", " else "" : String) : Str)).length = 0 := by decide
    rw [e1, e2, e3]
    omega
theorem tuple_len (ts : List Str) : (tupleText ts).length ≤ 2 + piled ts := by
  unfold tupleText
  rw [strLen_append, strLen_append]
  have e1 : ((("(" : String) : Str)).length = 1 := rfl
  have e3 : (((if ts.length == 1 then ",)" else ")" : String) : Str)).length ≤ 2 := by split <;> decide
  rw [e1]
  by_cases h : ts = []
  · subst h
    decide
  · have := join_length_add ts h
    omega
theorem dict_len (ts : List Str) : (dictText ts).length ≤ 2 + piled ts := by
  unfold dictText
  rw [strLen_append, strLen_append]
  have e1 : ((("{" : String) : Str)).length = 1 := rfl
  have e2 : ((("}" : String) : Str)).length = 1 := rfl
  rw [e1, e2]
  by_cases h : ts = []
  · subst h
    decide
  · have := join_length_add ts h
    omega
mutual
theorem shown_le : ∀ {d : D}, fineD d = true → d.shown.length ≤ rsz d
  | .none, _ => by decide
  | .bool true, _ => by decide
  | .bool false, _ => by decide
  | .int i, h => by
    have h1 : i.natAbs ≤ 1000000000 := of_decide_eq_true h
    have h2 := int_text_length_le10 (a := i) (k := 10) (by decide) (by omega)
    show (Str.ofString (toString i)).length ≤ 11
    rw [PySem.ofString_length]
    omega
  | .str s, h => by
    rw [fineD, Bool.and_eq_true] at h
    simp only [PyData.shown, rsz]
    exact str_shown h.2
  | .list xs, h => by
    rw [fineD, Bool.and_eq_true] at h
    have h1 := shownAll_le h.2
    have h2 := list_len (PyData.shownAll xs)
    simp only [PyData.shown, rsz]
    omega
  | .tuple xs, h => by
    rw [fineD, Bool.and_eq_true] at h
    have h1 := shownAll_le h.2
    have h2 := tuple_len (PyData.shownAll xs)
    simp only [PyData.shown, rsz]
    omega
  | .dict kvs, h => by
    rw [fineD, Bool.and_eq_true] at h
    have h1 := shownKv_le h.2
    have h2 := dict_len (PyData.shownKv kvs)
    simp only [PyData.shown, rsz]
    omega
theorem shownAll_le : ∀ {xs : List D}, fineAll xs = true → piled (PyData.shownAll xs) ≤ rszAll xs
  | [], _ => by simp [PyData.shownAll, piled]
  | d :: r, h => by
    rw [fineAll, Bool.and_eq_true] at h
    have h1 := shown_le h.1
    have h2 := shownAll_le h.2
    simp only [PyData.shownAll, rszAll, piled_cons]
    omega
theorem shownKv_le : ∀ {kvs : List (D × D)}, fineKv kvs = true → piled (PyData.shownKv kvs) ≤ rszKv kvs
  | [], _ => by simp [PyData.shownKv, piled]
  | (k, d) :: r, h => by
    rw [fineKv, Bool.and_eq_true, Bool.and_eq_true, Bool.and_eq_true] at h
    have h1 := shown_le h.1.2
    have h2 := shown_le h.2.1
    have h3 := shownKv_le h.2.2
    have e : (((": " : String) : Str)).length = 2 := rfl
    simp only [PyData.shownKv, rszKv, piled_cons, strLen_append, e]
    omega
end
mutual
theorem showable_of : ∀ {d : D}, fineD d = true → d.showable = true
  | .none, _ => rfl
  | .bool b, _ => rfl
  | .int i, h => by
    have h1 : i.natAbs ≤ 1000000000 := of_decide_eq_true h
    refine decide_eq_true ?_
    by_cases h0 : i.natAbs = 0
    · rw [h0]
      decide
    · exact Nat.lt_of_lt_of_le ((Nat.log2_lt h0).mpr (Nat.lt_of_le_of_lt h1 (by decide : 1000000000 < 2 ^ 30))) (by decide)
  | .str s, _ => rfl
  | .list xs, h => by
    rw [fineD, Bool.and_eq_true] at h
    simp only [PyData.showable]
    exact showableAll_of h.2
  | .tuple xs, h => by
    rw [fineD, Bool.and_eq_true] at h
    simp only [PyData.showable]
    exact showableAll_of h.2
  | .dict kvs, h => by
    rw [fineD, Bool.and_eq_true] at h
    simp only [PyData.showable]
    exact showableKv_of h.2
theorem showableAll_of : ∀ {xs : List D}, fineAll xs = true → PyData.showableAll xs = true
  | [], _ => rfl
  | d :: r, h => by
    rw [fineAll, Bool.and_eq_true] at h
    simp only [PyData.showableAll, showable_of h.1, showableAll_of h.2, Bool.and_true]
theorem showableKv_of : ∀ {kvs : List (D × D)}, fineKv kvs = true → PyData.showableKv kvs = true
  | [], _ => rfl
  | (k, d) :: r, h => by
    rw [fineKv, Bool.and_eq_true, Bool.and_eq_true, Bool.and_eq_true] at h
    simp only [PyData.showableKv, showable_of h.1.2, showable_of h.2.1, showableKv_of h.2.2, Bool.and_true]
end
/-! ### how deep -/
theorem depthAll_le {n : Nat} : ∀ {xs : List D}, (∀ x ∈ xs, x.depth ≤ n) → PyData.depthAll xs ≤ n
  | [], _ => Nat.zero_le _
  | x :: r, h => by
    rw [PyData.depthAll]
    exact Nat.max_le.mpr ⟨h x (List.mem_cons_self ..), depthAll_le fun y hy => h y (List.mem_cons_of_mem _ hy)⟩
theorem le_depthAll : ∀ {xs : List D} {x : D}, x ∈ xs → x.depth ≤ PyData.depthAll xs
  | y :: r, x, h => by
    rw [PyData.depthAll]
    rcases List.mem_cons.mp h with rfl | h
    · exact Nat.le_max_left ..
    · exact Nat.le_trans (le_depthAll h) (Nat.le_max_right ..)
theorem depth_mk (b : Bool) (xs : List D) : (mkRow b xs).depth = PyData.depthAll xs + 1 := by
  cases b <;> simp only [mkRow, Bool.false_eq_true, if_true, if_false, PyData.depth] <;> rfl
theorem depth_rowOf {x p : D} (h : p ∈ rowOf x) : p.depth + 1 ≤ x.depth := by
  cases x with
  | list xs =>
    have := le_depthAll (show p ∈ xs from h)
    simp only [PyData.depth]
    omega
  | tuple xs =>
    have := le_depthAll (show p ∈ xs from h)
    simp only [PyData.depth]
    omega
  | _ => exact nomatch h
mutual
theorem depth_rsz : ∀ d : D, d.depth ≤ rsz d
  | .none => Nat.zero_le _
  | .bool b => Nat.zero_le _
  | .int i => Nat.zero_le _
  | .str s => Nat.zero_le _
  | .list xs => by
    have := depth_rszAll xs
    simp only [PyData.depth, rsz]
    omega
  | .tuple xs => by
    have := depth_rszAll xs
    simp only [PyData.depth, rsz]
    omega
  | .dict kvs => by
    have := depth_rszKv kvs
    simp only [PyData.depth, rsz]
    omega
theorem depth_rszAll : ∀ xs : List D, PyData.depthAll xs ≤ rszAll xs
  | [] => Nat.zero_le _
  | d :: r => by
    have h1 := depth_rsz d
    have h2 := depth_rszAll r
    simp only [PyData.depthAll, rszAll]
    omega
theorem depth_rszKv : ∀ kvs : List (D × D), PyData.depthKv kvs ≤ rszKv kvs
  | [] => Nat.zero_le _
  | (k, d) :: r => by
    have h1 := depth_rsz k
    have h2 := depth_rsz d
    have h3 := depth_rszKv r
    simp only [PyData.depthKv, rszKv]
    omega
end
theorem ex_depth_item {P : D → Prop} {n : Nat} (hP : ∀ d, P d → d.depth ≤ n) {l : Lt} {x : D} (h : ItG P l x) : x.depth ≤ n + 1 := by
  have row : ∀ {m : Nat}, (∃ b xs, x = mkRow b xs ∧ xs.length ≤ m ∧ ∀ y ∈ xs, P y) → x.depth ≤ n + 1 := fun {m} ⟨b, xs, e, _, h'⟩ => by
    rw [e, depth_mk]
    exact Nat.succ_le_succ (depthAll_le fun y hy => hP y (h' y hy))
  have int : ∀ {m : Nat}, (∃ i : Int, x = .int i ∧ i.natAbs ≤ m) → x.depth ≤ n + 1 := fun {m} ⟨i, e, _⟩ => by
    rw [e]
    exact Nat.zero_le _
  have str : ∀ {m : Nat}, (∃ s, x = .str s ∧ wS m s) → x.depth ≤ n + 1 := fun {m} ⟨i, e, _⟩ => by
    rw [e]
    exact Nat.zero_le _
  cases l with
  | e => exact Nat.le_succ_of_le (hP x h)
  | n => exact int h
  | m => exact int h
  | o => exact str h
  | c => exact str h
  | x => exact str h
  | t => exact str h
  | l => exact row h
  | d => exact row h
  | a => exact row h
theorem ex_depth_zip {P : D → Prop} {n : Nat} (hP : ∀ d, P d → d.depth ≤ n) : ∀ {ls : List Lt} {xs : List D}, ZipP (ItG P) ls xs → ∀ x ∈ xs, x.depth ≤ n + 1
  | [], [], _, x, hx => nomatch hx
  | [], _ :: _, h, _, _ => h.elim
  | _ :: _, [], h, _, _ => h.elim
  | l :: ls, y :: ys, h, x, hx => by
    rcases List.mem_cons.mp hx with rfl | hx
    · exact ex_depth_item hP h.1
    · exact ex_depth_zip hP h.2 x hx
theorem ex_depth : ∀ {n : Nat} {d : D}, Ex n d → d.depth ≤ 2 * n
  | 0, _, h => h.elim
  | n + 1, d, h => by
    obtain ⟨b, w, ls, items, rfl, hw, hz⟩ := h
    rw [depth_mk, PyData.depthAll]
    have h1 := depthAll_le (ex_depth_zip (fun d hd => ex_depth hd) hz)
    have h2 : (PyData.str w).depth = 0 := rfl
    omega
theorem dp_wItem {f : D → D} {P : Nat} {l : Lt} {x : D} {m : Int} (hf : ∀ p ∈ innerOf l x, (f p).depth ≤ p.depth + P) : (wItem f l x m).depth ≤ x.depth + P := by
  unfold wItem
  split
  · split
    · rename_i p hp
      have hm := List.mem_of_getElem? hp
      have h1 := hf p hm
      by_cases he : l = .e
      · rw [if_pos he]
        have e : p = x := by
          unfold innerOf at hm
          rw [if_pos he] at hm
          simpa using hm
        subst e
        exact h1
      · rw [if_neg he]
        have hin : ∀ y ∈ innerOf l x, y.depth + 1 ≤ x.depth := fun y hy => by
          unfold innerOf at hy
          rw [if_neg he] at hy
          split at hy
          · exact depth_rowOf hy
          · exact nomatch hy
        have h2 := hin p hm
        rw [PyData.depth]
        have h3 : PyData.depthAll ((innerOf l x).set m.toNat (f p)) ≤ x.depth - 1 + P := depthAll_le fun y hy => by
          rcases List.mem_or_eq_of_mem_set hy with h4 | h4
          · have := hin y h4
            omega
          · rw [h4]
            omega
        omega
    · exact Nat.le_add_right ..
  · exact Nat.le_add_right ..
theorem dp_wZ {f : D → D} {P n : Nat} : ∀ {ls : List Lt} {xs : List D} {m : Int}, (∀ x ∈ xs, x.depth ≤ n) → (∀ p ∈ partsZ ls xs, (f p).depth ≤ p.depth + P) → ∀ y ∈ wZ f ls xs m, y.depth ≤ n + P
  | [], xs, _, _, _, y, hy => by cases xs <;> cases hy
  | l :: ls, [], _, _, _, y, hy => by cases hy
  | l :: ls, x :: xs, m, hx, hf, y, hy => by
    rcases List.mem_cons.mp (show y ∈ wItem f l x m :: wZ f ls xs _ from hy) with rfl | hy
    · have h1 := dp_wItem (m := m) fun p hp => hf p (List.mem_append_left _ hp)
      have h2 := hx x (List.mem_cons_self ..)
      omega
    · exact dp_wZ (fun z hz => hx z (List.mem_cons_of_mem _ hz)) (fun p hp => hf p (List.mem_append_right _ hp)) y hy
theorem with_depth : ∀ {n : Nat} {v piece : D} {is : List Int}, (is = [] ∨ goodM n v = true) → (withM n v is piece).depth ≤ v.depth + piece.depth
  | n, v, piece, [], _ => by rw [withM_nil]; omega
  | 0, _, _, _ :: _, h => by
    rcases h with h | h
    · cases h
    · cases h
  | n + 1, v, piece, i :: r, h => by
    have hg : goodM (n + 1) v = true := h.resolve_left (fun z => nomatch z)
    obtain ⟨b, w, ls, items, rfl, hw, hl, hz⟩ := goodM_succ hg
    show (match shape (mkRow b (.str w :: items)) with
      | some (w, ls, items) => (PyData.tuple (.str w :: wZ (fun p => withM n p r piece) ls items i))
      | none => (mkRow b (.str w :: items))).depth ≤ _
    rw [shape_mk hw hl, depth_mk]
    show (PyData.tuple (.str w :: wZ (fun p => withM n p r piece) ls items i)).depth ≤ _
    rw [PyData.depth, PyData.depthAll, PyData.depthAll]
    have h1 := depthAll_le (dp_wZ (f := fun p => withM n p r piece) (P := piece.depth) (ls := ls) (m := i) (fun x hx => le_depthAll hx) fun p hp => with_depth (.inr (parts_ok hz p hp)))
    have h2 : (PyData.str w).depth = 0 := rfl
    omega
end K

set_option Elab.async false
set_option linter.all false
set_option maxRecDepth 100000
set_option maxHeartbeats 4000000
/-! GF: frozen, same, parts_of, with_parts. -/
namespace K
open PySem PySem.Spec PyProof.Rows L2 DL
theorem seqIfN {c : DT} {st rest : DS} {E : DEnds} {ρ : Ro} {b : Bool} (h : EvT c E.ex ρ b) (h1 : b = true → st { E with nx := rest E } ρ) (h2 : b = false → rest E ρ) : sSeq (sIf c st sNext) rest E ρ := h _ (ifB h1 h2)
theorem seqSet {i : Nat} {te : DE} {rest : DS} {E : DEnds} {ρ : Ro} {d : D} (h : Ev te E.ex ρ d) (q : rest E (put ρ i (.d d))) : sSeq (sSet i te) rest E ρ := h _ ⟨trivial, q⟩
def costX : Lt → Nat
  | .e => 1
  | .l => 4
  | .d => 6
  | .a => 3
  | _ => 0
theorem costX_shp {w : Str} {ls : List Lt} (h : shp w = some ls) : (ls.map costX).sum ≤ 6 ∧ w.length ≤ 8 := by
  have hall : (TB.all fun p => decide ((p.2.map costX).sum ≤ 6) && decide (p.1.length ≤ 8)) = true := by decide +kernel
  have := List.all_eq_true.mp hall _ (mem_lk h)
  rw [Bool.and_eq_true] at this
  exact ⟨of_decide_eq_true this.1, of_decide_eq_true this.2⟩
theorem inner_lenX {f : D → Bool} {l : Lt} {x : D} (h : itemM f l x = true) : (innerOf l x).length ≤ costX l := by
  cases l with
  | e => exact Nat.le_refl 1
  | l | d | a => exact (fit_row rfl h).2.1.2
  | _ => exact Nat.le_refl 0
theorem parts_lenX {f : D → Bool} : ∀ {ls : List Lt} {xs : List D}, allZ f ls xs = true → (partsZ ls xs).length ≤ (ls.map costX).sum
  | [], _, _ => by simp [partsZ]
  | l :: ls, [], _ => by simp [partsZ]
  | l :: ls, x :: xs, h => by
    have h : (itemM f l x && allZ f ls xs) = true := h
    rw [Bool.and_eq_true] at h
    have h1 := inner_lenX h.1
    have h2 := parts_lenX h.2
    show (innerOf l x ++ partsZ ls xs).length ≤ _
    rw [List.length_append, List.map_cons, List.sum_cons]
    omega
theorem inner_fit {f : D → Bool} {l : Lt} {x : D} (h : itemM f l x = true) : ∀ p ∈ innerOf l x, f p = true := by
  intro p hp
  cases l with
  | e =>
    rw [List.mem_singleton.mp (show p ∈ [x] from hp)]
    exact h
  | l | d | a => exact (fit_row rfl h).2.2 p hp
  | _ => exact nomatch (show p ∈ ([] : List D) from hp)
theorem parts_fit {f : D → Bool} : ∀ {ls : List Lt} {xs : List D}, allZ f ls xs = true → ∀ p ∈ partsZ ls xs, f p = true
  | [], _, _, p, hp => by simp [partsZ] at hp
  | l :: ls, [], _, p, hp => by simp [partsZ] at hp
  | l :: ls, x :: xs, h, p, hp => by
    have h : (itemM f l x && allZ f ls xs) = true := h
    rw [Bool.and_eq_true] at h
    rcases List.mem_append.mp (show p ∈ innerOf l x ++ partsZ ls xs from hp) with hp | hp
    · exact inner_fit h.1 p hp
    · exact parts_fit h.2 p hp
/-! parts_of -/
def t_partsOf : DSp := p1 fun v Q => (∃ n b, fitsM (n + 1) b v = true) ∧ Q (.d (.list (partsM v)))
theorem m_po_loopE {f : D → Bool} {v : Option DV} : ∀ (ls : List Lt) (items acc : List D) (x2 x3 : Option DV), items.length = ls.length → allZ f ls items = true → acc.length + (partsZ ls items).length ≤ 100 → ∀ {E : DEnds},
    (∀ x2 x3, E.nx [v, some (.own (acc ++ partsZ ls items)), x2, x3]) → dLoop (dgTup 2 (dgCons (dgN 2) (dgCons (dgN 3) (dgNil)))) b_parts_of_f0 E (zipD (wordsOf ls) items) [v, some (.own acc), x2, x3]
  | [], [], acc, x2, x3, _, _, _, E, h => by
    have := h x2 x3
    rw [show partsZ [] [] = [] from rfl, List.append_nil] at this
    exact this
  | [], _ :: _, _, _, _, h, _, _, _, _ => by cases h
  | _ :: _, [], _, _, _, h, _, _, _, _ => by cases h
  | l :: ls, x :: items, acc, x2, x3, hl, hz, hb, E, h => by
    have hz : (itemM f l x && allZ f ls items) = true := hz
    rw [Bool.and_eq_true] at hz
    have hp : partsZ (l :: ls) (x :: items) = innerOf l x ++ partsZ ls items := rfl
    rw [hp, List.length_append] at hb
    rw [hp] at h
    have small : acc.length < sizeLine := Nat.lt_of_le_of_lt (show acc.length ≤ 1000 by omega) (by decide)
    have next : ∀ x2 x3, dLoop (dgTup 2 (dgCons (dgN 2) (dgCons (dgN 3) (dgNil)))) b_parts_of_f0 E (zipD (wordsOf ls) items) [v, some (.own (acc ++ innerOf l x)), x2, x3] := fun x2 x3 => by
      refine m_po_loopE ls items (acc ++ innerOf l x) x2 x3 (by simpa using hl) hz.2 (by rw [List.length_append]; omega) fun x2 x3 => ?_
      rw [List.append_assoc]
      exact h x2 x3
    have hin : isRowL l = true → innerOf l x = rowOf x := fun h => by
      cases l <;> first | rfl | cases h
    have hin0 : l ≠ .e → isRowL l = false → innerOf l x = [] := fun h1 h2 => by
      cases l <;> first | rfl | exact absurd rfl h1 | cases h2
    refine ⟨rfl, rfl, ?_⟩
    cases l with
    | e => exact ⟨small, next _ _⟩
    | l | d | a =>
      refine oKin_is (b := true) (by rfl) ?_
      obtain ⟨h1, h2, h3⟩ := fit_row rfl hz.1
      obtain ⟨bx, ex⟩ := row_of (xs := rowOf x) h1 rfl
      have dn : ∀ x2 x3, dLoop (dgTup 2 (dgCons (dgN 2) (dgCons (dgN 3) (dgNil)))) b_parts_of_f0 E (zipD (wordsOf ls) items) [v, some (.own (acc ++ rowOf x)), x2, x3] := next
      have hs : acc.length + (rowOf x).length ≤ sizeLine := le_sz (by
        rw [hin rfl] at hb
        omega)
      generalize rowOf x = xs at ex dn hs
      subst ex
      cases bx <;> exact ⟨hs, dn _ _⟩
    | _ =>
      refine oKin_is (b := false) (by rfl) ?_
      have dn : ∀ x2 x3, dLoop (dgTup 2 (dgCons (dgN 2) (dgCons (dgN 3) (dgNil)))) b_parts_of_f0 E (zipD (wordsOf ls) items) [v, some (.own acc), x2, x3] := fun x2 x3 => by
        have := next x2 x3
        rw [hin0 (by decide) rfl, List.append_nil] at this
        exact this
      exact dn _ _
theorem m_partsOf : Body 4 b_parts_of t_partsOf := by
  intro as Wd Qd h
  obtain ⟨v, rfl, ⟨n, b, hf⟩, q⟩ := p1_of h
  clear h
  obtain ⟨br, w, ls, items, rfl, hw, hl, _, hz⟩ := fits_some hf
  have ep : partsM (mkRow br (.str w :: items)) = partsZ ls items := by
    unfold partsM
    rw [shape_mk hw hl]
  rw [ep] at q
  have h6 := Nat.le_trans (parts_lenX hz) (costX_shp hw).1
  refine ⟨nle rfl, ?_⟩
  refine oIx_row (b := br) (Int.le_refl 0) (by rfl) ?_
  refine oKget_some (y := .tuple (wordsOf ls)) (by rw [shapes_look, hw] <;> rfl) ?_
  refine oSl_row (b := br) ?_
  rw [cutD_1]
  have go : dLoop (dgTup 2 (dgCons (dgN 2) (dgCons (dgN 3) (dgNil)))) b_parts_of_f0 { dE Wd Qd with nx := b_parts_of_2 (dE Wd Qd) } (zipD (wordsOf ls) items) [some (.d (mkRow br (.str w :: items))), some (.own []), none, none] :=
    m_po_loopE ls items [] none none hl hz (by show 0 + _ ≤ 100; omega) fun x2 x3 => ⟨trivial, q⟩
  cases br <;> exact go
/-! frozen -/
mutual
def frzM : D → D
  | .list xs => .tuple (frzAll xs)
  | .tuple xs => .tuple (frzAll xs)
  | .none => .none
  | .bool b => .bool b
  | .int i => .int i
  | .str s => .str s
  | .dict kvs => .dict kvs
def frzAll : List D → List D
  | [] => []
  | x :: xs => frzM x :: frzAll xs
end
theorem frzAll_map : ∀ xs : List D, frzAll xs = xs.map frzM
  | [] => rfl
  | x :: xs => by
    rw [frzAll, List.map_cons, frzAll_map xs]
theorem frz_row (b : Bool) (xs : List D) : frzM (mkRow b xs) = .tuple (xs.map frzM) := by
  cases b
  · show PyData.tuple (frzAll xs) = _
    rw [frzAll_map]
  · show PyData.tuple (frzAll xs) = _
    rw [frzAll_map]
theorem frz_leaf {v : D} (h : isRow v = false) : frzM v = v := by
  cases v with
  | list _ => cases h
  | tuple _ => cases h
  | _ => rfl
theorem depth_row (b : Bool) (xs : List D) : (mkRow b xs).depth = PyData.depthAll xs + 1 := by
  cases b <;> rfl
theorem depth_mem : ∀ {xs : List D} {x : D}, x ∈ xs → x.depth ≤ PyData.depthAll xs
  | y :: r, x, h => by
    show _ ≤ max y.depth (PyData.depthAll r)
    rcases List.mem_cons.mp h with rfl | h
    · exact Nat.le_max_left _ _
    · exact Nat.le_trans (depth_mem h) (Nat.le_max_right _ _)
def t_frz (n : Nat) : DSp := p1 fun v Q => v.depth ≤ n ∧ fineD v = true ∧ Q (.d (frzM v))
theorem ev_tup {Wd : DW} {ρ : Ro} {ta : DE} {xs : List D} (h : Ev ta Wd ρ (.list xs)) : Ev (dUn oTup ta) Wd ρ (.tuple xs) := fun Q q => h _ q
theorem frz_body {n : Nat} {t : DSp} (ht : ∀ k, n = k + 1 → t = t_frz k) {v : D} (hd : v.depth ≤ n) (hf : fineD v = true) {Wd : DW} {b : Bool} {xs : List D} (e : v = mkRow b xs) :
    Ev (dUn oTup (dComp (dOver (dVar 0)) [1] (dgN 1) (dtYes) (dCall (lo0 t) [] (dCons (dVar 1) (dNil))))) Wd [some (.d v), none] (frzM v) := by
  subst e
  rw [frz_row]
  have hr : rowOf (mkRow b xs) = xs := by cases b <;> rfl
  have hrow := fine_row hf
  rw [hr] at hrow
  rw [depth_row] at hd
  obtain ⟨k, rfl⟩ : ∃ k, n = k + 1 := ⟨n - 1, by omega⟩
  obtain rfl := ht k rfl
  refine ev_tup (ev_comp (br := b) (xs := xs) frzM (ev_v (by rfl)) (show 1 < 2 from by decide) (Nat.lt_of_le_of_lt hrow.1 (by decide)) fun x hx Q hQ => ?_)
  exact ⟨by have := depth_mem hx; omega, hrow.2 x hx, hQ⟩
theorem m_frz_any {n : Nat} {t : DSp} (ht : ∀ k, n = k + 1 → t = t_frz k) : Body 2 (b_frozen t_is_row t) (t_frz n) := by
  intro as Wd Qd h
  obtain ⟨v, rfl, hd, hf, q⟩ := p1_of h
  clear h
  refine seqIfN (b := isRow v) ?c (fun e => ?_) fun e => ?_
  case c => exact et_B (ev_call (ev_v (by rfl)) fun Q hQ => hQ)
  · obtain ⟨b, eb⟩ := row_of (xs := rowOf v) e rfl
    exact sRet_ev (frz_body ht hd hf eb) ⟨trivial, q⟩
  · rw [frz_leaf e] at q
    exact sRet_ev (ev_v (by rfl)) ⟨trivial, q⟩
theorem ev_row2 {Wd : DW} {ρ : Ro} {i : Nat} {v : D} (h : get ρ i = some (.d v)) : Ev (dUn (oIs2 "list" "tuple") (dVar i)) Wd ρ (.bool (isRow v)) := fun Q q => ev_v h _ (by
  show Q (.d (.bool (isT "list" v || isT "tuple" v)))
  rw [isRow_T]
  exact q)
theorem m_lawfrz_any {n : Nat} {t : DSp} (ht : ∀ k, n = k + 1 → t = t_frz k) : Body 2 (b__law_frozen t) (t_frz n) := by
  intro as Wd Qd h
  obtain ⟨v, rfl, hd, hf, q⟩ := p1_of h
  clear h
  refine seqIfN (b := isRow v) ?c (fun e => ?_) fun e => ?_
  case c => exact et_B (ev_row2 (by rfl))
  · obtain ⟨b, eb⟩ := row_of (xs := rowOf v) e rfl
    exact sRet_ev (frz_body ht hd hf eb) ⟨trivial, q⟩
  · rw [frz_leaf e] at q
    exact sRet_ev (ev_v (by rfl)) ⟨trivial, q⟩
/-! _law_same: of equal data -/
mutual
def sameD : D → Bool
  | .tuple xs => sameAll xs
  | .str s => true
  | .int i => true
  | _ => false
def sameAll : List D → Bool
  | [] => true
  | x :: xs => sameD x && sameAll xs
end
theorem sameAll_mem : ∀ {xs : List D} {x : D}, sameAll xs = true → x ∈ xs → sameD x = true
  | y :: r, x, h, hx => by
    rw [sameAll, Bool.and_eq_true] at h
    rcases List.mem_cons.mp hx with rfl | hx
    · exact h.1
    · exact sameAll_mem h.2 hx
def t_same (n : Nat) : DSp := p2 fun a d Q => a = d ∧ d.depth ≤ n ∧ sameD d = true ∧ fineD d = true ∧ Q (.d (.bool true))
theorem ev_isT {Wd : DW} {ρ : Ro} {i : Nat} {v : D} {T : String} {b : Bool} (h : get ρ i = some (.d v)) (e : isT T v = b) : Ev (dUn (oIs T) (dVar i)) Wd ρ (.bool b) := fun Q q => ev_v h _ (by
  show Q (.d (.bool (isT T v)))
  rw [e]
  exact q)
theorem eq_str (s : Str) (Q : DV → Prop) (q : Q (.d (.bool true))) : oEq false (.d (.str s)) (.d (.str s)) Q := by
  have e : eqF (.str s) (.str s) = true := by simp [eqF]
  show Q (.d (.bool (ng false (eqF (.str s) (.str s)))))
  rw [e]
  exact q
theorem eq_int (i : Int) (Q : DV → Prop) (q : Q (.d (.bool true))) : oEq false (.d (.int i)) (.d (.int i)) Q := by
  have e : eqF (.int i) (.int i) = true := by simp [eqF]
  show Q (.d (.bool (ng false (eqF (.int i) (.int i)))))
  rw [e]
  exact q
theorem ne_int (i : Int) (Q : DV → Prop) (q : Q (.d (.bool false))) : oEq true (.d (.int i)) (.d (.int i)) Q := by
  have e : eqF (.int i) (.int i) = true := by simp [eqF]
  show Q (.d (.bool (ng true (eqF (.int i) (.int i)))))
  rw [e]
  exact q
theorem m_same_any {n : Nat} {t : DSp} (ht : ∀ k, n = k + 1 → t = t_same k) : Body 3 (b__law_same t) (t_same n) := by
  intro as Wd Qd h
  obtain ⟨a, d, rfl, rfl, hd, hs, hf, q⟩ := p2_of h
  clear h
  cases a with
  | tuple xs =>
    have hs : sameAll xs = true := hs
    have hrow := fine_row hf
    have hdx : PyData.depthAll xs + 1 ≤ n := hd
    obtain ⟨k, rfl⟩ : ∃ k, n = k + 1 := ⟨n - 1, by omega⟩
    obtain rfl := ht k rfl
    refine seqIfN (b := true) ?c (fun _ => ?_) fun e => nomatch e
    case c => exact et_B (ev_isT (by rfl) (by simp [isT]))
    refine seqIfN (b := (!true) || false) ?c (fun e => nomatch e) fun _ => ?_
    case c =>
      refine et_or (et_not (et_B (ev_isT (by rfl) (by simp [isT])))) fun _ => et_B fun Q q => ?_
      exact ne_int _ _ q
    refine ⟨⟨by have := hrow.1; show -(2 ^ 62) ≤ ((xs.length : Nat) : Int); omega, by have : xs.length ≤ 1000 := hrow.1; omega⟩, ?_⟩
    rw [Int.toNat_natCast]
    refine dLoop_rng (fun i ρ => ∃ x2, ρ = [some (.d (.tuple xs)), some (.d (.tuple xs)), x2]) ⟨none, rfl⟩ ?_ ?_
    · intro i hi ρ nx hr hn
      obtain ⟨x2, rfl⟩ := hr
      have ei : xs[i]? = some xs[i] := List.getElem?_eq_getElem hi
      have hm : xs[i] ∈ xs := List.getElem_mem hi
      refine oIx_tup (d := xs[i]) (Int.natCast_nonneg i) (by rw [Int.toNat_natCast]; exact ei) ?_
      refine oIx_tup (d := xs[i]) (Int.natCast_nonneg i) (by rw [Int.toNat_natCast]; exact ei) ?_
      exact ⟨trivial, trivial, rfl, by have := depth_mem hm; omega, sameAll_mem hs hm, hrow.2 _ hm, fun _ => hn _ ⟨_, rfl⟩⟩
    · intro ρ hr
      obtain ⟨x2, rfl⟩ := hr
      exact ⟨trivial, q⟩
  | str s =>
    refine seqIfN (b := false) ?c (fun e => nomatch e) fun _ => ?_
    case c => exact et_B (ev_isT (by rfl) (by simp [isT]))
    refine seqIfN (b := true) ?c (fun _ => ?_) fun e => nomatch e
    case c => exact et_B (ev_isT (by rfl) (by simp [isT]))
    exact sRet_ev (ev_and (a := true) (b := true) (ev_isT (by rfl) (by simp [isT])) fun _ Q q => eq_str _ _ q) ⟨trivial, q⟩
  | int i =>
    refine seqIfN (b := false) ?c (fun e => nomatch e) fun _ => ?_
    case c => exact et_B (ev_isT (by rfl) (by simp [isT]))
    refine seqIfN (b := false) ?c (fun e => nomatch e) fun _ => ?_
    case c => exact et_B (ev_isT (by rfl) (by simp [isT]))
    exact sRet_ev (ev_and (a := true) (b := true) (ev_isT (by rfl) (by simp [isT])) fun _ => ev_and (a := true) (b := true) (ev_not (a := false) (ev_isT (by rfl) (by simp [isT]))) fun _ Q q => eq_int _ _ q) ⟨trivial, q⟩
  | _ => cases hs
end K

set_option Elab.async false
set_option linter.all false
set_option maxRecDepth 100000
set_option maxHeartbeats 4000000
/-! GG: frozen expressions, a part put in. -/
namespace K
open PySem PySem.Spec PyProof.Rows L2 DL
theorem frz_row_of {x : D} (h : isRow x = true) : frzM x = .tuple ((rowOf x).map frzM) := by
  obtain ⟨b, e⟩ := row_of (xs := rowOf x) h rfl
  rw [e, frz_row]
  cases b <;> rfl
theorem frz_str (s : Str) : frzM (.str s) = .str s := rfl
theorem frz_expr {br : Bool} {w : Str} {items : List D} : frzM (mkRow br (.str w :: items)) = mkRow false (.str w :: items.map frzM) := by
  rw [frz_row, List.map_cons] <;> rfl
theorem leaf_frz {f : D → Bool} {l : Lt} {x : D} (hl : l ≠ .e) (hr : isRowL l = false) (h : itemM f l x = true) : frzM x = x := by
  refine frz_leaf ?_
  cases l with
  | n =>
    obtain ⟨i, rfl, _⟩ := int_R (show isIntR (-999) 999 x = true from h)
    rfl
  | m =>
    obtain ⟨i, rfl, _⟩ := int_R (show isIntR 0 20 x = true from h)
    rfl
  | o =>
    obtain ⟨s, rfl, _⟩ := ops_S h
    rfl
  | c =>
    obtain ⟨s, rfl, _⟩ := tests_S h
    rfl
  | x =>
    obtain ⟨s, rfl, _⟩ := name_S h
    rfl
  | t =>
    obtain ⟨s, rfl, _⟩ := text_S h
    rfl
  | e => exact absurd rfl hl
  | _ => cases hr
theorem item_frz {f : D → Bool} (hf : ∀ d, f d = true → f (frzM d) = true) {l : Lt} {x : D} (h : itemM f l x = true) : itemM f l (frzM x) = true := by
  by_cases he : l = .e
  · subst he
    exact hf x h
  · cases hr : isRowL l with
    | true =>
      obtain ⟨h1, h2, h3⟩ := fit_row hr h
      rw [frz_row_of h1]
      refine row_fit (b := false) hr (by rw [List.length_map]; exact h2.1) (by rw [List.length_map]; exact h2.2) fun y hy => ?_
      obtain ⟨z, hz, rfl⟩ := List.mem_map.mp hy
      exact hf z (h3 z hz)
    | false =>
      rw [leaf_frz he hr h]
      exact h
theorem zip_frz {f : D → Bool} (hf : ∀ d, f d = true → f (frzM d) = true) : ∀ {ls : List Lt} {xs : List D}, allZ f ls xs = true → allZ f ls (xs.map frzM) = true
  | [], _, _ => rfl
  | _ :: _, [], _ => rfl
  | l :: ls, x :: xs, h => by
    have h : (itemM f l x && allZ f ls xs) = true := h
    rw [Bool.and_eq_true] at h
    show (itemM f l (frzM x) && allZ f ls (xs.map frzM)) = true
    rw [item_frz hf h.1, zip_frz hf h.2] <;> rfl
theorem fits_frz : ∀ {n : Nat} {b : Bool} {v : D}, fitsM n b v = true → fitsM n b (frzM v) = true
  | 0, _, _, h => by cases h
  | n + 1, b, v, h => by
    obtain ⟨br, w, ls, items, rfl, hw, hl, hb, hz⟩ := fits_some h
    rw [frz_expr]
    exact fits_in hw (by rw [List.length_map]; exact hl) hb (zip_frz (fun d hd => fits_frz hd) hz)
theorem inner_frz {f : D → Bool} {l : Lt} {x : D} (h : itemM f l x = true) : innerOf l (frzM x) = (innerOf l x).map frzM := by
  cases l with
  | e => rfl
  | l | d | a =>
    have h1 := (fit_row rfl h).1
    show rowOf (frzM x) = (rowOf x).map frzM
    rw [frz_row_of h1] <;> rfl
  | _ => rfl
theorem parts_frz {f : D → Bool} : ∀ {ls : List Lt} {xs : List D}, allZ f ls xs = true → partsZ ls (xs.map frzM) = (partsZ ls xs).map frzM
  | [], _, _ => by simp [partsZ]
  | _ :: _, [], _ => by simp [partsZ]
  | l :: ls, x :: xs, h => by
    have h : (itemM f l x && allZ f ls xs) = true := h
    rw [Bool.and_eq_true] at h
    show innerOf l (frzM x) ++ partsZ ls (xs.map frzM) = (innerOf l x ++ partsZ ls xs).map frzM
    rw [inner_frz h.1, parts_frz h.2, List.map_append]
theorem partsM_mk {br : Bool} {w : Str} {ls : List Lt} {items : List D} (hw : shp w = some ls) (hl : items.length = ls.length) : partsM (mkRow br (.str w :: items)) = partsZ ls items := by
  unfold partsM
  rw [shape_mk hw hl]
theorem partsM_frz {n : Nat} {b : Bool} {v : D} (h : fitsM n b v = true) : partsM (frzM v) = (partsM v).map frzM := by
  cases n with
  | zero => cases h
  | succ n =>
    obtain ⟨br, w, ls, items, rfl, hw, hl, hb, hz⟩ := fits_some h
    rw [frz_expr, partsM_mk hw (by rw [List.length_map]; exact hl), partsM_mk hw hl, parts_frz hz]
/-! a row of parts put in -/
def wpZ : List Lt → List D → List D → List D
  | l :: ls, x :: xs, ps => if l = .e then ps.headD .none :: wpZ ls xs (ps.drop 1) else if isRowL l = true then .tuple (ps.take (rowOf x).length) :: wpZ ls xs (ps.drop (rowOf x).length) else x :: wpZ ls xs ps
  | _, _, _ => []
theorem wp_e {ls : List Lt} {x p : D} {xs ps : List D} : wpZ (.e :: ls) (x :: xs) (p :: ps) = p :: wpZ ls xs ps := rfl
theorem wp_row {l : Lt} {ls : List Lt} {x : D} {xs ps qs : List D} (hr : isRowL l = true) (hl : ps.length = (rowOf x).length) : wpZ (l :: ls) (x :: xs) (ps ++ qs) = .tuple ps :: wpZ ls xs qs := by
  have he : l ≠ .e := fun z => by subst z; exact absurd hr (by decide)
  show (if l = .e then _ else if isRowL l = true then PyData.tuple ((ps ++ qs).take (rowOf x).length) :: wpZ ls xs ((ps ++ qs).drop (rowOf x).length) else _) = _
  rw [if_neg he, if_pos hr, ← hl, List.take_left, List.drop_left]
theorem wp_leaf {l : Lt} {ls : List Lt} {x : D} {xs ps : List D} (he : l ≠ .e) (hr : isRowL l = false) : wpZ (l :: ls) (x :: xs) ps = x :: wpZ ls xs ps := by
  show (if l = .e then _ else if isRowL l = true then _ else x :: wpZ ls xs ps) = _
  rw [if_neg he, hr, if_neg Bool.false_ne_true]
/-- the same parts again -/
theorem wp_same {f : D → Bool} : ∀ {ls : List Lt} {xs : List D}, xs.length = ls.length → allZ f ls xs = true → wpZ ls (xs.map frzM) ((partsZ ls xs).map frzM) = xs.map frzM
  | [], [], _, _ => rfl
  | [], _ :: _, h, _ => by cases h
  | _ :: _, [], h, _ => by cases h
  | l :: ls, x :: xs, hl, h => by
    have h : (itemM f l x && allZ f ls xs) = true := h
    rw [Bool.and_eq_true] at h
    have ih := wp_same (f := f) (ls := ls) (xs := xs) (by simpa using hl) h.2
    have hp : partsZ (l :: ls) (x :: xs) = innerOf l x ++ partsZ ls xs := rfl
    rw [hp, List.map_append, List.map_cons]
    by_cases he : l = .e
    · subst he
      show frzM x :: wpZ ls (xs.map frzM) ((partsZ ls xs).map frzM) = _
      rw [ih]
    · cases hr : isRowL l with
      | true =>
        have h1 := (fit_row hr h.1).1
        have hi : innerOf l x = rowOf x := by cases l <;> first | rfl | cases hr
        rw [hi, wp_row hr (by rw [frz_row_of h1] <;> rfl), ih, ← frz_row_of h1]
      | false =>
        have hi : innerOf l x = [] := by cases l <;> first | rfl | exact absurd rfl he | cases hr
        rw [hi, List.map_nil, List.nil_append, wp_leaf he hr, ih]
theorem wZ_ng {f : D → D} : ∀ {ls : List Lt} {xs : List D} {m : Int}, m < 0 → xs.length = ls.length → wZ f ls xs m = xs
  | [], [], _, _, _ => rfl
  | [], _ :: _, _, _, h => by cases h
  | _ :: _, [], _, _, h => by cases h
  | l :: ls, x :: xs, m, hm, hl => by
    show wItem f l x m :: wZ f ls xs (m - ((innerOf l x).length : Nat)) = x :: xs
    rw [wZ_ng (by omega) (by simpa using hl)]
    unfold wItem
    rw [if_neg (by omega)]
theorem wZ_frz {f : D → D} {g : D → Bool} : ∀ {ls : List Lt} {xs : List D} {k : Nat} {p : D}, xs.length = ls.length → allZ g ls xs = true → (partsZ ls xs)[k]? = some p →
    (wZ f ls xs ((k : Nat) : Int)).map frzM = wpZ ls (xs.map frzM) (((partsZ ls xs).map frzM).set k (frzM (f p)))
  | [], [], _, _, _, _, h => by simp [partsZ] at h
  | [], _ :: _, _, _, h, _, _ => by cases h
  | _ :: _, [], _, _, h, _, _ => by cases h
  | l :: ls, x :: xs, k, p, hl, h, hk => by
    have h : (itemM g l x && allZ g ls xs) = true := h
    rw [Bool.and_eq_true] at h
    have hl2 : xs.length = ls.length := by simpa using hl
    have hp : partsZ (l :: ls) (x :: xs) = innerOf l x ++ partsZ ls xs := rfl
    have hw : wZ f (l :: ls) (x :: xs) ((k : Nat) : Int) = wItem f l x ((k : Nat) : Int) :: wZ f ls xs (((k : Nat) : Int) - ((innerOf l x).length : Nat)) := rfl
    rw [hp] at hk
    rw [hp, hw, List.map_append, List.map_cons, List.map_cons]
    by_cases hlt : k < (innerOf l x).length
    · rw [List.getElem?_append_left hlt] at hk
      rw [wZ_ng (by omega) hl2]
      have hset : ((innerOf l x).map frzM ++ (partsZ ls xs).map frzM).set k (frzM (f p)) = ((innerOf l x).map frzM).set k (frzM (f p)) ++ (partsZ ls xs).map frzM := List.set_append_left k _ (by rw [List.length_map]; exact hlt)
      rw [hset]
      have hit : wItem f l x ((k : Nat) : Int) = if l = .e then f p else .tuple ((innerOf l x).set k (f p)) := by
        unfold wItem
        rw [if_pos (by omega), Int.toNat_natCast, hk]
      rw [hit]
      by_cases he : l = .e
      · subst he
        have hk0 : k = 0 := by
          have : k < 1 := hlt
          omega
        subst hk0
        rw [if_pos rfl]
        show _ = frzM (f p) :: wpZ ls (xs.map frzM) ((partsZ ls xs).map frzM)
        rw [wp_same hl2 h.2]
      · cases hr : isRowL l with
        | true =>
          have h1 := (fit_row hr h.1).1
          have hi : innerOf l x = rowOf x := by cases l <;> first | rfl | cases hr
          rw [if_neg he, hi, wp_row hr (by rw [frz_row_of h1, List.length_set] <;> rfl), wp_same hl2 h.2, ← List.map_set]
          show PyData.tuple (frzAll _) :: _ = _
          rw [frzAll_map]
        | false =>
          have hi : innerOf l x = [] := by cases l <;> first | rfl | exact absurd rfl he | cases hr
          rw [hi] at hlt
          exact absurd hlt (Nat.not_lt_zero _)
    · have hge : (innerOf l x).length ≤ k := Nat.le_of_not_lt hlt
      rw [List.getElem?_append_right hge] at hk
      have ih := wZ_frz (f := f) (g := g) (k := k - (innerOf l x).length) hl2 h.2 hk
      have hc : ((k : Nat) : Int) - ((innerOf l x).length : Nat) = ((k - (innerOf l x).length : Nat) : Int) := by omega
      rw [hc, ih]
      have hset : ((innerOf l x).map frzM ++ (partsZ ls xs).map frzM).set k (frzM (f p)) = (innerOf l x).map frzM ++ ((partsZ ls xs).map frzM).set (k - (innerOf l x).length) (frzM (f p)) := by
        rw [List.set_append_right _ _ (by rw [List.length_map]; exact hge), List.length_map]
      rw [hset]
      have hit : wItem f l x ((k : Nat) : Int) = x := by
        unfold wItem
        rw [if_neg (by omega)]
      rw [hit]
      by_cases he : l = .e
      · subst he
        rfl
      · cases hr : isRowL l with
        | true =>
          have h1 := (fit_row hr h.1).1
          have hi : innerOf l x = rowOf x := by cases l <;> first | rfl | cases hr
          rw [hi, wp_row hr (by rw [frz_row_of h1] <;> rfl), ← frz_row_of h1]
        | false =>
          have hi : innerOf l x = [] := by cases l <;> first | rfl | exact absurd rfl he | cases hr
          rw [hi, List.map_nil, List.nil_append, wp_leaf he hr]
/-- a part of a frozen expression put in -/
def repM : Nat → D → List Int → D → D
  | 0 => fun v is piece => match is with
    | [] => piece
    | _ => v
  | n + 1 => fun v is piece => match is with
    | [] => piece
    | i :: r => match shape v with
      | some (w, ls, items) => .tuple (.str w :: wpZ ls items ((partsM v).set i.toNat (repM n ((partsM v).getD i.toNat .none) r piece)))
      | none => v
/-- a way that leads somewhere -/
def reachI : List Int → D → Prop
  | [], _ => True
  | i :: r, v => 0 ≤ i ∧ ∃ p, (partsM v)[i.toNat]? = some p ∧ reachI r p
theorem rep_frz : ∀ {n : Nat} {b : Bool} {v piece : D} {is : List Int}, fitsM n b v = true → reachI is v → repM n (frzM v) is (frzM piece) = frzM (withM n v is piece)
  | 0, _, _, _, _, h, _ => by cases h
  | n + 1, b, v, piece, [], h, _ => rfl
  | n + 1, b, v, piece, i :: r, h, hr => by
    obtain ⟨h0, p, hp, hr⟩ := hr
    have hpf := partsM_frz h
    obtain ⟨br, w, ls, items, rfl, hw, hl, hb, hz⟩ := fits_some h
    have hpm := partsM_mk (br := br) hw hl
    rw [hpm] at hp
    have fp := parts_fit hz p (List.mem_of_getElem? hp)
    have ih := rep_frz (piece := piece) fp hr
    have e1 : repM (n + 1) (frzM (mkRow br (.str w :: items))) (i :: r) (frzM piece) = .tuple (.str w :: wpZ ls (items.map frzM) (((partsZ ls items).map frzM).set i.toNat (frzM (withM n p r piece)))) := by
      rw [repM]
      simp only []
      rw [hpf, hpm, frz_expr, shape_mk hw (by rw [List.length_map]; exact hl)]
      have hg : ((partsZ ls items).map frzM).getD i.toNat .none = frzM p := by
        rw [List.getD_eq_getElem?_getD, List.getElem?_map, hp] <;> rfl
      rw [hg, ih]
    have e2 : withM (n + 1) (mkRow br (.str w :: items)) (i :: r) piece = .tuple (.str w :: wZ (fun p => withM n p r piece) ls items i) := by
      show (match shape (mkRow br (.str w :: items)) with
        | some (w, ls, items) => PyData.tuple (.str w :: wZ (fun p => withM n p r piece) ls items i)
        | none => mkRow br (.str w :: items)) = _
      rw [shape_mk hw hl]
    rw [e1, e2]
    obtain ⟨k, rfl⟩ := Int.eq_ofNat_of_zero_le h0
    rw [Int.toNat_natCast] at hp ⊢
    show _ = PyData.tuple (frzAll (.str w :: wZ (fun p => withM n p r piece) ls items ((k : Nat) : Int)))
    rw [frzAll_map, List.map_cons, wZ_frz (f := fun p => withM n p r piece) hl hz hp] <;> rfl
end K

set_option Elab.async false
set_option linter.all false
set_option maxRecDepth 100000
set_option maxHeartbeats 4000000
/-! GH: parts_of as an owned list, with_parts. -/
namespace K
open PySem PySem.Spec PyProof.Rows L2 DL
def t_poO : DSp := p1 fun v Q => (∃ n b, fitsM (n + 1) b v = true) ∧ Q (.own (partsM v))
theorem m_poO : BodyO 4 bo_parts_of t_poO := by
  intro as Wd Qd h
  obtain ⟨v, rfl, ⟨n, b, hf⟩, q⟩ := p1_of h
  clear h
  obtain ⟨br, w, ls, items, rfl, hw, hl, _, hz⟩ := fits_some hf
  rw [partsM_mk hw hl] at q
  have h6 := Nat.le_trans (parts_lenX hz) (costX_shp hw).1
  refine ⟨nle rfl, ?_⟩
  refine oIx_row (b := br) (Int.le_refl 0) (by rfl) ?_
  refine oKget_some (y := .tuple (wordsOf ls)) (by rw [shapes_look, hw] <;> rfl) ?_
  refine oSl_row (b := br) ?_
  rw [cutD_1]
  have key : ∀ (E : DEnds), (∀ x2 x3, E.nx [some (.d (mkRow br (.str w :: items))), some (.own (partsZ ls items)), x2, x3]) → dLoop (dgTup 2 (dgCons (dgN 2) (dgCons (dgN 3) (dgNil)))) b_parts_of_f0 E (zipD (wordsOf ls) items) [some (.d (mkRow br (.str w :: items))), some (.own []), none, none] := fun E hE =>
    m_po_loopE ls items [] none none hl hz (by show 0 + _ ≤ 100; omega) hE
  cases br <;> exact key _ fun x2 x3 => q
/-! with_parts -/
theorem cut_mid {ps : List D} {u r : Nat} (h : u + r ≤ ps.length) : DL.cutD ps (some ((u : Nat) : Int)) (some ((u : Nat) + ((r : Nat) : Int))) = (ps.drop u).take r := by
  unfold DL.cutD
  have e : ((u : Nat) : Int) + ((r : Nat) : Int) = ((u + r : Nat) : Int) := by omega
  rw [e, HT.sIx_nat, HT.sIx_nat, Nat.min_eq_left h, Nat.min_eq_left (show u ≤ ps.length by omega), Nat.add_sub_cancel_left]
theorem m_wp_loop {f : D → Bool} {v : D} {ps : List D} {Wd : XD → Prop} {Qd : DV → Prop} {nx : Ro → Prop} (hps : ps.length ≤ 100) : ∀ (ls : List Lt) (items acc : List D) (u : Nat) (x4 x5 : Option DV), items.length = ls.length → allZ f ls items = true → u + (partsZ ls items).length = ps.length → acc.length + items.length ≤ 100 →
    (∀ u' x4 x5, nx [some (.d v), some (.d (.list ps)), some (.own (acc ++ wpZ ls items (ps.drop u))), some (.d (.int u')), x4, x5]) →
    dLoop (dgTup 2 (dgCons (dgN 4) (dgCons (dgN 5) (dgNil)))) b_with_parts_f0 { dE Wd Qd with nx := nx } (zipD (wordsOf ls) items) [some (.d v), some (.d (.list ps)), some (.own acc), some (.d (.int ((u : Nat) : Int))), x4, x5]
  | [], [], acc, u, x4, x5, _, _, _, _, h => by
    have := h ((u : Nat) : Int) x4 x5
    rw [show wpZ [] [] (ps.drop u) = [] from rfl, List.append_nil] at this
    exact this
  | [], _ :: _, _, _, _, _, h, _, _, _, _ => by cases h
  | _ :: _, [], _, _, _, _, h, _, _, _, _ => by cases h
  | l :: ls, x :: items, acc, u, x4, x5, hl, hz, hu, hb, h => by
    have hz : (itemM f l x && allZ f ls items) = true := hz
    rw [Bool.and_eq_true] at hz
    have hp : partsZ (l :: ls) (x :: items) = innerOf l x ++ partsZ ls items := rfl
    rw [hp, List.length_append] at hu
    rw [List.length_cons] at hb
    have small : acc.length < sizeLine := Nat.lt_of_le_of_lt (show acc.length ≤ 1000 by omega) (by decide)
    have next : ∀ (y : D) (u2 : Nat) (x4 x5 : Option DV), u2 = u + (innerOf l x).length → wpZ (l :: ls) (x :: items) (ps.drop u) = y :: wpZ ls items (ps.drop u2) →
        dLoop (dgTup 2 (dgCons (dgN 4) (dgCons (dgN 5) (dgNil)))) b_with_parts_f0 { dE Wd Qd with nx := nx } (zipD (wordsOf ls) items) [some (.d v), some (.d (.list ps)), some (.own (acc ++ [y])), some (.d (.int ((u2 : Nat) : Int))), x4, x5] := fun y u2 x4 x5 e1 e2 => by
      refine m_wp_loop hps ls items (acc ++ [y]) u2 x4 x5 (by simpa using hl) hz.2 (by omega) (by rw [List.length_append, List.length_singleton]; omega) fun u' x4 x5 => ?_
      have := h u' x4 x5
      rw [e2] at this
      rw [List.append_assoc]
      exact this
    refine ⟨rfl, rfl, ?_⟩
    have hin : isRowL l = true → innerOf l x = rowOf x := fun h => by
      cases l <;> first | rfl | cases h
    have hin0 : l ≠ .e → isRowL l = false → innerOf l x = [] := fun h1 h2 => by
      cases l <;> first | rfl | exact absurd rfl h1 | cases h2
    cases l with
    | e =>
      have hlt : u < ps.length := by
        have : (innerOf Lt.e x).length = 1 := rfl
        omega
      have ed : ps.drop u = ps[u] :: ps.drop (u + 1) := List.drop_eq_getElem_cons hlt
      have e2 : wpZ (.e :: ls) (x :: items) (ps.drop u) = ps[u] :: wpZ ls items (ps.drop (u + 1)) := by
        rw [ed, wp_e]
      refine oIx_at (d := ps[u]) (Int.natCast_nonneg u) (by rw [Int.toNat_natCast]; exact List.getElem?_eq_getElem hlt) ?_
      exact ⟨small, trivial, next ps[u] (u + 1) _ _ rfl e2⟩
    | l | d | a =>
      refine oKin_is (b := true) (by rfl) ?_
      obtain ⟨h1, h2, h3⟩ := fit_row rfl hz.1
      have hi := hin rfl
      rw [hi] at hu
      obtain ⟨bx, ex⟩ := row_of (xs := rowOf x) h1 rfl
      have hle : u + (rowOf x).length ≤ ps.length := by omega
      have nx2 := fun e2 x4 x5 => next (.tuple ((ps.drop u).take (rowOf x).length)) (u + (rowOf x).length) x4 x5 (by rw [hi]) e2
      have nx3 := nx2 (by
        show PyData.tuple ((ps.drop u).take (rowOf x).length) :: wpZ ls items ((ps.drop u).drop (rowOf x).length) = _
        rw [List.drop_drop])
      rw [← cut_mid hle, Int.natCast_add] at nx3
      generalize rowOf x = xs at ex nx3
      subst ex
      cases bx <;> exact ⟨small, trivial, nx3 _ _⟩
    | _ =>
      refine oKin_is (b := false) (by rfl) ?_
      have hi := hin0 (by decide) rfl
      have nx2 := fun x4 x5 => next x u x4 x5 (by rw [hi] <;> rfl) rfl
      exact ⟨small, nx2 _ _⟩
def t_wp : DSp := p2 fun v y Q => ∃ (br : Bool) (f : D → Bool) (w : Str) (ls : List Lt) (items ps : List D), v = mkRow br (.str w :: items) ∧ shp w = some ls ∧ items.length = ls.length ∧ allZ f ls items = true ∧ y = .list ps ∧ ps.length = (partsZ ls items).length ∧ Q (.d (.tuple (.str w :: wpZ ls items ps)))
theorem m_wp : Body 6 b_with_parts t_wp := by
  intro as Wd Qd h
  obtain ⟨v, y, rfl, br, f, w, ls, items, ps, rfl, hw, hl, hz, rfl, hp, q⟩ := p2_of h
  clear h
  have h6 := Nat.le_trans (parts_lenX hz) (costX_shp hw).1
  have h3 := shp_short hw
  refine oIx_row (b := br) (Int.le_refl 0) (by rfl) ?_
  refine ⟨trivial, nle rfl, trivial, ?_⟩
  refine oIx_row (b := br) (Int.le_refl 0) (by rfl) ?_
  refine oKget_some (y := .tuple (wordsOf ls)) (by rw [shapes_look, hw] <;> rfl) ?_
  refine oSl_row (b := br) ?_
  rw [cutD_1]
  have go : dLoop (dgTup 2 (dgCons (dgN 4) (dgCons (dgN 5) (dgNil)))) b_with_parts_f0 { dE Wd Qd with nx := b_with_parts_3 (dE Wd Qd) } (zipD (wordsOf ls) items) [some (.d (mkRow br (.str w :: items))), some (.d (.list ps)), some (.own [.str w]), some (.d (.int ((0 : Nat) : Int))), none, none] :=
    m_wp_loop (f := f) (ps := ps) (by omega) ls items [.str w] 0 none none hl hz (by omega) (by show 1 + _ ≤ 100; omega) fun u' x4 x5 => ⟨trivial, q⟩
  cases br <;> exact go
end K

set_option Elab.async false
set_option linter.all false
set_option maxRecDepth 100000
set_option maxHeartbeats 4000000
/-! GI: kept, _replaced, part_at, with_part. -/
namespace K
open PySem PySem.Spec PyProof.Rows L2 DL
mutual
def okK : D → Bool
  | .list xs => decide (xs.length ≤ 1000) && okKs xs
  | .tuple xs => decide (xs.length ≤ 1000) && okKs xs
  | .dict kvs => kvs.isEmpty
  | .none => true
  | .bool _ => true
  | .int _ => true
  | .str _ => true
def okKs : List D → Bool
  | [] => true
  | x :: xs => okK x && okKs xs
end
theorem okKs_mem : ∀ {xs : List D} {x : D}, okKs xs = true → x ∈ xs → okK x = true
  | y :: r, x, h, hx => by
    rw [okKs, Bool.and_eq_true] at h
    rcases List.mem_cons.mp hx with rfl | hx
    · exact h.1
    · exact okKs_mem h.2 hx
def t_kept (n : Nat) : DSp := p2 fun v lv Q => ∃ k : Nat, lv = .int (k : Nat) ∧ k ≤ n ∧ okK v = true ∧ Q (.d v)
theorem ev_compG {Wd : DW} {ρ : Ro} {ta te : DE} {i : Nat} {br : Bool} {xs : List D} (f : D → D) (h : Ev ta Wd ρ (mkRow br xs)) (hl : xs.length < sizeLine) (hf : ∀ x ∈ xs, Ev te Wd (put (wipeR ρ [i]) i (.d x)) (f x)) :
    Ev (dComp (dOver ta) [i] (dgN i) dtYes te) Wd ρ (.list (xs.map f)) := fun Q q => h _ (by
  have go : xs.length < sizeLine ∧ dMap (dgN i) dtYes te Wd (wipeR ρ [i]) xs fun ys => Q (.d (.list ys)) := ⟨hl, dMap_fn f (fun d hd Q' hq => hf d hd Q' hq) q⟩
  cases br <;> exact go)
theorem kept_items {n k : Nat} (hk : k ≤ n) {v : D} {Wd : DW} {br : Bool} {xs : List D} (e : v = mkRow br xs) (hl : xs.length ≤ 1000) (hs : okKs xs = true) {x2 x3 : Option DV} :
    Ev (dComp (dOver (dVar 0)) [2] (dgN 2) (dtYes) (dCall (lo0 (t_kept n)) [] (dCons (dVar 2) (dCons (dOp oSub (dVar 1) (dC (.int 1))) (dNil))))) Wd [some (.d v), some (.d (.int ((k + 1 : Nat) : Int))), x2, x3] (.list xs) := by
  have h := ev_compG (Wd := Wd) (ρ := [some (.d v), some (.d (.int ((k + 1 : Nat) : Int))), x2, x3]) (ta := dVar 0) (te := dCall (lo0 (t_kept n)) [] (dCons (dVar 2) (dCons (dOp oSub (dVar 1) (dC (.int 1))) dNil))) (i := 2) (br := br) (xs := xs) (fun x => x) (by subst e; exact ev_v (by rfl)) (Nat.lt_of_le_of_lt hl (by decide)) fun x hx => by
    have hdep : Ev (dOp oSub (dVar 1) (dC (.int 1))) Wd (put (wipeR [some (.d v), some (.d (.int ((k + 1 : Nat) : Int))), x2, x3] [2]) 2 (.d x)) (.int (k : Nat)) := fun Q q => by
      have e2 : ((k + 1 : Nat) : Int) - 1 = ((k : Nat) : Int) := by omega
      show Q (.d (.int (((k + 1 : Nat) : Int) - 1)))
      rw [e2]
      exact q
    exact ev_call2 (ev_v (by rfl)) hdep fun Q hQ => ⟨k, rfl, hk, okKs_mem hs hx, hQ⟩
  rwa [List.map_id'] at h
theorem m_kept (n : Nat) : Body 4 (b_kept (t_kept n)) (t_kept (n + 1)) := by
  intro as Wd Qd h
  obtain ⟨v, lv, rfl, k, rfl, hk, ho, q⟩ := p2_of h
  clear h
  cases k with
  | zero => exact ⟨trivial, q⟩
  | succ k =>
    have hk : k ≤ n := by omega
    refine seqIfN (b := false) ?c (fun e => nomatch e) fun _ => ?_
    case c => exact et_B fun Q q => ev_v (x := .int ((k + 1 : Nat) : Int)) (by rfl) _ (by
      have e : eqF (.int ((k + 1 : Nat) : Int)) (.int 0) = false := by
        show (((k + 1 : Nat) : Int) == 0) = false
        exact beq_eq_false_iff_ne.mpr (by omega)
      show Q (.d (.bool (ng false (eqF (.int ((k + 1 : Nat) : Int)) (.int 0)))))
      rw [e]
      exact q)
    cases v with
    | list xs =>
      have ho : (decide (xs.length ≤ 1000) && okKs xs) = true := ho
      rw [Bool.and_eq_true] at ho
      refine seqIfN (b := true) ?c (fun _ => ?_) fun e => nomatch e
      case c => exact et_B (ev_isT (by rfl) (by simp [isT]))
      exact sRet_ev (kept_items (br := true) hk rfl (of_decide_eq_true ho.1) ho.2) ⟨trivial, q⟩
    | tuple xs =>
      have ho : (decide (xs.length ≤ 1000) && okKs xs) = true := ho
      rw [Bool.and_eq_true] at ho
      refine seqIfN (b := false) ?c (fun e => nomatch e) fun _ => ?_
      case c => exact et_B (ev_isT (by rfl) (by simp [isT]))
      refine seqIfN (b := true) ?c (fun _ => ?_) fun e => nomatch e
      case c => exact et_B (ev_isT (by rfl) (by simp [isT]))
      exact sRet_ev (ev_tup (kept_items (br := false) hk rfl (of_decide_eq_true ho.1) ho.2)) ⟨trivial, q⟩
    | dict kvs =>
      have ho : kvs.isEmpty = true := ho
      obtain rfl := List.isEmpty_iff.mp ho
      refine seqIfN (b := false) ?c (fun e => nomatch e) fun _ => ?_
      case c => exact et_B (ev_isT (by rfl) (by simp [isT]))
      refine seqIfN (b := false) ?c (fun e => nomatch e) fun _ => ?_
      case c => exact et_B (ev_isT (by rfl) (by simp [isT]))
      refine seqIfN (b := true) ?c (fun _ => ?_) fun e => nomatch e
      case c => exact et_B (ev_isT (by rfl) (by simp [isT]))
      exact ⟨rfl, trivial, q⟩
    | _ =>
      refine seqIfN (b := false) ?c (fun e => nomatch e) fun _ => ?_
      case c => exact et_B (ev_isT (by rfl) (by simp [isT]))
      refine seqIfN (b := false) ?c (fun e => nomatch e) fun _ => ?_
      case c => exact et_B (ev_isT (by rfl) (by simp [isT]))
      refine seqIfN (b := false) ?c (fun e => nomatch e) fun _ => ?_
      case c => exact et_B (ev_isT (by rfl) (by simp [isT]))
      exact ⟨trivial, q⟩
/-! _replaced -/
def b_rep_1 (t_po t_rep t_wp : DSp) : DS := sSeq (sOwnF 3 (lo0 t_po) (dCons (dVar 0) dNil)) (sSeq (sPut 3 (dOp oIx (dVar 1) (dC (.int 0))) (dCall (lo0 t_rep) [] (dCons (dOp oIx (dVar 3) (dOp oIx (dVar 1) (dC (.int 0)))) (dCons (dSl (dVar 1) (dPart (dC (.int 1))) dNoPart) (dCons (dVar 2) dNil))))) (sFrz 3 (sRet (dCall (lo0 t_wp) [] (dCons (dVar 0) (dCons (dVar 3) dNil))))))
def b_rep (t_po t_rep t_wp : DSp) : DS := sSeq (sIf (dB (dOp (oEq false) (dUn oLen (dVar 1)) (dC (.int 0)))) (sRet (dVar 2)) sNext) (b_rep_1 t_po t_rep t_wp)
def t_rep (n : Nat) : DSp := p3 fun v way piece Q => ∃ (br : Bool) (is : List Int), way = mkRow br (is.map .int) ∧ (is = [] ∨ ∃ b, fitsM n b v = true) ∧ reachI is v ∧ Q (.d (repM n v is piece))
theorem rep_nil {n : Nat} {v piece : D} : repM n v [] piece = piece := by cases n <;> rfl
theorem ev_len0 {Wd : DW} {ρ : Ro} {i : Nat} {br : Bool} {xs : List D} (h : get ρ i = some (.d (mkRow br xs))) : Ev (dOp (oEq false) (dUn oLen (dVar i)) (dC (.int 0))) Wd ρ (.bool (((xs.length : Nat) : Int) == 0)) := fun Q q => ev_v (Wd := Wd) h _ (by cases br <;> exact q)
theorem m_rep0 (t : DSp) : Body 4 (b_rep t_poO t t_wp) (t_rep 0) := by
  intro as Wd Qd h
  obtain ⟨v, way, piece, rfl, br, is, rfl, h1, h2, q⟩ := p3_of h
  clear h
  rcases h1 with rfl | ⟨b, h1⟩
  · rw [rep_nil] at q
    refine seqIfN (b := true) ?c (fun _ => ⟨trivial, q⟩) fun e => nomatch e
    case c => exact et_B (ev_len0 (br := br) (xs := []) (by rfl))
  · cases h1
theorem m_rep (n : Nat) : Body 4 (b_rep t_poO (t_rep n) t_wp) (t_rep (n + 1)) := by
  intro as Wd Qd h
  obtain ⟨v, way, piece, rfl, br, is, rfl, h1, h2, q⟩ := p3_of h
  clear h
  cases is with
  | nil =>
    rw [rep_nil] at q
    refine seqIfN (b := true) ?c (fun _ => ⟨trivial, q⟩) fun e => nomatch e
    case c => exact et_B (ev_len0 (br := br) (xs := []) (by rfl))
  | cons i r =>
    rcases h1 with h1 | ⟨b, hf⟩
    · cases h1
    obtain ⟨i0, p, hp, hr⟩ := h2
    have hf0 := hf
    obtain ⟨bv, w, ls, items, rfl, hw, hl, _, hz⟩ := fits_some hf
    have hpm := partsM_mk (br := bv) hw hl
    have e1 : repM (n + 1) (mkRow bv (.str w :: items)) (i :: r) piece = .tuple (.str w :: wpZ ls items ((partsZ ls items).set i.toNat (repM n p r piece))) := by
      rw [repM]
      simp only []
      rw [shape_mk hw hl, hpm]
      rw [hpm] at hp
      have hg : (partsZ ls items).getD i.toNat .none = p := by
        rw [List.getD_eq_getElem?_getD, hp] <;> rfl
      rw [hg]
    rw [e1] at q
    have hpo : (∃ b, fitsM n b p = true) := ⟨_, parts_fit hz p (by rw [hpm] at hp; exact List.mem_of_getElem? hp)⟩
    refine seqIfN (b := false) ?c (fun e => nomatch e) fun _ => ?_
    case c =>
      refine et_B fun Q q => ev_len0 (br := br) (xs := (i :: r).map .int) (by rfl) _ ?_
      have e : (((((i :: r).map PyData.int).length : Nat) : Int) == 0) = false := beq_eq_false_iff_ne.mpr (by rw [List.length_map, List.length_cons]; omega)
      rw [e]
      exact q
    refine ⟨trivial, ⟨n, b, hf0⟩, ?_⟩
    show (sSeq _ _) (dE Wd Qd) [some (.d (mkRow bv (.str w :: items))), some (.d (mkRow br ((i :: r).map .int))), some (.d piece), some (.own (partsM (mkRow bv (.str w :: items))))]
    rw [hpm] at hp ⊢
    refine oIx_row (b := br) (d := .int i) (Int.le_refl 0) (by rfl) ?_
    refine oIx_own (d := p) i0 hp ?_
    refine oSl_row (b := br) ?_
    rw [List.map_cons, cutD_1]
    refine ⟨trivial, trivial, trivial, br, r, rfl, .inr hpo, hr, fun _ => ?_⟩
    refine oIx_row (b := br) (d := .int i) (Int.le_refl 0) (by rfl) ?_
    obtain ⟨k, rfl⟩ := Int.eq_ofNat_of_zero_le i0
    rw [Int.toNat_natCast] at hp q
    have hk : k < (partsZ ls items).length := (List.getElem?_eq_some_iff.mp hp).1
    refine setAt_at hk ?_
    exact ⟨trivial, trivial, bv, fitsM n (b || w == "keep"), w, ls, items, _, rfl, hw, hl, hz, rfl, by rw [List.length_set], fun _ => ⟨trivial, q⟩⟩
end K

set_option Elab.async false
set_option linter.all false
set_option maxRecDepth 100000
set_option maxHeartbeats 4000000
/-! GJ: part_at, with_part. -/
namespace K
open PySem PySem.Spec PyProof.Rows L2 DL
def ixD : D → Nat → Option Nat
  | .int i, n => if 0 ≤ i ∧ i < ((n : Nat) : Int) then some i.toNat else none
  | _, _ => none
def reachL : List D → D → Option D
  | [], v => some v
  | e :: r, v => match ixD e (partsM v).length with
    | some k => reachL r ((partsM v).getD k .none)
    | none => none
def reachP (p v : D) : Option D := if isRow p = true then reachL (rowOf p) v else none
theorem part_fits {v x : D} (hv : ∃ n b, fitsM n b v = true) (hx : x ∈ partsM v) : ∃ n b, fitsM n b x = true := by
  obtain ⟨n, b, hv⟩ := hv
  cases n with
  | zero => cases hv
  | succ n =>
    obtain ⟨br, w, ls, items, rfl, hw, hl, _, hz⟩ := fits_some hv
    rw [partsM_mk hw hl] at hx
    exact ⟨n, _, parts_fit hz x hx⟩
theorem parts_short {v : D} (hv : ∃ n b, fitsM n b v = true) : (partsM v).length ≤ 6 := by
  obtain ⟨n, b, hv⟩ := hv
  cases n with
  | zero => cases hv
  | succ n =>
    obtain ⟨br, w, ls, items, rfl, hw, hl, _, hz⟩ := fits_some hv
    rw [partsM_mk hw hl]
    exact Nat.le_trans (parts_lenX hz) (costX_shp hw).1
/-- kept, called with its default -/
def t_k1 : DSp := fun as Wd Q => t_kept 20 (as ++ [.d (.int 20)]) Wd Q
theorem k1_ok {p : D} (h : okK p = true) (Qd : DV → Prop) (q : Qd (.d p)) : lo0 t_k1 [.d p] noX Qd := ⟨20, rfl, Nat.le_refl _, h, q⟩
def b_pa_f (CP : Addr) (t_po t_ii : DSp) : DS := sSeq (sSet 4 (dCall (lo0 t_po) [] (dCons (dVar 2) dNil))) (sSeq (sIf (dOr (dNot (dB (dCall (lo0 t_ii) [] (dCons (dVar 3) dNil)))) (dNot (dB (dChain oLe oLt (dC (.int 0)) (dVar 3) (dUn oLen (dVar 4)))))) (sRaiseF CP "path" (lo0 t_k1) (dVar 1)) sNext) (sSet 2 (dOp oIx (dVar 4) (dVar 3))))
def b_pa_2 (CP : Addr) (t_fr t_po t_ii : DSp) : DS := sSeq (sSet 2 (dCall (lo0 t_fr) [] (dCons (dVar 0) dNil))) (sSeq (sFor (dOver (dVar 1)) (dgN 3) (b_pa_f CP t_po t_ii)) (sRet (dVar 2)))
def b_pa_1 (CP : Addr) (t_ir t_fr t_po t_ii : DSp) : DS := sSeq (sIf (dNot (dB (dCall (lo0 t_ir) [] (dCons (dVar 1) dNil)))) (sRaiseF CP "path" (lo0 t_k1) (dVar 1)) sNext) (b_pa_2 CP t_fr t_po t_ii)
def b_pa (CE CP : Addr) (t_ie t_ir t_fr t_po t_ii : DSp) : DS := sSeq (sIf (dNot (dB (dCall (lo0 t_ie) [] (dCons (dVar 0) dNil)))) (sRaise CE) sNext) (b_pa_1 CP t_ir t_fr t_po t_ii)
theorem ix_test {e : D} {n : Nat} {Wd : DW} {ρ : Ro} {ps : List D} (h3 : get ρ 3 = some (.d e)) (h4 : get ρ 4 = some (.d (.list ps))) (hn : ps.length = n) :
    EvT (dOr (dNot (dB (dCall (lo0 t_is_integer) [] (dCons (dVar 3) dNil)))) (dNot (dB (dChain oLe oLt (dC (.int 0)) (dVar 3) (dUn oLen (dVar 4)))))) Wd ρ (ixD e n).isNone := by
  subst hn
  have h1 : EvT (dNot (dB (dCall (lo0 t_is_integer) [] (dCons (dVar 3) dNil)))) Wd ρ (!isIntD e) := et_not (et_B (ev_call (ev_v h3) fun Q hQ => hQ))
  cases e with
  | int i =>
    have h2 : EvT (dNot (dB (dChain oLe oLt (dC (.int 0)) (dVar 3) (dUn oLen (dVar 4))))) Wd ρ (!(decide (0 ≤ i) && decide (i < ((ps.length : Nat) : Int)))) := by
      refine et_not (et_B fun Q q => ?_)
      refine ev_v (Wd := Wd) h3 _ ⟨trivial, ?_⟩
      show if decide ((0 : Int) ≤ i) = true then _ else _
      by_cases h0 : (0 : Int) ≤ i
      · rw [decide_eq_true h0] at q ⊢
        rw [if_pos rfl]
        rw [Bool.true_and] at q
        exact ev_v (Wd := Wd) h4 _ q
      · rw [decide_eq_false h0] at q ⊢
        rw [if_neg Bool.false_ne_true]
        rw [Bool.false_and] at q
        exact q
    have h := et_or h1 fun _ => h2
    have e : ((!isIntD (.int i)) || !(decide (0 ≤ i) && decide (i < ((ps.length : Nat) : Int)))) = (ixD (.int i) ps.length).isNone := by
      show (false || _) = (if 0 ≤ i ∧ i < ((ps.length : Nat) : Int) then some i.toNat else none : Option Nat).isNone
      rw [Bool.false_or]
      by_cases hh : 0 ≤ i ∧ i < ((ps.length : Nat) : Int)
      · rw [if_pos hh, decide_eq_true hh.1, decide_eq_true hh.2] <;> rfl
      · rw [if_neg hh]
        by_cases h0 : 0 ≤ i
        · rw [decide_eq_false (fun z => hh ⟨h0, z⟩), Bool.and_false] <;> rfl
        · rw [decide_eq_false h0, Bool.false_and] <;> rfl
    rw [e] at h
    exact h
  | _ => exact et_or (b := false) h1 fun z => nomatch z
theorem m_pa_loop {CP : Addr} {v0 p : D} (hp : okK p = true) : ∀ (es : List D) (v : D) {E : DEnds} (x3 x4 : Option DV), (∃ n b, fitsM n b v = true) →
    (match reachL es v with
      | some x => ∀ x3 x4, E.nx [some (.d v0), some (.d p), some (.d (frzM x)), x3, x4]
      | none => ∀ ρ, E.ex ⟨CP, [("path", p)]⟩ ρ) → dLoop (dgN 3) (b_pa_f CP t_partsOf t_is_integer) E es [some (.d v0), some (.d p), some (.d (frzM v)), x3, x4]
  | [], v, E, x3, x4, hv, h => h x3 x4
  | e :: es, v, E, x3, x4, hv, h => by
    obtain ⟨n, b, hf⟩ := hv
    have hpm := partsM_frz hf
    have hv : ∃ n b, fitsM n b v = true := ⟨n, b, hf⟩
    have hlen : ((partsM v).map frzM).length = (partsM v).length := List.length_map ..
    have hff : ∃ n b, fitsM (n + 1) b (frzM v) = true := by
      cases n with
      | zero => cases hf
      | succ n => exact ⟨n, b, fits_frz hf⟩
    show b_pa_f CP t_partsOf t_is_integer _ [some (.d v0), some (.d p), some (.d (frzM v)), some (.d e), x4]
    refine seqSet (d := .list ((partsM v).map frzM)) (ev_call (ev_v (by rfl)) fun Q hQ => ⟨hff, by rw [hpm]; exact hQ⟩) ?_
    refine seqIfN (b := (ixD e (partsM v).length).isNone) ?c (fun z => ?_) fun z => ?_
    case c => exact ix_test (by rfl) (by rfl) hlen
    · have z : ixD e (partsM v).length = none := Option.isNone_iff_eq_none.mp z
      have h : (match reachL (e :: es) v with
        | some x => ∀ x3 x4, E.nx [some (.d v0), some (.d p), some (.d (frzM x)), x3, x4]
        | none => ∀ ρ, E.ex ⟨CP, [("path", p)]⟩ ρ) := h
      have hr : reachL (e :: es) v = none := by
        show (match ixD e (partsM v).length with
          | some k => reachL es ((partsM v).getD k .none)
          | none => none) = none
        rw [z]
      rw [hr] at h
      exact ⟨p, fun Qd q => k1_ok hp Qd q, h _⟩
    · obtain ⟨k, hk⟩ : ∃ k, ixD e (partsM v).length = some k := by
        cases hh : ixD e (partsM v).length with
        | none => rw [hh] at z; cases z
        | some k => exact ⟨k, rfl⟩
      have hr : reachL (e :: es) v = reachL es ((partsM v).getD k .none) := by
        show (match ixD e (partsM v).length with
          | some k => reachL es ((partsM v).getD k .none)
          | none => none) = _
        rw [hk]
      rw [hr] at h
      cases e with
      | int i =>
        have hk : (if 0 ≤ i ∧ i < (((partsM v).length : Nat) : Int) then some i.toNat else none) = some k := hk
        by_cases hi : 0 ≤ i ∧ i < (((partsM v).length : Nat) : Int)
        · rw [if_pos hi] at hk
          cases hk
          have hlt : i.toNat < (partsM v).length := by omega
          have hg : (partsM v).getD i.toNat .none = (partsM v)[i.toNat] := by
            rw [List.getD_eq_getElem?_getD, List.getElem?_eq_getElem hlt] <;> rfl
          rw [hg] at h
          have ih := fun x3 x4 => m_pa_loop hp es (partsM v)[i.toNat] (E := E) x3 x4 (part_fits hv (List.getElem_mem hlt)) h
          refine oIx_at (d := frzM (partsM v)[i.toNat]) hi.1 (by rw [List.getElem?_map, List.getElem?_eq_getElem hlt] <;> rfl) ?_
          exact ⟨trivial, ih _ _⟩
        · rw [if_neg hi] at hk
          cases hk
      | _ =>
        have hk : (none : Option Nat) = some k := hk
        cases hk
def t_pa (CE CP : Addr) : DSp := fun as Wd Q => match as with
  | [.d v, .d p] => fineD v = true ∧ okK p = true ∧ if fitsM 8 false v = true then (match reachP p v with
      | some x => Q (.d (frzM x))
      | none => Wd ⟨CP, [("path", p)]⟩) else Wd ⟨CE, []⟩
  | _ => False
theorem t_pa_of {CE CP : Addr} {as Wd Q} (h : t_pa CE CP as Wd Q) : ∃ v p, as = [.d v, .d p] ∧ fineD v = true ∧ okK p = true ∧ if fitsM 8 false v = true then (match reachP p v with
      | some x => Q (.d (frzM x))
      | none => Wd ⟨CP, [("path", p)]⟩) else Wd ⟨CE, []⟩ := by
  unfold t_pa at h
  split at h <;> first | exact h.elim | exact ⟨_, _, rfl, h⟩
theorem fits_depth {v : D} (h : fitsM 8 false v = true) : v.depth ≤ 16 := ex_depth (fits_ex h)
theorem m_pa (CE CP : Addr) : Body 5 (b_pa CE CP t_is_expression t_is_row (t_frz 17) t_partsOf t_is_integer) (t_pa CE CP) := by
  intro as Wd Qd h
  obtain ⟨v, p, rfl, hf, hp, q⟩ := t_pa_of h
  clear h
  refine seqIfN (b := !fitsM 8 false v) ?c (fun z => ?_) fun z => ?_
  case c => exact et_not (et_B (ev_call (ev_v (by rfl)) fun Q hQ => ⟨hf, hQ⟩))
  · rw [not_t z, if_neg Bool.false_ne_true] at q
    exact q
  have e8 := not_f z
  rw [e8, if_pos rfl] at q
  refine seqIfN (b := !isRow p) ?c (fun z => ?_) fun z => ?_
  case c => exact et_not (et_B (ev_call (ev_v (by rfl)) fun Q hQ => hQ))
  · have hr : reachP p v = none := by
      unfold reachP
      rw [not_t z, if_neg Bool.false_ne_true]
    rw [hr] at q
    exact ⟨p, fun Qd q => k1_ok hp Qd q, q⟩
  have er := not_f z
  have hr : reachP p v = reachL (rowOf p) v := by
    unfold reachP
    rw [er, if_pos rfl]
  rw [hr] at q
  refine seqSet (d := frzM v) (ev_call (ev_v (by rfl)) fun Q hQ => ⟨Nat.le_trans (fits_depth e8) (by decide), hf, hQ⟩) ?_
  obtain ⟨bp, ep⟩ := row_of (xs := rowOf p) er rfl
  have go : ∀ E : DEnds, (match reachL (rowOf p) v with
      | some x => ∀ x3 x4, E.nx [some (.d v), some (.d p), some (.d (frzM x)), x3, x4]
      | none => ∀ ρ, E.ex ⟨CP, [("path", p)]⟩ ρ) → sFor (dOver (dVar 1)) (dgN 3) (b_pa_f CP t_partsOf t_is_integer) E [some (.d v), some (.d p), some (.d (frzM v)), none, none] := fun E hE => by
    have lp := m_pa_loop (v0 := v) hp (rowOf p) v (E := E) none none ⟨8, false, e8⟩ hE
    generalize rowOf p = xs at ep lp
    subst ep
    cases bp <;> exact lp
  refine go _ ?_
  cases e : reachL (rowOf p) v with
  | some x =>
    rw [e] at q
    exact fun x3 x4 => ⟨trivial, q⟩
  | none =>
    rw [e] at q
    exact fun ρ => q
end K

set_option Elab.async false
set_option linter.all false
set_option maxRecDepth 100000
set_option maxHeartbeats 4000000
/-! GK: with_part. -/
namespace K
open PySem PySem.Spec PyProof.Rows L2 DL
def intD : D → Int
  | .int i => i
  | _ => 0
theorem reach_ints : ∀ {es : List D} {v x : D}, reachL es v = some x → es = (es.map intD).map .int ∧ reachI (es.map intD) v
  | [], _, _, _ => ⟨rfl, trivial⟩
  | e :: r, v, x, h => by
    cases hh : ixD e (partsM v).length with
    | none =>
      have h : (match ixD e (partsM v).length with
        | some k => reachL r ((partsM v).getD k .none)
        | none => none) = some x := h
      rw [hh] at h
      cases h
    | some k =>
      have h : (match ixD e (partsM v).length with
        | some k => reachL r ((partsM v).getD k .none)
        | none => none) = some x := h
      rw [hh] at h
      cases e with
      | int i =>
        have hh : (if 0 ≤ i ∧ i < (((partsM v).length : Nat) : Int) then some i.toNat else none) = some k := hh
        by_cases hi : 0 ≤ i ∧ i < (((partsM v).length : Nat) : Int)
        · rw [if_pos hi] at hh
          cases hh
          have hlt : i.toNat < (partsM v).length := by omega
          have hg : (partsM v).getD i.toNat .none = (partsM v)[i.toNat] := by
            rw [List.getD_eq_getElem?_getD, List.getElem?_eq_getElem hlt] <;> rfl
          have h : reachL r ((partsM v).getD i.toNat .none) = some x := h
          rw [hg] at h
          obtain ⟨h1, h2⟩ := reach_ints h
          refine ⟨?_, hi.1, (partsM v)[i.toNat], List.getElem?_eq_getElem hlt, h2⟩
          rw [List.map_cons, List.map_cons, ← h1] <;> rfl
        · rw [if_neg hi] at hh
          cases hh
      | _ =>
        have hh : (none : Option Nat) = some k := hh
        cases hh
mutual
theorem frz_fine : ∀ (v : D), fineD v = true → fineD (frzM v) = true
  | .list xs, h => by
    rw [fineD, Bool.and_eq_true] at h
    show fineD (.tuple (frzAll xs)) = true
    rw [fineD, Bool.and_eq_true]
    refine ⟨?_, frzs_fine xs h.2⟩
    rw [frzAll_map, List.length_map]
    exact h.1
  | .tuple xs, h => by
    rw [fineD, Bool.and_eq_true] at h
    show fineD (.tuple (frzAll xs)) = true
    rw [fineD, Bool.and_eq_true]
    refine ⟨?_, frzs_fine xs h.2⟩
    rw [frzAll_map, List.length_map]
    exact h.1
  | .none, h => h
  | .bool _, h => h
  | .int _, h => h
  | .str _, h => h
  | .dict _, h => h
theorem frzs_fine : ∀ (xs : List D), fineAll xs = true → fineAll (frzAll xs) = true
  | [], _ => rfl
  | x :: xs, h => by
    rw [fineAll, Bool.and_eq_true] at h
    show fineAll (frzM x :: frzAll xs) = true
    rw [fineAll, Bool.and_eq_true]
    exact ⟨frz_fine x h.1, frzs_fine xs h.2⟩
end
theorem reach_frz : ∀ {is : List Int} {n : Nat} {b : Bool} {v : D}, fitsM n b v = true → reachI is v → reachI is (frzM v)
  | [], _, _, _, _, _ => trivial
  | i :: r, 0, _, _, h, _ => by cases h
  | i :: r, n + 1, b, v, h, hr => by
    obtain ⟨h0, p, hp, hr⟩ := hr
    refine ⟨h0, frzM p, by rw [partsM_frz h, List.getElem?_map, hp] <;> rfl, ?_⟩
    obtain ⟨m, c, hpf⟩ := part_fits ⟨_, _, h⟩ (List.mem_of_getElem? hp)
    exact reach_frz hpf hr
theorem ev_call3 {Wd : DW} {ρ : Ro} {t : DSp} {ta tb tc : DE} {a b c d : D} (ha : Ev ta Wd ρ a) (hb : Ev tb Wd ρ b) (hc : Ev tc Wd ρ c) (h : ∀ Q : DV → Prop, Q (.d d) → t [.d a, .d b, .d c] noX Q) : Ev (dCall (lo0 t) [] (dCons ta (dCons tb (dCons tc dNil)))) Wd ρ d := fun Q q => ha _ (hb _ (hc _ ⟨trivial, trivial, trivial, h _ fun _ => q⟩))
def wayI (p : D) : List Int := (rowOf p).map intD
/-- the whole with the part in it -/
def wholeM (v p piece : D) : D := frzM (withM 8 v (wayI p) piece)
def b_wpart (CE : Addr) (t_pa t_ie t_fr t_rep : DSp) : DS := sSeq (sDrop (dCall t_pa [] (dCons (dVar 0) (dCons (dVar 1) dNil)))) (sSeq (sIf (dNot (dB (dCall (lo0 t_ie) [] (dCons (dVar 2) dNil)))) (sRaise CE) sNext) (sSeq (sSet 3 (dCall (lo0 t_rep) [] (dCons (dCall (lo0 t_fr) [] (dCons (dVar 0) dNil)) (dCons (dVar 1) (dCons (dCall (lo0 t_fr) [] (dCons (dVar 2) dNil)) dNil))))) (sSeq (sIf (dNot (dB (dCall (lo0 t_ie) [] (dCons (dVar 3) dNil)))) (sRaise CE) sNext) (sRet (dVar 3)))))
/-- what with_part comes to -/
inductive Tw | gave (d : D) | place | expr
def twM (v p piece : D) : Tw := if fitsM 8 false v = true then (match reachP p v with
    | some _ => if fitsM 8 false piece = true then (if fitsM 8 false (wholeM v p piece) = true then .gave (wholeM v p piece) else .expr) else .expr
    | none => .place) else .expr
def toTw (CE CP : Addr) (Wd : XD → Prop) (Q : DV → Prop) (p : D) : Tw → Prop
  | .gave d => Q (.d d)
  | .place => Wd ⟨CP, [("path", p)]⟩
  | .expr => Wd ⟨CE, []⟩
def t_wpart (CE CP : Addr) : DSp := fun as Wd Q => match as with
  | [.d v, .d p, .d piece] => fineD v = true ∧ okK p = true ∧ fineD piece = true ∧ toTw CE CP Wd Q p (twM v p piece)
  | _ => False
theorem t_wpart_of {CE CP : Addr} {as Wd Q} (h : t_wpart CE CP as Wd Q) : ∃ v p piece, as = [.d v, .d p, .d piece] ∧ fineD v = true ∧ okK p = true ∧ fineD piece = true ∧ toTw CE CP Wd Q p (twM v p piece) := by
  unfold t_wpart at h
  split at h <;> first | exact h.elim | exact ⟨_, _, _, rfl, h⟩
theorem whole_fine {v p piece : D} (e8 : fitsM 8 false v = true) (hf : fineD v = true) (hpf : fineD piece = true) : fineD (wholeM v p piece) = true :=
  frz_fine _ (with_fine (.inr (ex_good (fits_ex e8))) hf hpf)
theorem m_wpart (CE CP : Addr) : Body 4 (b_wpart CE (t_pa CE CP) t_is_expression (t_frz 17) (t_rep 8)) (t_wpart CE CP) := by
  intro as Wd Qd h
  obtain ⟨v, p, piece, rfl, hf, hp, hpf, q⟩ := t_wpart_of h
  clear h
  unfold twM at q
  refine ⟨trivial, trivial, hf, hp, ?_⟩
  cases e8 : fitsM 8 false v with
  | false =>
    rw [e8, if_neg Bool.false_ne_true] at q
    rw [if_neg Bool.false_ne_true]
    exact q
  | true =>
  rw [e8, if_pos rfl] at q
  rw [if_pos rfl]
  cases er : reachP p v with
  | none =>
    rw [er] at q
    exact q
  | some x =>
  rw [er] at q
  refine fun _ => ?_
  show sSeq (sIf (dNot (dB (dCall (lo0 t_is_expression) [] (dCons (dVar 2) dNil)))) (sRaise CE) sNext) _ _ (startR 4 [.d v, .d p, .d piece])
  have hr : isRow p = true ∧ reachL (rowOf p) v = some x := by
    unfold reachP at er
    cases hi : isRow p with
    | true =>
      rw [hi, if_pos rfl] at er
      exact ⟨rfl, er⟩
    | false =>
      rw [hi, if_neg Bool.false_ne_true] at er
      cases er
  refine seqIfN (b := !fitsM 8 false piece) ?c (fun z => ?_) fun z => ?_
  case c => exact et_not (et_B (ev_call (ev_v (by rfl)) fun Q hQ => ⟨hpf, hQ⟩))
  · have q : toTw CE CP Wd Qd p (if fitsM 8 false piece = true then _ else _) := q
    rw [not_t z, if_neg Bool.false_ne_true] at q
    exact q
  have ep := not_f z
  have q : toTw CE CP Wd Qd p (if fitsM 8 false piece = true then _ else _) := q
  rw [ep, if_pos rfl] at q
  obtain ⟨hi1, hi2⟩ := reach_ints hr.2
  obtain ⟨bp, eb⟩ := row_of (xs := rowOf p) hr.1 rfl
  have fr : ∀ {W' : DW} {ρ : Ro} {i : Nat} {y : D}, get ρ i = some (.d y) → fitsM 8 false y = true → fineD y = true → Ev (dCall (lo0 (t_frz 17)) [] (dCons (dVar i) dNil)) W' ρ (frzM y) := fun h1 h2 h3 => ev_call (ev_v h1) fun Q hQ => ⟨Nat.le_trans (fits_depth h2) (by decide), h3, hQ⟩
  have ew : repM 8 (frzM v) (wayI p) (frzM piece) = wholeM v p piece := rep_frz e8 hi2
  refine seqSet (d := wholeM v p piece) (ev_call3 (fr (by rfl) e8 hf) (ev_v (by rfl)) (fr (by rfl) ep hpf) fun Q hQ => ⟨bp, wayI p, ?_, .inr ⟨false, fits_frz e8⟩, ?_, by rw [ew]; exact hQ⟩) ?_
  · rw [show (wayI p).map PyData.int = rowOf p from hi1.symm]
    exact eb
  · exact reach_frz (n := 8) (b := false) e8 hi2
  refine seqIfN (b := !fitsM 8 false (wholeM v p piece)) ?c2 (fun z => ?_) fun z => ?_
  case c2 => exact et_not (et_B (ev_call (ev_v (by rfl)) fun Q hQ => ⟨whole_fine e8 hf hpf, hQ⟩))
  · rw [not_t z, if_neg Bool.false_ne_true] at q
    exact q
  · rw [not_f z, if_pos rfl] at q
    exact sRet_ev (ev_v (by rfl)) ⟨trivial, q⟩
end K

set_option Elab.async false
set_option linter.all false
set_option maxRecDepth 100000
set_option maxHeartbeats 4000000
namespace K
open PySem PySem.Spec PyProof.Rows L2 DL
def top (i : Nat) : Stmt := PySem.Challenge.pw_triedagain_k02_parts_exchanged.main.body.getD i (.Pass ⟨0, 0, 0, 0⟩)
section
variable {P : Program} {w : World} {K : PySem.W.Frag} {mg : Str → Option Value} {base : Heap} {k : Nat}
abbrev s_is_row : Stmt := top 18
theorem sc_is_row : FnScope N_is_row P_is_row (defScope s_is_row) := ⟨rfl, rfl, rfl, by decide +kernel, rfl, by decide +kernel, by decide +kernel⟩
theorem d_is_row (T : Tx mg K w) (f : Addr) (cdv : Value) (A : Around) (outer : List Env) (s : Shared) (H : Hp) (E : XK) (hr : Room k (A.deeper (envOfC "is_row" (defScope s_is_row) s.heap.objs.size f cdv))) :
    ∃ W : WX, PSs (cxOf CX0 P w K mg base N_is_row "is_row" (defScope s_is_row) f cdv A outer s H E).nox (defBody s_is_row) (lS K W (b_is_row)) :=
  have S := sc_is_row
  ⟨W0, dss_one (ds_ret (de_is2 (by decide +kernel) (by decide +kernel) (by rfl) T.n_isinstance (by rfl) T.n_list (by decide +kernel) (by rfl) T.n_tuple (by decide +kernel) (dv 0)))⟩
abbrev s_is_integer : Stmt := top 19
theorem sc_is_integer : FnScope N_is_integer P_is_integer (defScope s_is_integer) := ⟨rfl, rfl, rfl, by decide +kernel, rfl, by decide +kernel, by decide +kernel⟩
theorem d_is_integer (T : Tx mg K w) (f : Addr) (cdv : Value) (A : Around) (outer : List Env) (s : Shared) (H : Hp) (E : XK) (hr : Room k (A.deeper (envOfC "is_integer" (defScope s_is_integer) s.heap.objs.size f cdv))) :
    ∃ W : WX, PSs (cxOf CX0 P w K mg base N_is_integer "is_integer" (defScope s_is_integer) f cdv A outer s H E).nox (defBody s_is_integer) (lS K W (b_is_integer)) :=
  have S := sc_is_integer
  ⟨W0, dss_one (ds_ret (de_and (de_is (by decide +kernel) (by rfl) T.n_isinstance (by rfl) T.n_int (by decide +kernel) (dv 0)) (de_one (de_not (de_is (by decide +kernel) (by rfl) T.n_isinstance (by rfl) T.n_bool (by decide +kernel) (dv 0))))))⟩
abbrev s_is_letter : Stmt := top 20
theorem sc_is_letter : FnScope N_is_letter P_is_letter (defScope s_is_letter) := ⟨rfl, rfl, rfl, by decide +kernel, rfl, by decide +kernel, by decide +kernel⟩
theorem d_is_letter (T : Tx mg K w) (f : Addr) (cdv : Value) (A : Around) (outer : List Env) (s : Shared) (H : Hp) (E : XK) (hr : Room k (A.deeper (envOfC "is_letter" (defScope s_is_letter) s.heap.objs.size f cdv))) :
    ∃ W : WX, PSs (cxOf CX0 P w K mg base N_is_letter "is_letter" (defScope s_is_letter) f cdv A outer s H E).nox (defBody s_is_letter) (lS K W (b_is_letter)) :=
  have S := sc_is_letter
  ⟨W0, dss_one (ds_ret (de_lele (de_str) (dv 0) (de_str)))⟩
abbrev s_is_text_sign : Stmt := top 21
theorem sc_is_text_sign : FnScope N_is_text_sign P_is_text_sign (defScope s_is_text_sign) := ⟨rfl, rfl, rfl, by decide +kernel, rfl, by decide +kernel, by decide +kernel⟩
theorem d_is_text_sign (T : Tx mg K w) (f : Addr) (cdv : Value) (A : Around) (outer : List Env) (s : Shared) (H : Hp) (E : XK) (hr : Room k (A.deeper (envOfC "is_text_sign" (defScope s_is_text_sign) s.heap.objs.size f cdv))) :
    ∃ W : WX, PSs (cxOf CX0 P w K mg base N_is_text_sign "is_text_sign" (defScope s_is_text_sign) f cdv A outer s H E).nox (defBody s_is_text_sign) (lS K W (b_is_text_sign)) :=
  have S := sc_is_text_sign
  ⟨W0, dss_one (ds_ret (de_and (de_lele (de_str) (dv 0) (de_str)) (de_and (de_ne hr.units (dv 0) (de_str)) (de_one (de_ne hr.units (de_ordC (by rfl) T.n_ord (dv 0)) (de_int))))))⟩
abbrev s_is_name : Stmt := top 22
theorem sc_is_name : FnScope N_is_name P_is_name (defScope s_is_name) := ⟨rfl, rfl, rfl, by decide +kernel, rfl, by decide +kernel, by decide +kernel⟩
theorem d_is_name (T : Tx mg K w) {t_is_letter : DSp} {k_is_letter : Nat} (c_is_letter : CalD P w K mg base k_is_letter "is_letter" (lo0 t_is_letter) []) (l_is_letter : k_is_letter ≤ k) (f : Addr) (cdv : Value) (A : Around) (outer : List Env) (s : Shared) (H : Hp) (E : XK) (hr : Room k (A.deeper (envOfC "is_name" (defScope s_is_name) s.heap.objs.size f cdv))) :
    ∃ W : WX, PSs (cxOf CX0 P w K mg base N_is_name "is_name" (defScope s_is_name) f cdv A outer s H E).nox (defBody s_is_name) (lS K W (b_is_name t_is_letter)) :=
  have S := sc_is_name
  ⟨W0, dss_cons (ds_if (PW.pt (dw_or (dt_not (dt_val (de_is (by decide +kernel) (by rfl) T.n_isinstance (by rfl) T.n_str (by decide +kernel) (dv 0)))) (dw_or1 (dt_not (dt_lele (de_int) (de_len (by rfl) T.n_len (dv 0)) (de_g T.g_LONGEST_NAME (by rfl))))))) (dss_one (ds_ret (de_bl))) (dss_nil)) (
    dss_one (ds_ret (de_and (de_notin (dv 0) (de_g T.g_WORDS (by rfl))) (de_one (de_allC rfl (by rfl) T.n_all (de_comp (own := [("sign", 1)]) rfl S.nd (di_over (dv 0)) (blkOk_by (N := N_is_name) (sc := defScope s_is_name) (own := [("sign", 1)]) (by decide +kernel)) (fun _ _ _ _ _ => dg_name (i := 1) S.nd rfl (by first | exact .inl rfl | exact .inr rfl)) (fun _ _ _ _ _ => dts_nil) (fun _ _ _ _ _ => de_c c_is_letter hr l_is_letter (by rfl) (da_cons (dv 1) (da_nil)))))))))⟩
abbrev s_is_text : Stmt := top 23
theorem sc_is_text : FnScope N_is_text P_is_text (defScope s_is_text) := ⟨rfl, rfl, rfl, by decide +kernel, rfl, by decide +kernel, by decide +kernel⟩
theorem d_is_text (T : Tx mg K w) {t_is_text_sign : DSp} {k_is_text_sign : Nat} (c_is_text_sign : CalD P w K mg base k_is_text_sign "is_text_sign" (lo0 t_is_text_sign) []) (l_is_text_sign : k_is_text_sign ≤ k) (f : Addr) (cdv : Value) (A : Around) (outer : List Env) (s : Shared) (H : Hp) (E : XK) (hr : Room k (A.deeper (envOfC "is_text" (defScope s_is_text) s.heap.objs.size f cdv))) :
    ∃ W : WX, PSs (cxOf CX0 P w K mg base N_is_text "is_text" (defScope s_is_text) f cdv A outer s H E).nox (defBody s_is_text) (lS K W (b_is_text t_is_text_sign)) :=
  have S := sc_is_text
  ⟨W0, dss_cons (ds_if (PW.pt (dw_or (dt_not (dt_val (de_is (by decide +kernel) (by rfl) T.n_isinstance (by rfl) T.n_str (by decide +kernel) (dv 0)))) (dw_or1 (dt_gt (de_len (by rfl) T.n_len (dv 0)) (de_g T.g_LONGEST_TEXT (by rfl)))))) (dss_one (ds_ret (de_bl))) (dss_nil)) (
    dss_one (ds_ret (de_allC rfl (by rfl) T.n_all (de_comp (own := [("sign", 1)]) rfl S.nd (di_over (dv 0)) (blkOk_by (N := N_is_text) (sc := defScope s_is_text) (own := [("sign", 1)]) (by decide +kernel)) (fun _ _ _ _ _ => dg_name (i := 1) S.nd rfl (by first | exact .inl rfl | exact .inr rfl)) (fun _ _ _ _ _ => dts_nil) (fun _ _ _ _ _ => de_c c_is_text_sign hr l_is_text_sign (by rfl) (da_cons (dv 1) (da_nil)))))))⟩
abbrev s_field_fits : Stmt := top 24
theorem sc_field_fits : FnScope N_field_fits P_field_fits (defScope s_field_fits) := ⟨rfl, rfl, rfl, by decide +kernel, rfl, by decide +kernel, by decide +kernel⟩
theorem d_field_fits (T : Tx mg K w) {t_is_integer : DSp} {k_is_integer : Nat} (c_is_integer : CalD P w K mg base k_is_integer "is_integer" (lo0 t_is_integer) []) {t_is_text : DSp} {k_is_text : Nat} (c_is_text : CalD P w K mg base k_is_text "is_text" (lo0 t_is_text) []) {t_is_name : DSp} {k_is_name : Nat} (c_is_name : CalD P w K mg base k_is_name "is_name" (lo0 t_is_name) []) (l_is_integer : k_is_integer ≤ k) (l_is_text : k_is_text ≤ k) (l_is_name : k_is_name ≤ k) (f : Addr) (cdv : Value) (A : Around) (outer : List Env) (s : Shared) (H : Hp) (E : XK) (hr : Room k (A.deeper (envOfC "field_fits" (defScope s_field_fits) s.heap.objs.size f cdv))) :
    ∃ W : WX, PSs (cxOf CX0 P w K mg base N_field_fits "field_fits" (defScope s_field_fits) f cdv A outer s H E).nox (defBody s_field_fits) (lS K W (b_field_fits t_is_integer t_is_text t_is_name)) :=
  have S := sc_field_fits
  ⟨W0, dss_cons (ds_if (dt_eq hr.units (dv 0) (de_str)) (dss_one (ds_ret (de_and (de_c c_is_integer hr l_is_integer (by rfl) (da_cons (dv 1) (da_nil))) (de_one (de_lele (de_neg (de_g T.g_GREATEST_NUMBER (by rfl))) (dv 1) (de_g T.g_GREATEST_NUMBER (by rfl))))))) (dss_nil)) (
    dss_cons (ds_if (dt_eq hr.units (dv 0) (de_str)) (dss_one (ds_ret (de_and (de_c c_is_integer hr l_is_integer (by rfl) (da_cons (dv 1) (da_nil))) (de_one (de_lele (de_int) (dv 1) (de_g T.g_GREATEST_MOST (by rfl))))))) (dss_nil)) (
    dss_cons (ds_if (dt_eq hr.units (dv 0) (de_str)) (dss_one (ds_ret (de_c c_is_text hr l_is_text (by rfl) (da_cons (dv 1) (da_nil))))) (dss_nil)) (
    dss_cons (ds_if (dt_eq hr.units (dv 0) (de_str)) (dss_one (ds_ret (de_c c_is_name hr l_is_name (by rfl) (da_cons (dv 1) (da_nil))))) (dss_nil)) (
    dss_cons (ds_set (i := 2) S.nd rfl (by first | exact .inl rfl | exact .inr rfl) (de_if (dt_eq hr.units (dv 0) (de_str)) (de_g T.g_OP_WORDS (by rfl)) (de_g T.g_TEST_WORDS (by rfl)))) (
    dss_one (ds_ret (de_and (de_is (by decide +kernel) (by rfl) T.n_isinstance (by rfl) T.n_str (by decide +kernel) (dv 1)) (de_one (de_in (dv 1) (dv 2))))))))))⟩
abbrev s_row_fits : Stmt := top 25
theorem sc_row_fits : FnScope N_row_fits P_row_fits (defScope s_row_fits) := ⟨rfl, rfl, rfl, by decide +kernel, rfl, by decide +kernel, by decide +kernel⟩
theorem d_row_fits (T : Tx mg K w) {t_is_row : DSp} {k_is_row : Nat} (c_is_row : CalD P w K mg base k_is_row "is_row" (lo0 t_is_row) []) (l_is_row : k_is_row ≤ k) (f : Addr) (cdv : Value) (A : Around) (outer : List Env) (s : Shared) (H : Hp) (E : XK) (hr : Room k (A.deeper (envOfC "row_fits" (defScope s_row_fits) s.heap.objs.size f cdv))) :
    ∃ W : WX, PSs (cxOf CX0 P w K mg base N_row_fits "row_fits" (defScope s_row_fits) f cdv A outer s H E).nox (defBody s_row_fits) (lS K W (b_row_fits t_is_row)) :=
  have S := sc_row_fits
  ⟨W0, dss_cons (ds_to (de_kget T.t_ROW_SIZES (by rfl) (dv 0)) (dg_tup rfl (dgs_cons (dg_name (i := 2) S.nd rfl (by first | exact .inl rfl | exact .inr rfl)) (dgs_cons (dg_name (i := 3) S.nd rfl (by first | exact .inl rfl | exact .inr rfl)) (dgs_nil))))) (
    dss_one (ds_ret (de_and (de_c c_is_row hr l_is_row (by rfl) (da_cons (dv 1) (da_nil))) (de_one (de_lele (dv 2) (de_len (by rfl) T.n_len (dv 1)) (dv 3))))))⟩
abbrev s_has_shape : Stmt := top 26
theorem sc_has_shape : FnScope N_has_shape P_has_shape (defScope s_has_shape) := ⟨rfl, rfl, rfl, by decide +kernel, rfl, by decide +kernel, by decide +kernel⟩
theorem d_has_shape (T : Tx mg K w) {t_is_row : DSp} {k_is_row : Nat} (c_is_row : CalD P w K mg base k_is_row "is_row" (lo0 t_is_row) []) (l_is_row : k_is_row ≤ k) (f : Addr) (cdv : Value) (A : Around) (outer : List Env) (s : Shared) (H : Hp) (E : XK) (hr : Room k (A.deeper (envOfC "has_shape" (defScope s_has_shape) s.heap.objs.size f cdv))) :
    ∃ W : WX, PSs (cxOf CX0 P w K mg base N_has_shape "has_shape" (defScope s_has_shape) f cdv A outer s H E).nox (defBody s_has_shape) (lS K W (b_has_shape t_is_row)) :=
  have S := sc_has_shape
  ⟨W0, dss_cons (ds_if (PW.pt (dw_or (dt_not (dt_val (de_c c_is_row hr l_is_row (by rfl) (da_cons (dv 0) (da_nil))))) (dw_or1 (dt_eq hr.units (de_len (by rfl) T.n_len (dv 0)) (de_int))))) (dss_one (ds_ret (de_bl))) (dss_nil)) (
    dss_cons (ds_set (i := 1) S.nd rfl (by first | exact .inl rfl | exact .inr rfl) (de_ix (dv 0) (de_int))) (
    dss_one (ds_ret (de_and (de_is (by decide +kernel) (by rfl) T.n_isinstance (by rfl) T.n_str (by decide +kernel) (dv 1)) (de_and (de_kin T.t_SHAPES (by rfl) (dv 1)) (de_one (de_eq hr.units (de_len (by rfl) T.n_len (dv 0)) (de_add (de_len (by rfl) T.n_len (de_kget T.t_SHAPES (by rfl) (dv 1))) (de_int)))))))))⟩
abbrev s_fits : Stmt := top 27
theorem sc_fits : FnScope N_fits P_fits (defScope s_fits) := ⟨rfl, rfl, rfl, by decide +kernel, rfl, by decide +kernel, by decide +kernel⟩
theorem d_fits (T : Tx mg K w) {t_has_shape : DSp} {k_has_shape : Nat} (c_has_shape : CalD P w K mg base k_has_shape "has_shape" (lo0 t_has_shape) []) {t_fits_3 : DSp} {k_fits_3 : Nat} (c_fits_3 : CalD P w K mg base k_fits_3 "fits" (lo0 t_fits_3) []) {t_row_fits : DSp} {k_row_fits : Nat} (c_row_fits : CalD P w K mg base k_row_fits "row_fits" (lo0 t_row_fits) []) {t_field_fits : DSp} {k_field_fits : Nat} (c_field_fits : CalD P w K mg base k_field_fits "field_fits" (lo0 t_field_fits) []) (l_has_shape : k_has_shape ≤ k) (l_fits_3 : k_fits_3 ≤ k) (l_row_fits : k_row_fits ≤ k) (l_field_fits : k_field_fits ≤ k) (f : Addr) (cdv : Value) (A : Around) (outer : List Env) (s : Shared) (H : Hp) (E : XK) (hr : Room k (A.deeper (envOfC "fits" (defScope s_fits) s.heap.objs.size f cdv))) :
    ∃ W : WX, PSs (cxOf CX0 P w K mg base N_fits "fits" (defScope s_fits) f cdv A outer s H E).nox (defBody s_fits) (lS K W (b_fits t_has_shape t_fits_3 t_row_fits t_field_fits)) :=
  have S := sc_fits
  ⟨W0, dss_cons (ds_if (PW.pt (dw_or (dt_eq hr.units (dv 1) (de_int)) (dw_or1 (dt_not (dt_val (de_c c_has_shape hr l_has_shape (by rfl) (da_cons (dv 0) (da_nil)))))))) (dss_one (ds_ret (de_bl))) (dss_nil)) (
    dss_cons (ds_set (i := 3) S.nd rfl (by first | exact .inl rfl | exact .inr rfl) (de_ix (dv 0) (de_int))) (
    dss_cons (ds_if (PW.pt (dw_and (dt_val (dv 2)) (dw_and1 (dt_in (dv 3) (de_g T.g_LEAVING (by rfl)))))) (dss_one (ds_ret (de_bl))) (dss_nil)) (
    dss_cons (ds_set (i := 2) S.nd rfl (by first | exact .inl rfl | exact .inr rfl) (de_or (dv 2) (de_one (de_eq hr.units (dv 3) (de_str))))) (
    dss_cons (ds_for PassesOwn.never rfl (di_zip (by rfl) T.n_zip (de_kget T.t_SHAPES (by rfl) (dv 3)) (de_sl (dv 0) (do_some (de_int)) (do_none))) (dg_tup rfl (dgs_cons (dg_name (i := 4) S.nd rfl (by first | exact .inl rfl | exact .inr rfl)) (dgs_cons (dg_name (i := 5) S.nd rfl (by first | exact .inl rfl | exact .inr rfl)) (dgs_nil)))) (dss_cons (ds_if (dt_eq hr.units (dv 4) (de_str)) (dss_one (ds_set (i := 6) S.nd rfl (by first | exact .inl rfl | exact .inr rfl) (de_c c_fits_3 hr l_fits_3 (by rfl) (da_cons (dv 5) (da_cons (de_sub (dv 1) (de_int)) (da_cons (dv 2) (da_nil))))))) (dss_one (ds_if (dt_kin T.t_ROW_SIZES (by rfl) (dv 4)) (dss_one (ds_set (i := 6) S.nd rfl (by first | exact .inl rfl | exact .inr rfl) (de_and (de_c c_row_fits hr l_row_fits (by rfl) (da_cons (dv 4) (da_cons (dv 5) (da_nil)))) (de_one (de_allC rfl (by rfl) T.n_all (de_comp (own := [("part", 7)]) rfl S.nd (di_over (dv 5)) (blkOk_by (N := N_fits) (sc := defScope s_fits) (own := [("part", 7)]) (by decide +kernel)) (fun _ _ _ _ _ => dg_name (i := 7) S.nd rfl (by first | exact .inl rfl | exact .inr rfl)) (fun _ _ _ _ _ => dts_nil) (fun _ _ _ _ _ => de_c c_fits_3 hr l_fits_3 (by rfl) (da_cons (dv 7) (da_cons (de_sub (dv 1) (de_int)) (da_cons (dv 2) (da_nil))))))))))) (dss_one (ds_set (i := 6) S.nd rfl (by first | exact .inl rfl | exact .inr rfl) (de_c c_field_fits hr l_field_fits (by rfl) (da_cons (dv 4) (da_cons (dv 5) (da_nil))))))))) (
    dss_one (ds_if (dt_not (dt_val (dv 6))) (dss_one (ds_ret (de_bl))) (dss_nil))))) (
    dss_one (ds_ret (de_bl)))))))⟩
abbrev s_is_expression : Stmt := top 32
theorem sc_is_expression : FnScope N_is_expression P_is_expression (defScope s_is_expression) := ⟨rfl, rfl, rfl, by decide +kernel, rfl, by decide +kernel, by decide +kernel⟩
theorem d_is_expression (T : Tx mg K w) {t_fits_1 : DSp} {k_fits_1 : Nat} (c_fits_1 : CalD P w K mg base k_fits_1 "fits" (lo0 t_fits_1) [.int 8, .bool false]) (l_fits_1 : k_fits_1 ≤ k) (f : Addr) (cdv : Value) (A : Around) (outer : List Env) (s : Shared) (H : Hp) (E : XK) (hr : Room k (A.deeper (envOfC "is_expression" (defScope s_is_expression) s.heap.objs.size f cdv))) :
    ∃ W : WX, PSs (cxOf CX0 P w K mg base N_is_expression "is_expression" (defScope s_is_expression) f cdv A outer s H E).nox (defBody s_is_expression) (lS K W (b_is_expression t_fits_1)) :=
  have S := sc_is_expression
  ⟨W0, dss_one (ds_ret (de_c c_fits_1 hr l_fits_1 (by rfl) (da_cons (dv 0) (da_nil))))⟩
abbrev s__law_mixed : Stmt := top 38
theorem sc__law_mixed : FnScope N__law_mixed P__law_mixed (defScope s__law_mixed) := ⟨rfl, rfl, rfl, by decide +kernel, rfl, by decide +kernel, by decide +kernel⟩
theorem d__law_mixed (T : Tx mg K w) (f : Addr) (cdv : Value) (A : Around) (outer : List Env) (s : Shared) (H : Hp) (E : XK) (hr : Room k (A.deeper (envOfC "_law_mixed" (defScope s__law_mixed) s.heap.objs.size f cdv))) :
    ∃ W : WX, PSs (cxOf CX0 P w K mg base N__law_mixed "_law_mixed" (defScope s__law_mixed) f cdv A outer s H E).nox (defBody s__law_mixed) (lS K W (b__law_mixed)) :=
  have S := sc__law_mixed
  ⟨W0, dss_cons (ds_set (i := 2) S.nd rfl (by first | exact .inl rfl | exact .inr rfl) (de_mod (de_mul (de_add (de_add (de_mod (de_intC (by rfl) T.n_int (dv 0)) (de_int)) (de_mul (de_int) (dv 1))) (de_int)) (de_int)) (de_int))) (
    dss_cons (ds_set (i := 2) S.nd rfl (by first | exact .inl rfl | exact .inr rfl) (de_mod (de_mul (dv 2) (de_add (de_fdiv (dv 2) (de_int)) (de_int))) (de_int))) (
    dss_one (ds_ret (de_mod (de_mul (dv 2) (de_add (de_fdiv (dv 2) (de_int)) (de_int))) (de_int)))))⟩
abbrev s__law_words : Stmt := top 40
theorem sc__law_words : FnScope N__law_words P__law_words (defScope s__law_words) := ⟨rfl, rfl, rfl, by decide +kernel, rfl, by decide +kernel, by decide +kernel⟩
theorem d__law_words (T : Tx mg K w) (f : Addr) (cdv : Value) (A : Around) (outer : List Env) (s : Shared) (H : Hp) (E : XK) (hr : Room k (A.deeper (envOfC "_law_words" (defScope s__law_words) s.heap.objs.size f cdv))) :
    ∃ W : WX, PSs (cxOf CX0 P w K mg base N__law_words "_law_words" (defScope s__law_words) f cdv A outer s H E).nox (defBody s__law_words) (lS K W (b__law_words)) :=
  have S := sc__law_words
  ⟨W0, dss_cons (ds_set (i := 0) S.nd rfl (by first | exact .inl rfl | exact .inr rfl) (de_lst (da_cons (de_str) (da_cons (de_str) (da_cons (de_str) (da_cons (de_str) (da_cons (de_str) (da_cons (de_str) (da_cons (de_str) (da_cons (de_str) (da_cons (de_str) (da_cons (de_str) (da_cons (de_str) (da_cons (de_str) (da_cons (de_str) (da_nil)))))))))))))))) (
    dss_cons (ds_set (i := 0) S.nd rfl (by first | exact .inl rfl | exact .inr rfl) (de_add (dv 0) (de_lst (da_cons (de_str) (da_cons (de_str) (da_cons (de_str) (da_cons (de_str) (da_cons (de_str) (da_cons (de_str) (da_cons (de_str) (da_cons (de_str) (da_cons (de_str) (da_cons (de_str) (da_cons (de_str) (da_cons (de_str) (da_nil)))))))))))))))) (
    dss_one (ds_ret (de_add (dv 0) (de_lst (da_cons (de_str) (da_cons (de_str) (da_cons (de_str) (da_cons (de_str) (da_cons (de_str) (da_cons (de_str) (da_cons (de_str) (da_cons (de_str) (da_cons (de_str) (da_cons (de_str) (da_cons (de_str) (da_nil)))))))))))))))))⟩
abbrev s__law_letters : Stmt := top 41
theorem sc__law_letters : FnScope N__law_letters P__law_letters (defScope s__law_letters) := ⟨rfl, rfl, rfl, by decide +kernel, rfl, by decide +kernel, by decide +kernel⟩
theorem d__law_letters (T : Tx mg K w) {t__law_draw : DSp} {k__law_draw : Nat} (c__law_draw : CalD P w K mg base k__law_draw "_law_draw" (lo0 t__law_draw) []) (l__law_draw : k__law_draw ≤ k) (f : Addr) (cdv : Value) (A : Around) (outer : List Env) (s : Shared) (H : Hp) (E : XK) (hr : Room k (A.deeper (envOfC "_law_letters" (defScope s__law_letters) s.heap.objs.size f cdv))) :
    ∃ W : WX, PSs (cxOf CX0 P w K mg base N__law_letters "_law_letters" (defScope s__law_letters) f cdv A outer s H E).nox (defBody s__law_letters) (lS K W (b__law_letters t__law_draw)) :=
  have S := sc__law_letters
  ⟨W0, dss_one (ds_ret (de_join (de_str) (de_comp (own := [("k", 2)]) rfl S.nd (di_rng1 (by rfl) T.n_range (dv 1)) (blkOk_by (N := N__law_letters) (sc := defScope s__law_letters) (own := [("k", 2)]) (by decide +kernel)) (fun _ _ _ _ _ => dg_name (i := 2) S.nd rfl (by first | exact .inl rfl | exact .inr rfl)) (fun _ _ _ _ _ => dts_nil) (fun _ _ _ _ _ => de_ix (de_str) (de_c c__law_draw hr l__law_draw (by rfl) (da_cons (dv 0) (da_cons (de_int) (da_nil))))))))⟩
abbrev s__law_name : Stmt := top 42
theorem sc__law_name : FnScope N__law_name P__law_name (defScope s__law_name) := ⟨rfl, rfl, rfl, by decide +kernel, rfl, by decide +kernel, by decide +kernel⟩
theorem d__law_name (T : Tx mg K w) {t__law_draw : DSp} {k__law_draw : Nat} (c__law_draw : CalD P w K mg base k__law_draw "_law_draw" (lo0 t__law_draw) []) {t__law_words : DSp} {k__law_words : Nat} (c__law_words : CalD P w K mg base k__law_words "_law_words" (lo0 t__law_words) []) {t__law_letters : DSp} {k__law_letters : Nat} (c__law_letters : CalD P w K mg base k__law_letters "_law_letters" (lo0 t__law_letters) []) (l__law_draw : k__law_draw ≤ k) (l__law_words : k__law_words ≤ k) (l__law_letters : k__law_letters ≤ k) (f : Addr) (cdv : Value) (A : Around) (outer : List Env) (s : Shared) (H : Hp) (E : XK) (hr : Room k (A.deeper (envOfC "_law_name" (defScope s__law_name) s.heap.objs.size f cdv))) :
    ∃ W : WX, PSs (cxOf CX0 P w K mg base N__law_name "_law_name" (defScope s__law_name) f cdv A outer s H E).nox (defBody s__law_name) (lS K W (b__law_name t__law_draw t__law_words t__law_letters)) :=
  have S := sc__law_name
  ⟨W0, dss_cons (ds_set (i := 1) S.nd rfl (by first | exact .inl rfl | exact .inr rfl) (de_c c__law_draw hr l__law_draw (by rfl) (da_cons (dv 0) (da_cons (de_int) (da_nil))))) (
    dss_cons (ds_set (i := 2) S.nd rfl (by first | exact .inl rfl | exact .inr rfl) (de_ix (de_c0 c__law_words hr l__law_words (by rfl)) (de_c c__law_draw hr l__law_draw (by rfl) (da_cons (dv 0) (da_cons (de_int) (da_nil)))))) (
    dss_cons (ds_set (i := 3) S.nd rfl (by first | exact .inl rfl | exact .inr rfl) (de_c c__law_letters hr l__law_letters (by rfl) (da_cons (dv 0) (da_cons (de_add (de_int) (de_c c__law_draw hr l__law_draw (by rfl) (da_cons (dv 0) (da_cons (de_int) (da_nil))))) (da_nil))))) (
    dss_cons (ds_set (i := 2) S.nd rfl (by first | exact .inl rfl | exact .inr rfl) (de_ix (de_lst (da_cons (de_add (de_sl (dv 2) (do_none) (do_some (de_int))) (de_sl (dv 3) (do_none) (do_some (de_int)))) (da_cons (de_sl (dv 2) (do_none) (do_some (de_neg (de_int)))) (da_cons (dv 3) (da_cons (de_str) (da_cons (de_str) (da_cons (de_str) (da_cons (de_str) (da_nil))))))))) (dv 1))) (
    dss_cons (ds_if (dt_in (dv 2) (de_c0 c__law_words hr l__law_words (by rfl))) (dss_one (ds_ret (de_add (de_str) (de_sl (dv 2) (do_some (de_int)) (do_none))))) (dss_nil)) (
    dss_one (ds_ret (dv 2)))))))⟩
abbrev s__law_written : Stmt := top 43
theorem sc__law_written : FnScope N__law_written P__law_written (defScope s__law_written) := ⟨rfl, rfl, rfl, by decide +kernel, rfl, by decide +kernel, by decide +kernel⟩
theorem d__law_written (T : Tx mg K w) {t__law_draw : DSp} {k__law_draw : Nat} (c__law_draw : CalD P w K mg base k__law_draw "_law_draw" (lo0 t__law_draw) []) (l__law_draw : k__law_draw ≤ k) (f : Addr) (cdv : Value) (A : Around) (outer : List Env) (s : Shared) (H : Hp) (E : XK) (hr : Room k (A.deeper (envOfC "_law_written" (defScope s__law_written) s.heap.objs.size f cdv))) :
    ∃ W : WX, PSs (cxOf CX0 P w K mg base N__law_written "_law_written" (defScope s__law_written) f cdv A outer s H E).nox (defBody s__law_written) (lS K W (b__law_written t__law_draw)) :=
  have S := sc__law_written
  ⟨W0, dss_cons (ds_set (i := 1) S.nd rfl (by first | exact .inl rfl | exact .inr rfl) (de_str)) (
    dss_cons (ds_set (i := 2) S.nd rfl (by first | exact .inl rfl | exact .inr rfl) (de_c c__law_draw hr l__law_draw (by rfl) (da_cons (dv 0) (da_cons (de_int) (da_nil))))) (
    dss_cons (ds_if (dt_eq hr.units (dv 2) (de_int)) (dss_one (ds_set (i := 2) S.nd rfl (by first | exact .inl rfl | exact .inr rfl) (de_c c__law_draw hr l__law_draw (by rfl) (da_cons (dv 0) (da_cons (de_int) (da_nil)))))) (dss_nil)) (
    dss_one (ds_ret (de_join (de_str) (de_comp (own := [("k", 3)]) rfl S.nd (di_rng1 (by rfl) T.n_range (dv 2)) (blkOk_by (N := N__law_written) (sc := defScope s__law_written) (own := [("k", 3)]) (by decide +kernel)) (fun _ _ _ _ _ => dg_name (i := 3) S.nd rfl (by first | exact .inl rfl | exact .inr rfl)) (fun _ _ _ _ _ => dts_nil) (fun _ _ _ _ _ => de_ix (dv 1) (de_c c__law_draw hr l__law_draw (by rfl) (da_cons (dv 0) (da_cons (de_len (by rfl) T.n_len (dv 1)) (da_nil)))))))))))⟩
abbrev s__law_leaf : Stmt := top 45
theorem sc__law_leaf : FnScope N2__law_leaf P2__law_leaf (defScope s__law_leaf) := ⟨rfl, rfl, rfl, by decide +kernel, rfl, by decide +kernel, by decide +kernel⟩
theorem d__law_leaf (T : Tx mg K w) {t__law_draw : DSp} {k__law_draw : Nat} (c__law_draw : CalD P w K mg base k__law_draw "_law_draw" (lo0 t__law_draw) []) {t__law_name : DSp} {k__law_name : Nat} (c__law_name : CalD P w K mg base k__law_name "_law_name" (lo0 t__law_name) []) {t__law_written : DSp} {k__law_written : Nat} (c__law_written : CalD P w K mg base k__law_written "_law_written" (lo0 t__law_written) []) (l__law_draw : k__law_draw ≤ k) (l__law_name : k__law_name ≤ k) (l__law_written : k__law_written ≤ k) (f : Addr) (cdv : Value) (A : Around) (outer : List Env) (s : Shared) (H : Hp) (E : XK) (hr : Room k (A.deeper (envOfC "_law_leaf" (defScope s__law_leaf) s.heap.objs.size f cdv))) :
    ∃ W : WX, PSs (cxOf CX0 P w K mg base N2__law_leaf "_law_leaf" (defScope s__law_leaf) f cdv A outer s H E).nox (defBody s__law_leaf) (lS K W (b__law_leaf t__law_draw t__law_name t__law_written)) :=
  have S := sc__law_leaf
  ⟨W0, dss_cons (ds_set (i := 2) S.nd rfl (by first | exact .inl rfl | exact .inr rfl) (de_c c__law_draw hr l__law_draw (by rfl) (da_cons (dv 0) (da_cons (de_int) (da_nil))))) (
    dss_cons (ds_if (PW.pt (dw_and (dt_eq hr.units (dv 2) (de_int)) (dw_and1 (dt_eq hr.units (dv 1) (de_int))))) (dss_one (ds_ret (de_tup (da_cons (de_str) (da_nil))))) (dss_nil)) (
    dss_cons (ds_if (dt_gt (dv 2) (de_int)) (dss_one (ds_ret (de_tup (da_cons (de_str) (da_cons (de_c c__law_name hr l__law_name (by rfl) (da_cons (dv 0) (da_nil))) (da_nil)))))) (dss_nil)) (
    dss_cons (ds_if (dt_eq hr.units (dv 2) (de_int)) (dss_one (ds_ret (de_tup (da_cons (de_str) (da_cons (de_sub (de_c c__law_draw hr l__law_draw (by rfl) (da_cons (dv 0) (da_cons (de_int) (da_nil)))) (de_int)) (da_nil)))))) (dss_nil)) (
    dss_cons (ds_if (dt_eq hr.units (dv 2) (de_int)) (dss_one (ds_ret (de_tup (da_cons (de_str) (da_cons (de_c c__law_written hr l__law_written (by rfl) (da_cons (dv 0) (da_nil))) (da_nil)))))) (dss_nil)) (
    dss_one (ds_ret (de_ix (de_lst (da_cons (de_tup (da_cons (de_str) (da_nil))) (da_cons (de_non) (da_cons (de_non) (da_cons (de_tup (da_cons (de_str) (da_cons (de_lst (da_nil)) (da_nil)))) (da_cons (de_tup (da_cons (de_str) (da_nil))) (da_cons (de_lst (da_cons (de_str) (da_nil))) (da_nil)))))))) (dv 2))))))))⟩
abbrev s__law_item : Stmt := top 46
theorem sc__law_item : FnScope N2__law_item P2__law_item (defScope s__law_item) := ⟨rfl, rfl, rfl, by decide +kernel, rfl, by decide +kernel, by decide +kernel⟩
theorem d__law_item (T : Tx mg K w) {t__law_expression : DSp} {k__law_expression : Nat} (c__law_expression : CalD P w K mg base k__law_expression "_law_expression" (lo0 t__law_expression) []) {t__law_draw : DSp} {k__law_draw : Nat} (c__law_draw : CalD P w K mg base k__law_draw "_law_draw" (lo0 t__law_draw) []) {t__law_name : DSp} {k__law_name : Nat} (c__law_name : CalD P w K mg base k__law_name "_law_name" (lo0 t__law_name) []) {t__law_written : DSp} {k__law_written : Nat} (c__law_written : CalD P w K mg base k__law_written "_law_written" (lo0 t__law_written) []) (l__law_expression : k__law_expression ≤ k) (l__law_draw : k__law_draw ≤ k) (l__law_name : k__law_name ≤ k) (l__law_written : k__law_written ≤ k) (f : Addr) (cdv : Value) (A : Around) (outer : List Env) (s : Shared) (H : Hp) (E : XK) (hr : Room k (A.deeper (envOfC "_law_item" (defScope s__law_item) s.heap.objs.size f cdv))) :
    ∃ W : WX, PSs (cxOf CX0 P w K mg base N2__law_item "_law_item" (defScope s__law_item) f cdv A outer s H E).nox (defBody s__law_item) (lS K W (b__law_item t__law_expression t__law_draw t__law_name t__law_written)) :=
  have S := sc__law_item
  ⟨W0, dss_cons (ds_if (dt_eq hr.units (dv 1) (de_str)) (dss_one (ds_ret (de_c c__law_expression hr l__law_expression (by rfl) (da_cons (dv 0) (da_cons (dv 2) (da_cons (dv 3) (da_cons (dv 4) (da_nil)))))))) (dss_nil)) (
    dss_cons (ds_if (dt_eq hr.units (dv 1) (de_str)) (dss_one (ds_ret (de_sub (de_c c__law_draw hr l__law_draw (by rfl) (da_cons (dv 0) (da_cons (de_int) (da_nil)))) (de_int)))) (dss_nil)) (
    dss_cons (ds_if (dt_eq hr.units (dv 1) (de_str)) (dss_one (ds_ret (de_c c__law_draw hr l__law_draw (by rfl) (da_cons (dv 0) (da_cons (de_int) (da_nil)))))) (dss_nil)) (
    dss_cons (ds_if (dt_in (dv 1) (de_str)) (dss_cons (ds_set (i := 7) S.nd rfl (by first | exact .inl rfl | exact .inr rfl) (de_lst (da_cons (de_str) (da_cons (de_str) (da_cons (de_str) (da_cons (de_str) (da_cons (de_str) (da_cons (de_str) (da_cons (de_str) (da_cons (de_str) (da_cons (de_str) (da_cons (de_str) (da_cons (de_str) (da_cons (de_str) (da_nil))))))))))))))) (
    dss_one (ds_ret (de_ix (dv 7) (de_add (de_c c__law_draw hr l__law_draw (by rfl) (da_cons (dv 0) (da_cons (de_int) (da_nil)))) (de_mul (de_int) (de_intC (by rfl) T.n_int (de_eq hr.units (dv 1) (de_str))))))))) (dss_nil)) (
    dss_cons (ds_if (dt_eq hr.units (dv 1) (de_str)) (dss_one (ds_ret (de_c c__law_name hr l__law_name (by rfl) (da_cons (dv 0) (da_nil))))) (dss_nil)) (
    dss_cons (ds_if (dt_eq hr.units (dv 1) (de_str)) (dss_one (ds_ret (de_c c__law_written hr l__law_written (by rfl) (da_cons (dv 0) (da_nil))))) (dss_nil)) (
    dss_cons (ds_set (i := 5) S.nd rfl (by first | exact .inl rfl | exact .inr rfl) (de_add (de_c c__law_draw hr l__law_draw (by rfl) (da_cons (dv 0) (da_cons (de_get (hu_of hr) (de_dict (dp_cons (de_int) (dp_cons (de_int) (dp_cons (de_int) (dp_nil))))) (dv 1)) (da_nil)))) (de_intC (by rfl) T.n_int (de_eq hr.units (dv 1) (de_str))))) (
    dss_cons (ds_set (i := 6) S.nd rfl (by first | exact .inl rfl | exact .inr rfl) (de_c c__law_draw hr l__law_draw (by rfl) (da_cons (dv 0) (da_cons (de_int) (da_nil))))) (
    dss_cons (ds_setC (i := 7) (own := [("k", 8)]) rfl S.nd rfl rfl (sw_true rfl rfl rfl (by decide +kernel)) (di_rng1 (by rfl) T.n_range (dv 5)) (blkOk_by (N := N2__law_item) (sc := defScope s__law_item) (own := [("k", 8)]) (by decide +kernel)) (fun _ _ _ _ _ => dg_name (i := 8) S.nd rfl (by first | exact .inl rfl | exact .inr rfl)) (fun _ _ _ _ _ => dts_nil) (fun _ _ _ _ _ => de_c c__law_expression hr l__law_expression (by rfl) (da_cons (dv 0) (da_cons (dv 2) (da_cons (dv 3) (da_cons (dv 4) (da_nil))))))) (
    dss_one (ds_ret (de_ix (de_lst (da_cons (dv 7) (da_cons (de_tupC (by rfl) T.n_tuple (dv 7)) (da_nil)))) (dv 6))))))))))))⟩
abbrev s__law_expression : Stmt := top 47
theorem sc__law_expression : FnScope N2__law_expression P2__law_expression (defScope s__law_expression) := ⟨rfl, rfl, rfl, by decide +kernel, rfl, by decide +kernel, by decide +kernel⟩
theorem d__law_expression (T : Tx mg K w) {t__law_leaf : DSp} {k__law_leaf : Nat} (c__law_leaf : CalD P w K mg base k__law_leaf "_law_leaf" (lo0 t__law_leaf) []) {t__law_shapes : DSp} {k__law_shapes : Nat} (c__law_shapes : CalD P w K mg base k__law_shapes "_law_shapes" (lo0 t__law_shapes) []) {t__law_draw : DSp} {k__law_draw : Nat} (c__law_draw : CalD P w K mg base k__law_draw "_law_draw" (lo0 t__law_draw) []) {t__law_item : DSp} {k__law_item : Nat} (c__law_item : CalD P w K mg base k__law_item "_law_item" (lo0 t__law_item) []) (l__law_leaf : k__law_leaf ≤ k) (l__law_shapes : k__law_shapes ≤ k) (l__law_draw : k__law_draw ≤ k) (l__law_item : k__law_item ≤ k) (f : Addr) (cdv : Value) (A : Around) (outer : List Env) (s : Shared) (H : Hp) (E : XK) (hr : Room k (A.deeper (envOfC "_law_expression" (defScope s__law_expression) s.heap.objs.size f cdv))) :
    ∃ W : WX, PSs (cxOf CX0 P w K mg base N2__law_expression "_law_expression" (defScope s__law_expression) f cdv A outer s H E).nox (defBody s__law_expression) (lS K W (b__law_expression t__law_leaf t__law_shapes t__law_draw t__law_item)) :=
  have S := sc__law_expression
  ⟨W0, dss_cons (ds_room (i := 1) rfl (by first | exact .inl rfl | exact .inr (.inl rfl) | exact .inr (.inr rfl)) (de_sub (de_room (i := 1) rfl (by first | exact .inl rfl | exact .inr (.inl rfl) | exact .inr (.inr rfl))) (de_int))) (
    dss_cons (ds_if (PW.pt (dw_or (dt_le (dv 2) (de_int)) (dw_or1 (dt_le (de_room (i := 1) rfl (by first | exact .inl rfl | exact .inr (.inl rfl) | exact .inr (.inr rfl))) (de_int))))) (dss_one (ds_ret (de_c c__law_leaf hr l__law_leaf (by rfl) (da_cons (dv 0) (da_cons (dv 3) (da_nil)))))) (dss_nil)) (
    dss_cons (ds_set (i := 4) S.nd rfl (by first | exact .inl rfl | exact .inr rfl) (de_c0 c__law_shapes hr l__law_shapes (by rfl))) (
    dss_cons (ds_set (i := 5) S.nd rfl (by first | exact .inl rfl | exact .inr rfl) (de_ix (de_listD rfl (by rfl) T.n_list (dv 4)) (de_c c__law_draw hr l__law_draw (by rfl) (da_cons (dv 0) (da_cons (de_lenD (by rfl) T.n_len (dv 4)) (da_nil)))))) (
    dss_cons (ds_if (PW.pt (dw_and (dt_eq hr.units (dv 3) (de_int)) (dw_and1 (dt_in (dv 5) (de_lst (da_cons (de_str) (da_cons (de_str) (da_cons (de_str) (da_nil))))))))) (dss_one (ds_set (i := 5) S.nd rfl (by first | exact .inl rfl | exact .inr rfl) (de_str))) (dss_nil)) (
    dss_cons (ds_set (i := 6) S.nd rfl (by first | exact .inl rfl | exact .inr rfl) (de_max rfl (by rfl) T.n_max (dv 3) (de_intC (by rfl) T.n_int (de_eq hr.units (dv 5) (de_str))))) (
    dss_cons (ds_ownL (i := 7) S.nd rfl (by first | exact .inl rfl | exact .inr rfl) (da_cons (dv 5) (da_nil))) (
    dss_cons (ds_for PassesOwn.never rfl (di_over (de_get (hu_of hr) (dv 4) (dv 5))) (dg_name (i := 8) S.nd rfl (by first | exact .inl rfl | exact .inr rfl)) (dss_one (ds_app (i := 7) rfl (by first | exact .inl rfl | exact .inr (.inl rfl) | exact .inr (.inr rfl)) (de_c c__law_item hr l__law_item (by rfl) (da_cons (dv 0) (da_cons (dv 8) (da_cons (dv 1) (da_cons (de_sub (dv 2) (de_int)) (da_cons (dv 6) (da_nil)))))))))) (
    dss_one (ds_frz 7 (ds_ret (de_ix (de_lst (da_cons (dv 7) (da_cons (de_tupC (by rfl) T.n_tuple (dv 7)) (da_nil)))) (de_min rfl (by rfl) T.n_min (de_c c__law_draw hr l__law_draw (by rfl) (da_cons (dv 0) (da_cons (de_int) (da_nil)))) (de_int)))))))))))))⟩
abbrev s__law_is_name : Stmt := top 50
theorem sc__law_is_name : FnScope N__law_is_name P__law_is_name (defScope s__law_is_name) := ⟨rfl, rfl, rfl, by decide +kernel, rfl, by decide +kernel, by decide +kernel⟩
theorem d__law_is_name (T : Tx mg K w) {t__law_words : DSp} {k__law_words : Nat} (c__law_words : CalD P w K mg base k__law_words "_law_words" (lo0 t__law_words) []) (l__law_words : k__law_words ≤ k) (f : Addr) (cdv : Value) (A : Around) (outer : List Env) (s : Shared) (H : Hp) (E : XK) (hr : Room k (A.deeper (envOfC "_law_is_name" (defScope s__law_is_name) s.heap.objs.size f cdv))) :
    ∃ W : WX, PSs (cxOf CX0 P w K mg base N__law_is_name "_law_is_name" (defScope s__law_is_name) f cdv A outer s H E).nox (defBody s__law_is_name) (lS K W (b__law_is_name t__law_words)) :=
  have S := sc__law_is_name
  ⟨W0, dss_cons (ds_if (PW.pt (dw_or (dt_not (dt_val (de_is (by decide +kernel) (by rfl) T.n_isinstance (by rfl) T.n_str (by decide +kernel) (dv 0)))) (dw_or (dt_lt (de_len (by rfl) T.n_len (dv 0)) (de_int)) (dw_or (dt_gt (de_len (by rfl) T.n_len (dv 0)) (de_int)) (dw_or1 (dt_in (dv 0) (de_c0 c__law_words hr l__law_words (by rfl)))))))) (dss_one (ds_ret (de_bl))) (dss_nil)) (
    dss_one (ds_ret (de_allC rfl (by rfl) T.n_all (de_comp (own := [("letter", 1)]) rfl S.nd (di_over (dv 0)) (blkOk_by (N := N__law_is_name) (sc := defScope s__law_is_name) (own := [("letter", 1)]) (by decide +kernel)) (fun _ _ _ _ _ => dg_name (i := 1) S.nd rfl (by first | exact .inl rfl | exact .inr rfl)) (fun _ _ _ _ _ => dts_nil) (fun _ _ _ _ _ => de_and (de_le (de_int) (de_ordC (by rfl) T.n_ord (dv 1))) (de_one (de_le (de_ordC (by rfl) T.n_ord (dv 1)) (de_int))))))))⟩
abbrev s__law_is_text : Stmt := top 51
theorem sc__law_is_text : FnScope N__law_is_text P__law_is_text (defScope s__law_is_text) := ⟨rfl, rfl, rfl, by decide +kernel, rfl, by decide +kernel, by decide +kernel⟩
theorem d__law_is_text (T : Tx mg K w) (f : Addr) (cdv : Value) (A : Around) (outer : List Env) (s : Shared) (H : Hp) (E : XK) (hr : Room k (A.deeper (envOfC "_law_is_text" (defScope s__law_is_text) s.heap.objs.size f cdv))) :
    ∃ W : WX, PSs (cxOf CX0 P w K mg base N__law_is_text "_law_is_text" (defScope s__law_is_text) f cdv A outer s H E).nox (defBody s__law_is_text) (lS K W (b__law_is_text)) :=
  have S := sc__law_is_text
  ⟨W0, dss_cons (ds_if (PW.pt (dw_or (dt_not (dt_val (de_is (by decide +kernel) (by rfl) T.n_isinstance (by rfl) T.n_str (by decide +kernel) (dv 0)))) (dw_or1 (dt_gt (de_len (by rfl) T.n_len (dv 0)) (de_int))))) (dss_one (ds_ret (de_bl))) (dss_nil)) (
    dss_one (ds_ret (de_allC rfl (by rfl) T.n_all (de_comp (own := [("sign", 1)]) rfl S.nd (di_over (dv 0)) (blkOk_by (N := N__law_is_text) (sc := defScope s__law_is_text) (own := [("sign", 1)]) (by decide +kernel)) (fun _ _ _ _ _ => dg_name (i := 1) S.nd rfl (by first | exact .inl rfl | exact .inr rfl)) (fun _ _ _ _ _ => dts_nil) (fun _ _ _ _ _ => de_and (de_le (de_int) (de_ordC (by rfl) T.n_ord (dv 1))) (de_and (de_le (de_ordC (by rfl) T.n_ord (dv 1)) (de_int)) (de_and (de_ne hr.units (de_ordC (by rfl) T.n_ord (dv 1)) (de_int)) (de_one (de_ne hr.units (de_ordC (by rfl) T.n_ord (dv 1)) (de_int))))))))))⟩
abbrev s__law_is_item : Stmt := top 52
theorem sc__law_is_item : FnScope N2__law_is_item P2__law_is_item (defScope s__law_is_item) := ⟨rfl, rfl, rfl, by decide +kernel, rfl, by decide +kernel, by decide +kernel⟩
theorem d__law_is_item (T : Tx mg K w) {t__law_is : DSp} {k__law_is : Nat} (c__law_is : CalD P w K mg base k__law_is "_law_is" (lo0 t__law_is) []) {t__law_is_name : DSp} {k__law_is_name : Nat} (c__law_is_name : CalD P w K mg base k__law_is_name "_law_is_name" (lo0 t__law_is_name) []) {t__law_is_text : DSp} {k__law_is_text : Nat} (c__law_is_text : CalD P w K mg base k__law_is_text "_law_is_text" (lo0 t__law_is_text) []) (l__law_is : k__law_is ≤ k) (l__law_is_name : k__law_is_name ≤ k) (l__law_is_text : k__law_is_text ≤ k) (f : Addr) (cdv : Value) (A : Around) (outer : List Env) (s : Shared) (H : Hp) (E : XK) (hr : Room k (A.deeper (envOfC "_law_is_item" (defScope s__law_is_item) s.heap.objs.size f cdv))) :
    ∃ W : WX, PSs (cxOf CX0 P w K mg base N2__law_is_item "_law_is_item" (defScope s__law_is_item) f cdv A outer s H E).nox (defBody s__law_is_item) (lS K W (b__law_is_item t__law_is t__law_is_name t__law_is_text)) :=
  have S := sc__law_is_item
  ⟨W0, dss_cons (ds_if (dt_eq hr.units (dv 0) (de_str)) (dss_one (ds_ret (de_c c__law_is hr l__law_is (by rfl) (da_cons (dv 1) (da_cons (dv 2) (da_cons (dv 3) (da_nil))))))) (dss_nil)) (
    dss_cons (ds_if (dt_in (dv 0) (de_str)) (dss_cons (ds_par (i := 6) (j := 7) rfl S.nd rfl rfl (by decide) rfl rfl (da_cons (de_ix (de_lst (da_cons (de_neg (de_int)) (da_cons (de_int) (da_nil)))) (de_intC (by rfl) T.n_int (de_eq hr.units (dv 0) (de_str)))) (da_cons (de_ix (de_lst (da_cons (de_int) (da_cons (de_int) (da_nil)))) (de_intC (by rfl) T.n_int (de_eq hr.units (dv 0) (de_str)))) (da_nil))) rfl) (
    dss_one (ds_ret (de_and (de_is (by decide +kernel) (by rfl) T.n_isinstance (by rfl) T.n_int (by decide +kernel) (dv 1)) (de_and (de_not (de_is (by decide +kernel) (by rfl) T.n_isinstance (by rfl) T.n_bool (by decide +kernel) (dv 1))) (de_and (de_le (dv 6) (dv 1)) (de_one (de_le (dv 1) (dv 7))))))))) (dss_nil)) (
    dss_cons (ds_if (dt_eq hr.units (dv 0) (de_str)) (dss_one (ds_ret (de_c c__law_is_name hr l__law_is_name (by rfl) (da_cons (dv 1) (da_nil))))) (dss_nil)) (
    dss_cons (ds_if (dt_eq hr.units (dv 0) (de_str)) (dss_one (ds_ret (de_c c__law_is_text hr l__law_is_text (by rfl) (da_cons (dv 1) (da_nil))))) (dss_nil)) (
    dss_cons (ds_if (dt_in (dv 0) (de_str)) (dss_cons (ds_set (i := 5) S.nd rfl (by first | exact .inl rfl | exact .inr rfl) (de_get (hu_of hr) (de_dict (dp_cons (de_lst (da_cons (de_str) (da_cons (de_str) (da_cons (de_str) (da_cons (de_str) (da_cons (de_str) (da_cons (de_str) (da_nil)))))))) (dp_cons (de_lst (da_cons (de_str) (da_cons (de_str) (da_cons (de_str) (da_cons (de_str) (da_cons (de_str) (da_cons (de_str) (da_nil)))))))) (dp_nil)))) (dv 0))) (
    dss_one (ds_ret (de_and (de_is (by decide +kernel) (by rfl) T.n_isinstance (by rfl) T.n_str (by decide +kernel) (dv 1)) (de_one (de_in (dv 1) (dv 5))))))) (dss_nil)) (
    dss_cons (ds_if (PW.pt (dw_or (dt_not (dt_val (de_is2 (by decide +kernel) (by decide +kernel) (by rfl) T.n_isinstance (by rfl) T.n_list (by decide +kernel) (by rfl) T.n_tuple (by decide +kernel) (dv 1)))) (dw_or1 (dt_gt (de_len (by rfl) T.n_len (dv 1)) (de_get (hu_of hr) (de_dict (dp_cons (de_int) (dp_cons (de_int) (dp_cons (de_int) (dp_nil))))) (dv 0)))))) (dss_one (ds_ret (de_bl))) (dss_nil)) (
    dss_cons (ds_for PassesOwn.never rfl (di_over (dv 1)) (dg_name (i := 4) S.nd rfl (by first | exact .inl rfl | exact .inr rfl)) (dss_one (ds_if (dt_not (dt_val (de_c c__law_is hr l__law_is (by rfl) (da_cons (dv 4) (da_cons (dv 2) (da_cons (dv 3) (da_nil))))))) (dss_one (ds_ret (de_bl))) (dss_nil)))) (
    dss_one (ds_ret (de_or (de_ne hr.units (dv 0) (de_str)) (de_one (de_gt (de_len (by rfl) T.n_len (dv 1)) (de_int))))))))))))⟩
abbrev s__law_is : Stmt := top 53
theorem sc__law_is : FnScope N2__law_is P2__law_is (defScope s__law_is) := ⟨rfl, rfl, rfl, by decide +kernel, rfl, by decide +kernel, by decide +kernel⟩
theorem d__law_is (T : Tx mg K w) {t__law_shapes : DSp} {k__law_shapes : Nat} (c__law_shapes : CalD P w K mg base k__law_shapes "_law_shapes" (lo0 t__law_shapes) []) {t__law_is_item : DSp} {k__law_is_item : Nat} (c__law_is_item : CalD P w K mg base k__law_is_item "_law_is_item" (lo0 t__law_is_item) []) (l__law_shapes : k__law_shapes ≤ k) (l__law_is_item : k__law_is_item ≤ k) (f : Addr) (cdv : Value) (A : Around) (outer : List Env) (s : Shared) (H : Hp) (E : XK) (hr : Room k (A.deeper (envOfC "_law_is" (defScope s__law_is) s.heap.objs.size f cdv))) :
    ∃ W : WX, PSs (cxOf CX0 P w K mg base N2__law_is "_law_is" (defScope s__law_is) f cdv A outer s H E).nox (defBody s__law_is) (lS K W (b__law_is t__law_shapes t__law_is_item)) :=
  have S := sc__law_is
  ⟨W0, dss_cons (ds_if (PW.pt (dw_or (dt_not (dt_val (de_is2 (by decide +kernel) (by decide +kernel) (by rfl) T.n_isinstance (by rfl) T.n_list (by decide +kernel) (by rfl) T.n_tuple (by decide +kernel) (dv 0)))) (dw_or (dt_eq hr.units (de_len (by rfl) T.n_len (dv 0)) (de_int)) (dw_or1 (dt_lt (dv 1) (de_int)))))) (dss_one (ds_ret (de_bl))) (dss_nil)) (
    dss_cons (ds_set (i := 3) S.nd rfl (by first | exact .inl rfl | exact .inr rfl) (de_c0 c__law_shapes hr l__law_shapes (by rfl))) (
    dss_cons (ds_set (i := 4) S.nd rfl (by first | exact .inl rfl | exact .inr rfl) (de_ix (dv 0) (de_int))) (
    dss_cons (ds_if (PW.pt (dw_or (dt_not (dt_val (de_is (by decide +kernel) (by rfl) T.n_isinstance (by rfl) T.n_str (by decide +kernel) (dv 4)))) (dw_or (dt_notinK (hu_of hr) (dv 4) (dv 3)) (dw_or1 (dt_ne hr.units (de_len (by rfl) T.n_len (dv 0)) (de_add (de_len (by rfl) T.n_len (de_get (hu_of hr) (dv 3) (dv 4))) (de_int))))))) (dss_one (ds_ret (de_bl))) (dss_nil)) (
    dss_cons (ds_if (PW.pt (dw_and (dt_val (dv 2)) (dw_and1 (dt_in (dv 4) (de_lst (da_cons (de_str) (da_cons (de_str) (da_cons (de_str) (da_nil))))))))) (dss_one (ds_ret (de_bl))) (dss_nil)) (
    dss_cons (ds_for PassesOwn.never rfl (di_rng1 (by rfl) T.n_range (de_len (by rfl) T.n_len (de_get (hu_of hr) (dv 3) (dv 4)))) (dg_name (i := 5) S.nd rfl (by first | exact .inl rfl | exact .inr rfl)) (dss_one (ds_if (dt_not (dt_val (de_c c__law_is_item hr l__law_is_item (by rfl) (da_cons (de_ix (de_get (hu_of hr) (dv 3) (dv 4)) (dv 5)) (da_cons (de_ix (dv 0) (de_add (dv 5) (de_int))) (da_cons (de_sub (dv 1) (de_int)) (da_cons (de_or (dv 2) (de_one (de_eq hr.units (dv 4) (de_str)))) (da_nil)))))))) (dss_one (ds_ret (de_bl))) (dss_nil)))) (
    dss_one (ds_ret (de_bl))))))))⟩
abbrev s__law_parts : Stmt := top 54
theorem sc__law_parts : FnScope N__law_parts P__law_parts (defScope s__law_parts) := ⟨rfl, rfl, rfl, by decide +kernel, rfl, by decide +kernel, by decide +kernel⟩
theorem d__law_parts (T : Tx mg K w) {t__law_shapes : DSp} {k__law_shapes : Nat} (c__law_shapes : CalD P w K mg base k__law_shapes "_law_shapes" (lo0 t__law_shapes) []) (l__law_shapes : k__law_shapes ≤ k) (f : Addr) (cdv : Value) (A : Around) (outer : List Env) (s : Shared) (H : Hp) (E : XK) (hr : Room k (A.deeper (envOfC "_law_parts" (defScope s__law_parts) s.heap.objs.size f cdv))) :
    ∃ W : WX, PSs (cxOf CX0 P w K mg base N__law_parts "_law_parts" (defScope s__law_parts) f cdv A outer s H E).nox (defBody s__law_parts) (lS K W (b__law_parts t__law_shapes)) :=
  have S := sc__law_parts
  ⟨W0, dss_cons (ds_ownL (i := 1) S.nd rfl (by first | exact .inl rfl | exact .inr rfl) (da_nil)) (
    dss_cons (ds_set (i := 2) S.nd rfl (by first | exact .inl rfl | exact .inr rfl) (de_get (hu_of hr) (de_c0 c__law_shapes hr l__law_shapes (by rfl)) (de_ix (dv 0) (de_int)))) (
    dss_cons (ds_for PassesOwn.never rfl (di_rng1 (by rfl) T.n_range (de_len (by rfl) T.n_len (dv 2))) (dg_name (i := 3) S.nd rfl (by first | exact .inl rfl | exact .inr rfl)) (dss_one (ds_if (dt_eq hr.units (de_ix (dv 2) (dv 3)) (de_str)) (dss_one (ds_app (i := 1) rfl (by first | exact .inl rfl | exact .inr (.inl rfl) | exact .inr (.inr rfl)) (de_ix (dv 0) (de_add (dv 3) (de_int))))) (dss_one (ds_if (dt_in (de_ix (dv 2) (dv 3)) (de_str)) (dss_one (ds_ext (i := 1) rfl (by first | exact .inl rfl | exact .inr (.inl rfl) | exact .inr (.inr rfl)) (de_ix (dv 0) (de_add (dv 3) (de_int))))) (dss_nil)))))) (
    dss_one (ds_frz 1 (ds_ret (dv 1))))))⟩
abbrev s__law_walk : Stmt := top 55
theorem sc__law_walk : FnScope N__law_walk P__law_walk (defScope s__law_walk) := ⟨rfl, rfl, rfl, by decide +kernel, rfl, by decide +kernel, by decide +kernel⟩
theorem d__law_walk (T : Tx mg K w) {t__law_parts : DSp} {k__law_parts : Nat} (c__law_parts : CalD P w K mg base k__law_parts "_law_parts" (lo0 t__law_parts) []) {t__law_walk : DSp} {k__law_walk : Nat} (c__law_walk : CalD P w K mg base k__law_walk "_law_walk" (lo0 t__law_walk) []) (l__law_parts : k__law_parts ≤ k) (l__law_walk : k__law_walk ≤ k) (f : Addr) (cdv : Value) (A : Around) (outer : List Env) (s : Shared) (H : Hp) (E : XK) (hr : Room k (A.deeper (envOfC "_law_walk" (defScope s__law_walk) s.heap.objs.size f cdv))) :
    ∃ W : WX, PSs (cxOf CX0 P w K mg base N__law_walk "_law_walk" (defScope s__law_walk) f cdv A outer s H E).nox (defBody s__law_walk) (lS K W (b__law_walk t__law_parts t__law_walk)) :=
  have S := sc__law_walk
  ⟨W0, dss_cons (ds_ownL (i := 2) S.nd rfl (by first | exact .inl rfl | exact .inr rfl) (da_cons (de_tup (da_cons (dv 1) (da_cons (dv 0) (da_nil)))) (da_nil))) (
    dss_cons (ds_set (i := 3) S.nd rfl (by first | exact .inl rfl | exact .inr rfl) (de_c c__law_parts hr l__law_parts (by rfl) (da_cons (dv 0) (da_nil)))) (
    dss_cons (ds_for PassesOwn.never rfl (di_rng1 (by rfl) T.n_range (de_len (by rfl) T.n_len (dv 3))) (dg_name (i := 4) S.nd rfl (by first | exact .inl rfl | exact .inr rfl)) (dss_one (ds_ext (i := 2) rfl (by first | exact .inl rfl | exact .inr (.inl rfl) | exact .inr (.inr rfl)) (de_c c__law_walk hr l__law_walk (by rfl) (da_cons (de_ix (dv 3) (dv 4)) (da_cons (de_add (dv 1) (de_tup (da_cons (dv 4) (da_nil)))) (da_nil))))))) (
    dss_one (ds_frz 2 (ds_ret (dv 2))))))⟩
abbrev s__law_with : Stmt := top 56
theorem sc__law_with : FnScope N__law_with P__law_with (defScope s__law_with) := ⟨rfl, rfl, rfl, by decide +kernel, rfl, by decide +kernel, by decide +kernel⟩
theorem d__law_with (T : Tx mg K w) {t__law_shapes : DSp} {k__law_shapes : Nat} (c__law_shapes : CalD P w K mg base k__law_shapes "_law_shapes" (lo0 t__law_shapes) []) {t__law_with : DSp} {k__law_with : Nat} (c__law_with : CalD P w K mg base k__law_with "_law_with" (lo0 t__law_with) []) (l__law_shapes : k__law_shapes ≤ k) (l__law_with : k__law_with ≤ k) (f : Addr) (cdv : Value) (A : Around) (outer : List Env) (s : Shared) (H : Hp) (E : XK) (hr : Room k (A.deeper (envOfC "_law_with" (defScope s__law_with) s.heap.objs.size f cdv))) :
    ∃ W : WX, PSs (cxOf CX0 P w K mg base N__law_with "_law_with" (defScope s__law_with) f cdv A outer s H E).nox (defBody s__law_with) (lS K W (b__law_with t__law_shapes t__law_with)) :=
  have S := sc__law_with
  ⟨W0, dss_cons (ds_if (dt_eq hr.units (de_len (by rfl) T.n_len (dv 1)) (de_int)) (dss_one (ds_ret (dv 2))) (dss_nil)) (
    dss_cons (ds_ownC (i := 3) (by rfl) T.n_list S.nd rfl (by first | exact .inl rfl | exact .inr rfl) (dv 0)) (
    dss_cons (ds_set (i := 4) S.nd rfl (by first | exact .inl rfl | exact .inr rfl) (de_get (hu_of hr) (de_c0 c__law_shapes hr l__law_shapes (by rfl)) (de_ix (dv 0) (de_int)))) (
    dss_cons (ds_set (i := 5) S.nd rfl (by first | exact .inl rfl | exact .inr rfl) (de_ix (dv 1) (de_int))) (
    dss_cons (ds_for PassesOwn.never rfl (di_rng1 (by rfl) T.n_range (de_len (by rfl) T.n_len (dv 4))) (dg_name (i := 6) S.nd rfl (by first | exact .inl rfl | exact .inr rfl)) (dss_cons (ds_ownL (i := 7) S.nd rfl (by first | exact .inl rfl | exact .inr rfl) (da_nil)) (
    dss_cons (ds_if (dt_eq hr.units (de_ix (dv 4) (dv 6)) (de_str)) (dss_one (ds_ownL (i := 7) S.nd rfl (by first | exact .inl rfl | exact .inr rfl) (da_cons (de_ix (dv 0) (de_add (dv 6) (de_int))) (da_nil)))) (dss_one (ds_if (dt_in (de_ix (dv 4) (dv 6)) (de_str)) (dss_one (ds_ownC (i := 7) (by rfl) T.n_list S.nd rfl (by first | exact .inl rfl | exact .inr rfl) (de_ix (dv 0) (de_add (dv 6) (de_int))))) (dss_nil)))) (
    dss_cons (ds_if (PW.pt (dw_and (dt_le (de_int) (dv 5)) (dw_and1 (dt_lt (dv 5) (de_len (by rfl) T.n_len (dv 7)))))) (dss_cons (ds_put (i := 7) rfl (by first | exact .inl rfl | exact .inr (.inl rfl) | exact .inr (.inr rfl)) (dv 5) (de_c c__law_with hr l__law_with (by rfl) (da_cons (de_ix (dv 7) (dv 5)) (da_cons (de_sl (dv 1) (do_some (de_int)) (do_none)) (da_cons (dv 2) (da_nil)))))) (
    dss_one (ds_put (i := 3) rfl (by first | exact .inl rfl | exact .inr (.inl rfl) | exact .inr (.inr rfl)) (de_add (dv 6) (de_int)) (de_ix (de_lst (da_cons (de_tupC (by rfl) T.n_tuple (dv 7)) (da_cons (de_ix (dv 7) (de_int)) (da_nil)))) (de_intC (by rfl) T.n_int (de_eq hr.units (de_ix (dv 4) (dv 6)) (de_str))))))) (dss_nil)) (
    dss_one (ds_set (i := 5) S.nd rfl (by first | exact .inl rfl | exact .inr rfl) (de_sub (dv 5) (de_len (by rfl) T.n_len (dv 7))))))))) (
    dss_one (ds_frz 3 (ds_ret (de_tupC (by rfl) T.n_tuple (dv 3)))))))))⟩
abbrev s__law_odd : Stmt := top 57
theorem sc__law_odd : FnScope N__law_odd P__law_odd (defScope s__law_odd) := ⟨rfl, rfl, rfl, by decide +kernel, rfl, by decide +kernel, by decide +kernel⟩
theorem d__law_odd (T : Tx mg K w) {t__law_draw : DSp} {k__law_draw : Nat} (c__law_draw : CalD P w K mg base k__law_draw "_law_draw" (lo0 t__law_draw) []) {t__law_letters : DSp} {k__law_letters : Nat} (c__law_letters : CalD P w K mg base k__law_letters "_law_letters" (lo0 t__law_letters) []) {t__law_words : DSp} {k__law_words : Nat} (c__law_words : CalD P w K mg base k__law_words "_law_words" (lo0 t__law_words) []) (l__law_draw : k__law_draw ≤ k) (l__law_letters : k__law_letters ≤ k) (l__law_words : k__law_words ≤ k) (f : Addr) (cdv : Value) (A : Around) (outer : List Env) (s : Shared) (H : Hp) (E : XK) (hr : Room k (A.deeper (envOfC "_law_odd" (defScope s__law_odd) s.heap.objs.size f cdv))) :
    ∃ W : WX, PSs (cxOf CX0 P w K mg base N__law_odd "_law_odd" (defScope s__law_odd) f cdv A outer s H E).nox (defBody s__law_odd) (lS K W (b__law_odd t__law_draw t__law_letters t__law_words)) :=
  have S := sc__law_odd
  ⟨W0, dss_cons (ds_set (i := 1) S.nd rfl (by first | exact .inl rfl | exact .inr rfl) (de_c c__law_draw hr l__law_draw (by rfl) (da_cons (dv 0) (da_cons (de_int) (da_nil))))) (
    dss_cons (ds_set (i := 2) S.nd rfl (by first | exact .inl rfl | exact .inr rfl) (de_c c__law_draw hr l__law_draw (by rfl) (da_cons (dv 0) (da_cons (de_int) (da_nil))))) (
    dss_cons (ds_set (i := 3) S.nd rfl (by first | exact .inl rfl | exact .inr rfl) (de_tup (da_cons (de_str) (da_nil)))) (
    dss_cons (ds_if (dt_eq hr.units (dv 1) (de_int)) (dss_cons (ds_set (i := 4) S.nd rfl (by first | exact .inl rfl | exact .inr rfl) (de_lst (da_cons (de_tup (da_cons (de_str) (da_cons (de_sub (de_c c__law_draw hr l__law_draw (by rfl) (da_cons (dv 0) (da_cons (de_int) (da_nil)))) (de_int)) (da_nil)))) (da_cons (de_tup (da_cons (de_str) (da_cons (de_c c__law_letters hr l__law_letters (by rfl) (da_cons (dv 0) (da_cons (de_fdiv (dv 2) (de_int)) (da_nil)))) (da_nil)))) (da_cons (de_tup (da_cons (de_str) (da_cons (de_sub (dv 2) (de_int)) (da_cons (dv 3) (da_nil))))) (da_nil)))))) (
    dss_cons (ds_set (i := 4) S.nd rfl (by first | exact .inl rfl | exact .inr rfl) (de_add (dv 4) (de_lst (da_cons (de_tup (da_cons (de_str) (da_cons (de_ix (de_c0 c__law_words hr l__law_words (by rfl)) (de_c c__law_draw hr l__law_draw (by rfl) (da_cons (dv 0) (da_cons (de_int) (da_nil))))) (da_nil)))) (da_cons (de_tup (da_cons (de_str) (da_cons (de_mul (de_str) (de_fdiv (dv 2) (de_int))) (da_nil)))) (da_cons (de_tup (da_cons (de_str) (da_cons (de_str) (da_nil)))) (da_nil))))))) (
    dss_one (ds_set (i := 4) S.nd rfl (by first | exact .inl rfl | exact .inr rfl) (de_add (dv 4) (de_lst (da_cons (de_tup (da_cons (de_str) (da_cons (de_str) (da_nil)))) (da_cons (de_tup (da_cons (de_str) (da_cons (de_str) (da_nil)))) (da_cons (de_tup (da_cons (de_str) (da_cons (de_str) (da_nil)))) (da_cons (de_tup (da_cons (de_str) (da_cons (de_int) (da_nil)))) (da_cons (de_tup (da_cons (de_str) (da_cons (de_neg (de_int)) (da_nil)))) (da_cons (de_tup (da_cons (de_str) (da_cons (de_int) (da_cons (de_lst (da_cons (dv 3) (da_nil))) (da_nil))))) (da_nil))))))))))))) (dss_one (ds_if (dt_eq hr.units (dv 1) (de_int)) (dss_cons (ds_set (i := 4) S.nd rfl (by first | exact .inl rfl | exact .inr rfl) (de_lst (da_cons (de_non) (da_cons (de_bl) (da_cons (de_int) (da_cons (de_str) (da_cons (de_tup (da_nil)) (da_cons (de_dnew) (da_cons (de_dict (dp_consI (dv 3) (dp_nil))) (da_cons (de_tup (da_cons (de_str) (da_cons (dv 3) (da_cons (dv 3) (da_nil))))) (da_cons (de_tup (da_cons (de_str) (da_cons (dv 3) (da_nil)))) (da_cons (de_tup (da_cons (de_str) (da_nil))) (da_nil))))))))))))) (
    dss_one (ds_set (i := 4) S.nd rfl (by first | exact .inl rfl | exact .inr rfl) (de_add (dv 4) (de_lst (da_cons (de_tup (da_cons (dv 3) (da_nil))) (da_cons (de_tup (da_cons (de_lst (da_nil)) (da_nil))) (da_cons (de_tup (da_cons (de_non) (da_cons (dv 3) (da_nil)))) (da_cons (de_tup (da_cons (de_str) (da_cons (de_bl) (da_nil)))) (da_cons (de_tup (da_cons (de_str) (da_cons (de_str) (da_nil)))) (da_cons (de_tup (da_cons (de_str) (da_cons (de_non) (da_nil)))) (da_cons (de_tup (da_cons (de_str) (da_nil))) (da_nil))))))))))))) (dss_one (ds_if (dt_eq hr.units (dv 1) (de_int)) (dss_cons (ds_set (i := 4) S.nd rfl (by first | exact .inl rfl | exact .inr rfl) (de_lst (da_cons (de_tup (da_cons (de_str) (da_cons (de_int) (da_nil)))) (da_cons (de_tup (da_cons (de_str) (da_cons (de_non) (da_nil)))) (da_cons (de_tup (da_cons (de_str) (da_cons (de_str) (da_nil)))) (da_cons (de_tup (da_cons (de_str) (da_cons (de_str) (da_nil)))) (da_cons (de_tup (da_cons (de_str) (da_cons (de_str) (da_nil)))) (da_cons (de_tup (da_cons (de_str) (da_cons (de_int) (da_nil)))) (da_cons (de_tup (da_cons (de_str) (da_cons (de_str) (da_nil)))) (da_nil)))))))))) (
    dss_cons (ds_set (i := 4) S.nd rfl (by first | exact .inl rfl | exact .inr rfl) (de_add (dv 4) (de_lst (da_cons (de_tup (da_cons (de_str) (da_cons (de_bl) (da_cons (dv 3) (da_nil))))) (da_cons (de_tup (da_cons (de_str) (da_cons (dv 3) (da_nil)))) (da_cons (de_tup (da_cons (de_str) (da_cons (de_str) (da_cons (dv 3) (da_nil))))) (da_cons (de_tup (da_cons (de_str) (da_cons (dv 3) (da_cons (de_int) (da_nil))))) (da_cons (de_tup (da_cons (de_str) (da_nil))) (da_nil))))))))) (
    dss_cons (ds_set (i := 4) S.nd rfl (by first | exact .inl rfl | exact .inr rfl) (de_add (dv 4) (de_lst (da_cons (de_tup (da_cons (de_str) (da_cons (de_mul (de_lst (da_cons (dv 3) (da_nil))) (de_int)) (da_nil)))) (da_cons (de_lst (da_cons (de_str) (da_cons (de_mul (de_lst (da_cons (dv 3) (da_nil))) (de_int)) (da_nil)))) (da_cons (de_tup (da_cons (de_str) (da_cons (de_tup (da_nil)) (da_nil)))) (da_cons (de_tup (da_cons (de_str) (da_cons (de_mul (de_lst (da_cons (dv 3) (da_nil))) (de_int)) (da_nil)))) (da_cons (de_tup (da_cons (de_str) (da_cons (de_mul (de_lst (da_cons (dv 3) (da_nil))) (de_int)) (da_nil)))) (da_nil))))))))) (
    dss_one (ds_set (i := 4) S.nd rfl (by first | exact .inl rfl | exact .inr rfl) (de_add (dv 4) (de_lst (da_cons (de_tup (da_cons (de_str) (da_cons (dv 3) (da_cons (de_tup (da_nil)) (da_nil))))) (da_cons (de_tup (da_cons (de_str) (da_cons (dv 3) (da_cons (de_mul (de_lst (da_cons (dv 3) (da_nil))) (de_int)) (da_nil))))) (da_cons (de_tup (da_cons (de_str) (da_cons (dv 3) (da_cons (de_mul (de_lst (da_cons (dv 3) (da_nil))) (de_int)) (da_nil))))) (da_cons (de_lst (da_cons (de_str) (da_cons (dv 3) (da_nil)))) (da_nil)))))))))))) (dss_cons (ds_set (i := 4) S.nd rfl (by first | exact .inl rfl | exact .inr rfl) (de_lst (da_cons (de_tup (da_cons (de_str) (da_cons (de_non) (da_nil)))) (da_cons (de_tup (da_cons (de_str) (da_cons (dv 3) (da_nil)))) (da_cons (de_tup (da_cons (de_str) (da_cons (dv 3) (da_nil)))) (da_cons (de_tup (da_cons (de_str) (da_cons (dv 3) (da_nil)))) (da_cons (de_tup (da_cons (de_str) (da_cons (de_lst (da_cons (dv 3) (da_nil))) (da_cons (dv 3) (da_nil))))) (da_cons (de_tup (da_cons (de_str) (da_cons (dv 3) (da_cons (dv 3) (da_nil))))) (da_nil))))))))) (
    dss_cons (ds_set (i := 4) S.nd rfl (by first | exact .inl rfl | exact .inr rfl) (de_add (dv 4) (de_lst (da_cons (de_tup (da_cons (de_str) (da_cons (de_str) (da_cons (dv 3) (da_cons (dv 3) (da_nil)))))) (da_cons (de_tup (da_cons (de_str) (da_cons (de_str) (da_cons (dv 3) (da_cons (dv 3) (da_nil)))))) (da_cons (de_tup (da_cons (de_str) (da_cons (de_str) (da_cons (dv 3) (da_cons (dv 3) (da_nil)))))) (da_cons (de_tup (da_cons (de_str) (da_cons (dv 3) (da_nil)))) (da_nil)))))))) (
    dss_cons (ds_set (i := 4) S.nd rfl (by first | exact .inl rfl | exact .inr rfl) (de_add (dv 4) (de_lst (da_cons (de_tup (da_cons (de_str) (da_cons (de_int) (da_cons (dv 3) (da_cons (dv 3) (da_nil)))))) (da_cons (de_tup (da_cons (de_str) (da_cons (de_str) (da_cons (dv 3) (da_nil))))) (da_cons (de_tup (da_cons (de_str) (da_cons (dv 3) (da_cons (dv 3) (da_nil))))) (da_cons (de_tup (da_cons (de_str) (da_cons (de_str) (da_cons (dv 3) (da_nil))))) (da_cons (de_tup (da_cons (de_str) (da_nil))) (da_nil))))))))) (
    dss_one (ds_set (i := 4) S.nd rfl (by first | exact .inl rfl | exact .inr rfl) (de_add (dv 4) (de_lst (da_cons (de_tup (da_cons (de_str) (da_cons (dv 3) (da_nil)))) (da_cons (de_tup (da_cons (de_str) (da_cons (dv 3) (da_nil)))) (da_cons (de_tup (da_cons (de_str) (da_cons (de_tup (da_cons (de_str) (da_nil))) (da_nil)))) (da_cons (de_tup (da_cons (de_str) (da_cons (de_tup (da_cons (de_str) (da_cons (dv 3) (da_nil)))) (da_nil)))) (da_cons (de_lst (da_cons (de_str) (da_cons (de_lst (da_nil)) (da_nil)))) (da_nil)))))))))))))))))) (
    dss_one (ds_ret (de_ix (dv 4) (de_mod (de_intC (by rfl) T.n_int (dv 2)) (de_len (by rfl) T.n_len (dv 4)))))))))⟩
abbrev s_kept : Stmt := top 2
theorem sc_kept : FnScope N_kept P_kept (defScope s_kept) := ⟨rfl, rfl, rfl, by decide +kernel, rfl, by decide +kernel, by decide +kernel⟩
theorem d_kept (T : Tx2 mg K w) {t_kept_2 : DSp} {k_kept_2 : Nat} (c_kept_2 : CalD P w K mg base k_kept_2 "kept" (lo0 t_kept_2) []) (l_kept_2 : k_kept_2 ≤ k) (f : Addr) (cdv : Value) (A : Around) (outer : List Env) (s : Shared) (H : Hp) (E : XK) (hr : Room k (A.deeper (envOfC "kept" (defScope s_kept) s.heap.objs.size f cdv))) :
    ∃ W : WX, PSs (cxOf CX0 P w K mg base N_kept "kept" (defScope s_kept) f cdv A outer s H E).nox (defBody s_kept) (lS K W (b_kept t_kept_2)) :=
  have S := sc_kept
  ⟨W0, dss_cons (ds_if (dt_eq hr.units (dv 1) (de_int)) (dss_one (ds_ret (dv 0))) (dss_nil)) (
    dss_cons (ds_if (dt_val (de_is (by decide +kernel) (by rfl) T.n_isinstance (by rfl) T.n_list (by decide +kernel) (dv 0))) (dss_one (ds_ret (de_comp (own := [("item", 2)]) rfl S.nd (di_over (dv 0)) (blkOk_by (N := N_kept) (sc := defScope s_kept) (own := [("item", 2)]) (by decide +kernel)) (fun _ _ _ _ _ => dg_name (i := 2) S.nd rfl (by first | exact .inl rfl | exact .inr rfl)) (fun _ _ _ _ _ => dts_nil) (fun _ _ _ _ _ => de_c c_kept_2 hr l_kept_2 (by rfl) (da_cons (dv 2) (da_cons (de_sub (dv 1) (de_int)) (da_nil))))))) (dss_nil)) (
    dss_cons (ds_if (dt_val (de_is (by decide +kernel) (by rfl) T.n_isinstance (by rfl) T.n_tuple (by decide +kernel) (dv 0))) (dss_one (ds_ret (de_tupC (by rfl) T.n_tuple (de_comp (own := [("item", 2)]) rfl S.nd (di_over (dv 0)) (blkOk_by (N := N_kept) (sc := defScope s_kept) (own := [("item", 2)]) (by decide +kernel)) (fun _ _ _ _ _ => dg_name (i := 2) S.nd rfl (by first | exact .inl rfl | exact .inr rfl)) (fun _ _ _ _ _ => dts_nil) (fun _ _ _ _ _ => de_c c_kept_2 hr l_kept_2 (by rfl) (da_cons (dv 2) (da_cons (de_sub (dv 1) (de_int)) (da_nil)))))))) (dss_nil)) (
    dss_cons (ds_if (dt_val (de_is (by decide +kernel) (by rfl) T.n_isinstance (by rfl) T.n_dict (by decide +kernel) (dv 0))) (dss_one (ds_ret (de_dc0 (i := 0) (own := [("key", 3)]) rfl S.nd rfl (by first | exact .inl rfl | exact .inr (.inl rfl) | exact .inr (.inr rfl)) (blkOk_by (N := N_kept) (sc := defScope s_kept) (own := [("key", 3)]) (by decide +kernel)) (fun _ _ _ _ _ => dg_name (i := 3) S.nd rfl (by first | exact .inl rfl | exact .inr rfl)) (fun _ _ _ _ _ => dv 3) (fun _ _ _ _ _ => de_c c_kept_2 hr l_kept_2 (by rfl) (da_cons (de_ix (dv 0) (dv 3)) (da_cons (de_sub (dv 1) (de_int)) (da_nil))))))) (dss_nil)) (
    dss_one (ds_ret (dv 0))))))⟩
abbrev s_frozen : Stmt := top 28
theorem sc_frozen : FnScope N_frozen P_frozen (defScope s_frozen) := ⟨rfl, rfl, rfl, by decide +kernel, rfl, by decide +kernel, by decide +kernel⟩
theorem d_frozen (T : Tx mg K w) {t_is_row : DSp} {k_is_row : Nat} (c_is_row : CalD P w K mg base k_is_row "is_row" (lo0 t_is_row) []) {t_frozen : DSp} {k_frozen : Nat} (c_frozen : CalD P w K mg base k_frozen "frozen" (lo0 t_frozen) []) (l_is_row : k_is_row ≤ k) (l_frozen : k_frozen ≤ k) (f : Addr) (cdv : Value) (A : Around) (outer : List Env) (s : Shared) (H : Hp) (E : XK) (hr : Room k (A.deeper (envOfC "frozen" (defScope s_frozen) s.heap.objs.size f cdv))) :
    ∃ W : WX, PSs (cxOf CX0 P w K mg base N_frozen "frozen" (defScope s_frozen) f cdv A outer s H E).nox (defBody s_frozen) (lS K W (b_frozen t_is_row t_frozen)) :=
  have S := sc_frozen
  ⟨W0, dss_cons (ds_if (dt_val (de_c c_is_row hr l_is_row (by rfl) (da_cons (dv 0) (da_nil)))) (dss_one (ds_ret (de_tupC (by rfl) T.n_tuple (de_comp (own := [("item", 1)]) rfl S.nd (di_over (dv 0)) (blkOk_by (N := N_frozen) (sc := defScope s_frozen) (own := [("item", 1)]) (by decide +kernel)) (fun _ _ _ _ _ => dg_name (i := 1) S.nd rfl (by first | exact .inl rfl | exact .inr rfl)) (fun _ _ _ _ _ => dts_nil) (fun _ _ _ _ _ => de_c c_frozen hr l_frozen (by rfl) (da_cons (dv 1) (da_nil))))))) (dss_nil)) (
    dss_one (ds_ret (dv 0)))⟩
abbrev s_parts_of : Stmt := top 29
theorem sc_parts_of : FnScope N_parts_of P_parts_of (defScope s_parts_of) := ⟨rfl, rfl, rfl, by decide +kernel, rfl, by decide +kernel, by decide +kernel⟩
theorem d_parts_of (T : Tx mg K w) (f : Addr) (cdv : Value) (A : Around) (outer : List Env) (s : Shared) (H : Hp) (E : XK) (hr : Room k (A.deeper (envOfC "parts_of" (defScope s_parts_of) s.heap.objs.size f cdv))) :
    ∃ W : WX, PSs (cxOf CX0 P w K mg base N_parts_of "parts_of" (defScope s_parts_of) f cdv A outer s H E).nox (defBody s_parts_of) (lS K W (b_parts_of)) :=
  have S := sc_parts_of
  ⟨W0, dss_cons (ds_ownL (i := 1) S.nd rfl (by first | exact .inl rfl | exact .inr rfl) (da_nil)) (
    dss_cons (ds_for PassesOwn.never rfl (di_zip (by rfl) T.n_zip (de_kget T.t_SHAPES (by rfl) (de_ix (dv 0) (de_int))) (de_sl (dv 0) (do_some (de_int)) (do_none))) (dg_tup rfl (dgs_cons (dg_name (i := 2) S.nd rfl (by first | exact .inl rfl | exact .inr rfl)) (dgs_cons (dg_name (i := 3) S.nd rfl (by first | exact .inl rfl | exact .inr rfl)) (dgs_nil)))) (dss_one (ds_if (dt_eq hr.units (dv 2) (de_str)) (dss_one (ds_app (i := 1) rfl (by first | exact .inl rfl | exact .inr (.inl rfl) | exact .inr (.inr rfl)) (dv 3))) (dss_one (ds_if (dt_kin T.t_ROW_SIZES (by rfl) (dv 2)) (dss_one (ds_ext (i := 1) rfl (by first | exact .inl rfl | exact .inr (.inl rfl) | exact .inr (.inr rfl)) (dv 3))) (dss_nil)))))) (
    dss_one (ds_frz 1 (ds_ret (dv 1)))))⟩
abbrev s_with_parts : Stmt := top 30
theorem sc_with_parts : FnScope N_with_parts P_with_parts (defScope s_with_parts) := ⟨rfl, rfl, rfl, by decide +kernel, rfl, by decide +kernel, by decide +kernel⟩
theorem d_with_parts (T : Tx mg K w) (f : Addr) (cdv : Value) (A : Around) (outer : List Env) (s : Shared) (H : Hp) (E : XK) (hr : Room k (A.deeper (envOfC "with_parts" (defScope s_with_parts) s.heap.objs.size f cdv))) :
    ∃ W : WX, PSs (cxOf CX0 P w K mg base N_with_parts "with_parts" (defScope s_with_parts) f cdv A outer s H E).nox (defBody s_with_parts) (lS K W (b_with_parts)) :=
  have S := sc_with_parts
  ⟨W0, dss_cons (ds_ownL (i := 2) S.nd rfl (by first | exact .inl rfl | exact .inr rfl) (da_cons (de_ix (dv 0) (de_int)) (da_nil))) (
    dss_cons (ds_set (i := 3) S.nd rfl (by first | exact .inl rfl | exact .inr rfl) (de_int)) (
    dss_cons (ds_for PassesOwn.never rfl (di_zip (by rfl) T.n_zip (de_kget T.t_SHAPES (by rfl) (de_ix (dv 0) (de_int))) (de_sl (dv 0) (do_some (de_int)) (do_none))) (dg_tup rfl (dgs_cons (dg_name (i := 4) S.nd rfl (by first | exact .inl rfl | exact .inr rfl)) (dgs_cons (dg_name (i := 5) S.nd rfl (by first | exact .inl rfl | exact .inr rfl)) (dgs_nil)))) (dss_one (ds_if (dt_eq hr.units (dv 4) (de_str)) (dss_cons (ds_app (i := 2) rfl (by first | exact .inl rfl | exact .inr (.inl rfl) | exact .inr (.inr rfl)) (de_ix (dv 1) (dv 3))) (
    dss_one (ds_augAdd (i := 3) S.nd rfl (by first | exact .inl rfl | exact .inr rfl) (de_int)))) (dss_one (ds_if (dt_kin T.t_ROW_SIZES (by rfl) (dv 4)) (dss_cons (ds_app (i := 2) rfl (by first | exact .inl rfl | exact .inr (.inl rfl) | exact .inr (.inr rfl)) (de_tupC (by rfl) T.n_tuple (de_sl (dv 1) (do_some (dv 3)) (do_some (de_add (dv 3) (de_len (by rfl) T.n_len (dv 5))))))) (
    dss_one (ds_augAdd (i := 3) S.nd rfl (by first | exact .inl rfl | exact .inr rfl) (de_len (by rfl) T.n_len (dv 5))))) (dss_one (ds_app (i := 2) rfl (by first | exact .inl rfl | exact .inr (.inl rfl) | exact .inr (.inr rfl)) (dv 5)))))))) (
    dss_one (ds_frz 2 (ds_ret (de_tupC (by rfl) T.n_tuple (dv 2)))))))⟩
abbrev s__law_frozen : Stmt := top 48
theorem sc__law_frozen : FnScope N__law_frozen P__law_frozen (defScope s__law_frozen) := ⟨rfl, rfl, rfl, by decide +kernel, rfl, by decide +kernel, by decide +kernel⟩
theorem d__law_frozen (T : Tx mg K w) {t__law_frozen : DSp} {k__law_frozen : Nat} (c__law_frozen : CalD P w K mg base k__law_frozen "_law_frozen" (lo0 t__law_frozen) []) (l__law_frozen : k__law_frozen ≤ k) (f : Addr) (cdv : Value) (A : Around) (outer : List Env) (s : Shared) (H : Hp) (E : XK) (hr : Room k (A.deeper (envOfC "_law_frozen" (defScope s__law_frozen) s.heap.objs.size f cdv))) :
    ∃ W : WX, PSs (cxOf CX0 P w K mg base N__law_frozen "_law_frozen" (defScope s__law_frozen) f cdv A outer s H E).nox (defBody s__law_frozen) (lS K W (b__law_frozen t__law_frozen)) :=
  have S := sc__law_frozen
  ⟨W0, dss_cons (ds_if (dt_val (de_is2 (by decide +kernel) (by decide +kernel) (by rfl) T.n_isinstance (by rfl) T.n_list (by decide +kernel) (by rfl) T.n_tuple (by decide +kernel) (dv 0))) (dss_one (ds_ret (de_tupC (by rfl) T.n_tuple (de_comp (own := [("item", 1)]) rfl S.nd (di_over (dv 0)) (blkOk_by (N := N__law_frozen) (sc := defScope s__law_frozen) (own := [("item", 1)]) (by decide +kernel)) (fun _ _ _ _ _ => dg_name (i := 1) S.nd rfl (by first | exact .inl rfl | exact .inr rfl)) (fun _ _ _ _ _ => dts_nil) (fun _ _ _ _ _ => de_c c__law_frozen hr l__law_frozen (by rfl) (da_cons (dv 1) (da_nil))))))) (dss_nil)) (
    dss_one (ds_ret (dv 0)))⟩
abbrev s__law_same : Stmt := top 49
theorem sc__law_same : FnScope N__law_same P__law_same (defScope s__law_same) := ⟨rfl, rfl, rfl, by decide +kernel, rfl, by decide +kernel, by decide +kernel⟩
theorem d__law_same (T : Tx mg K w) {t__law_same : DSp} {k__law_same : Nat} (c__law_same : CalD P w K mg base k__law_same "_law_same" (lo0 t__law_same) []) (l__law_same : k__law_same ≤ k) (f : Addr) (cdv : Value) (A : Around) (outer : List Env) (s : Shared) (H : Hp) (E : XK) (hr : Room k (A.deeper (envOfC "_law_same" (defScope s__law_same) s.heap.objs.size f cdv))) :
    ∃ W : WX, PSs (cxOf CX0 P w K mg base N__law_same "_law_same" (defScope s__law_same) f cdv A outer s H E).nox (defBody s__law_same) (lS K W (b__law_same t__law_same)) :=
  have S := sc__law_same
  ⟨W0, dss_cons (ds_if (dt_val (de_is (by decide +kernel) (by rfl) T.n_isinstance (by rfl) T.n_tuple (by decide +kernel) (dv 1))) (dss_cons (ds_if (PW.pt (dw_or (dt_not (dt_val (de_is (by decide +kernel) (by rfl) T.n_isinstance (by rfl) T.n_tuple (by decide +kernel) (dv 0)))) (dw_or1 (dt_ne hr.units (de_len (by rfl) T.n_len (dv 0)) (de_len (by rfl) T.n_len (dv 1)))))) (dss_one (ds_ret (de_bl))) (dss_nil)) (
    dss_cons (ds_for PassesOwn.never rfl (di_rng1 (by rfl) T.n_range (de_len (by rfl) T.n_len (dv 1))) (dg_name (i := 2) S.nd rfl (by first | exact .inl rfl | exact .inr rfl)) (dss_one (ds_if (dt_not (dt_val (de_c c__law_same hr l__law_same (by rfl) (da_cons (de_ix (dv 0) (dv 2)) (da_cons (de_ix (dv 1) (dv 2)) (da_nil)))))) (dss_one (ds_ret (de_bl))) (dss_nil)))) (
    dss_one (ds_ret (de_bl))))) (dss_nil)) (
    dss_cons (ds_if (dt_val (de_is (by decide +kernel) (by rfl) T.n_isinstance (by rfl) T.n_str (by decide +kernel) (dv 1))) (dss_one (ds_ret (de_and (de_is (by decide +kernel) (by rfl) T.n_isinstance (by rfl) T.n_str (by decide +kernel) (dv 0)) (de_one (de_eq hr.units (dv 0) (dv 1)))))) (dss_nil)) (
    dss_one (ds_ret (de_and (de_is (by decide +kernel) (by rfl) T.n_isinstance (by rfl) T.n_int (by decide +kernel) (dv 0)) (de_and (de_not (de_is (by decide +kernel) (by rfl) T.n_isinstance (by rfl) T.n_bool (by decide +kernel) (dv 0))) (de_one (de_eq hr.units (dv 0) (dv 1))))))))⟩
abbrev s__law_reach : Stmt := top 58
theorem sc__law_reach : FnScope N__law_reach P__law_reach (defScope s__law_reach) := ⟨rfl, rfl, rfl, by decide +kernel, rfl, by decide +kernel, by decide +kernel⟩
theorem d__law_reach (T : Tx mg K w) {t__law_parts : DSp} {k__law_parts : Nat} (c__law_parts : CalD P w K mg base k__law_parts "_law_parts" (lo0 t__law_parts) []) (l__law_parts : k__law_parts ≤ k) (f : Addr) (cdv : Value) (A : Around) (outer : List Env) (s : Shared) (H : Hp) (E : XK) (hr : Room k (A.deeper (envOfC "_law_reach" (defScope s__law_reach) s.heap.objs.size f cdv))) :
    ∃ W : WX, PSs (cxOf CX0 P w K mg base N__law_reach "_law_reach" (defScope s__law_reach) f cdv A outer s H E).nox (defBody s__law_reach) (lS K W (b__law_reach t__law_parts)) :=
  have S := sc__law_reach
  ⟨W0, dss_cons (ds_if (dt_not (dt_val (de_is2 (by decide +kernel) (by decide +kernel) (by rfl) T.n_isinstance (by rfl) T.n_list (by decide +kernel) (by rfl) T.n_tuple (by decide +kernel) (dv 1)))) (dss_one (ds_ret (de_non))) (dss_nil)) (
    dss_cons (ds_for PassesOwn.never rfl (di_over (dv 1)) (dg_name (i := 2) S.nd rfl (by first | exact .inl rfl | exact .inr rfl)) (dss_cons (ds_set (i := 3) S.nd rfl (by first | exact .inl rfl | exact .inr rfl) (de_c c__law_parts hr l__law_parts (by rfl) (da_cons (dv 0) (da_nil)))) (
    dss_cons (ds_if (PW.pt (dw_or (dt_not (dt_val (de_is (by decide +kernel) (by rfl) T.n_isinstance (by rfl) T.n_int (by decide +kernel) (dv 2)))) (dw_or (dt_val (de_is (by decide +kernel) (by rfl) T.n_isinstance (by rfl) T.n_bool (by decide +kernel) (dv 2))) (dw_or (dt_lt (dv 2) (de_int)) (dw_or1 (dt_ge (dv 2) (de_len (by rfl) T.n_len (dv 3)))))))) (dss_one (ds_ret (de_non))) (dss_nil)) (
    dss_one (ds_set (i := 0) S.nd rfl (by first | exact .inl rfl | exact .inr rfl) (de_ix (dv 3) (dv 2))))))) (
    dss_one (ds_ret (dv 0))))⟩
abbrev s__law_way : Stmt := top 59
theorem sc__law_way : FnScope N__law_way P__law_way (defScope s__law_way) := ⟨rfl, rfl, rfl, by decide +kernel, rfl, by decide +kernel, by decide +kernel⟩
theorem d__law_way (T : Tx mg K w) {t__law_draw : DSp} {k__law_draw : Nat} (c__law_draw : CalD P w K mg base k__law_draw "_law_draw" (lo0 t__law_draw) []) (l__law_draw : k__law_draw ≤ k) (f : Addr) (cdv : Value) (A : Around) (outer : List Env) (s : Shared) (H : Hp) (E : XK) (hr : Room k (A.deeper (envOfC "_law_way" (defScope s__law_way) s.heap.objs.size f cdv))) :
    ∃ W : WX, PSs (cxOf CX0 P w K mg base N__law_way "_law_way" (defScope s__law_way) f cdv A outer s H E).nox (defBody s__law_way) (lS K W (b__law_way t__law_draw)) :=
  have S := sc__law_way
  ⟨W0, dss_cons (ds_set (i := 2) S.nd rfl (by first | exact .inl rfl | exact .inr rfl) (de_c c__law_draw hr l__law_draw (by rfl) (da_cons (dv 0) (da_cons (de_int) (da_nil))))) (
    dss_cons (ds_set (i := 3) S.nd rfl (by first | exact .inl rfl | exact .inr rfl) (de_ix (de_lst (da_cons (de_neg (de_int)) (da_cons (de_bl) (da_cons (de_bl) (da_cons (de_non) (da_cons (de_str) (da_cons (de_int) (da_cons (de_pow (de_int) (de_int)) (da_cons (de_tup (da_cons (de_int) (da_nil))) (da_cons (de_int) (da_nil))))))))))) (de_c c__law_draw hr l__law_draw (by rfl) (da_cons (dv 0) (da_cons (de_int) (da_nil)))))) (
    dss_cons (ds_if (dt_eq hr.units (dv 2) (de_int)) (dss_one (ds_ret (de_ix (de_lst (da_cons (de_non) (da_cons (de_int) (da_cons (de_str) (da_cons (de_dnew) (da_cons (de_bl) (da_cons (de_str) (da_cons (de_neg (de_int)) (da_nil))))))))) (de_c c__law_draw hr l__law_draw (by rfl) (da_cons (dv 0) (da_cons (de_int) (da_nil))))))) (dss_nil)) (
    dss_cons (ds_if (PW.pt (dw_and (dt_lt (dv 2) (de_int)) (dw_and1 (dt_gt (de_len (by rfl) T.n_len (dv 1)) (de_int))))) (dss_cons (ds_set (i := 4) S.nd rfl (by first | exact .inl rfl | exact .inr rfl) (de_c c__law_draw hr l__law_draw (by rfl) (da_cons (dv 0) (da_cons (de_len (by rfl) T.n_len (dv 1)) (da_nil))))) (
    dss_one (ds_ret (de_add (de_add (de_sl (dv 1) (do_none) (do_some (dv 4))) (de_tup (da_cons (dv 3) (da_nil)))) (de_sl (dv 1) (do_some (de_add (dv 4) (de_int))) (do_none)))))) (dss_nil)) (
    dss_cons (ds_if (dt_eq hr.units (dv 2) (de_int)) (dss_one (ds_ret (de_add (dv 1) (de_tup (da_cons (de_c c__law_draw hr l__law_draw (by rfl) (da_cons (dv 0) (da_cons (de_int) (da_nil)))) (da_nil)))))) (dss_nil)) (
    dss_one (ds_ret (de_add (dv 1) (de_tup (da_cons (dv 3) (da_nil))))))))))⟩
abbrev s__law_due : Stmt := top 62
theorem sc__law_due : FnScope N__law_due P__law_due (defScope s__law_due) := ⟨rfl, rfl, rfl, by decide +kernel, rfl, by decide +kernel, by decide +kernel⟩
theorem d__law_due (T : Tx mg K w) {t__law_is : DSp} {k__law_is : Nat} (c__law_is : CalD P w K mg base k__law_is "_law_is" (lo0 t__law_is) []) {t__law_reach : DSp} {k__law_reach : Nat} (c__law_reach : CalD P w K mg base k__law_reach "_law_reach" (lo0 t__law_reach) []) {t__law_frozen : DSp} {k__law_frozen : Nat} (c__law_frozen : CalD P w K mg base k__law_frozen "_law_frozen" (lo0 t__law_frozen) []) {t__law_with : DSp} {k__law_with : Nat} (c__law_with : CalD P w K mg base k__law_with "_law_with" (lo0 t__law_with) []) (l__law_is : k__law_is ≤ k) (l__law_reach : k__law_reach ≤ k) (l__law_frozen : k__law_frozen ≤ k) (l__law_with : k__law_with ≤ k) (f : Addr) (cdv : Value) (A : Around) (outer : List Env) (s : Shared) (H : Hp) (E : XK) (hr : Room k (A.deeper (envOfC "_law_due" (defScope s__law_due) s.heap.objs.size f cdv))) (hgd : A.guards = some []) (hru : A.units + 3 + 1001 < cLine) (hrb : base.get? sysModules ≠ none) :
    ∃ W : WX, PSs (cxOf CX0 P w K mg base N__law_due "_law_due" (defScope s__law_due) f cdv A outer s H E).nox (defBody s__law_due) (lS K W (b__law_due t__law_is t__law_reach t__law_frozen t__law_with)) :=
  have S := sc__law_due
  ⟨W0, dss_cons (ds_if (dt_not (dt_val (de_c c__law_is hr l__law_is (by rfl) (da_cons (dv 0) (da_cons (de_int) (da_cons (de_bl) (da_nil))))))) (dss_one (ds_ret (de_tup (da_cons (de_str) (da_cons (de_bl) (da_nil)))))) (dss_nil)) (
    dss_cons (ds_if (dt_isN (de_c c__law_reach hr l__law_reach (by rfl) (da_cons (dv 0) (da_cons (dv 1) (da_nil))))) (dss_one (ds_ret (de_tup (da_cons (de_str) (da_cons (de_repr hgd hru hrb (by rfl) T.n_repr (dv 1)) (da_cons (de_bl) (da_nil))))))) (dss_nil)) (
    dss_cons (ds_if (dt_not (dt_val (de_c c__law_is hr l__law_is (by rfl) (da_cons (dv 2) (da_cons (de_int) (da_cons (de_bl) (da_nil))))))) (dss_one (ds_ret (de_tup (da_cons (de_str) (da_cons (de_bl) (da_nil)))))) (dss_nil)) (
    dss_cons (ds_set (i := 3) S.nd rfl (by first | exact .inl rfl | exact .inr rfl) (de_c c__law_frozen hr l__law_frozen (by rfl) (da_cons (de_c c__law_with hr l__law_with (by rfl) (da_cons (dv 0) (da_cons (dv 1) (da_cons (dv 2) (da_nil))))) (da_nil)))) (
    dss_cons (ds_if (dt_not (dt_val (de_c c__law_is hr l__law_is (by rfl) (da_cons (dv 3) (da_cons (de_int) (da_cons (de_bl) (da_nil))))))) (dss_one (ds_ret (de_tup (da_cons (de_str) (da_cons (de_bl) (da_nil)))))) (dss_nil)) (
    dss_one (ds_ret (de_tup (da_cons (de_str) (da_cons (dv 3) (da_nil))))))))))⟩
abbrev s__law_agrees : Stmt := top 63
theorem sc__law_agrees : FnScope N__law_agrees P__law_agrees (defScope s__law_agrees) := ⟨rfl, rfl, rfl, by decide +kernel, rfl, by decide +kernel, by decide +kernel⟩
theorem d__law_agrees (T : Tx mg K w) {t__law_same : DSp} {k__law_same : Nat} (c__law_same : CalD P w K mg base k__law_same "_law_same" (lo0 t__law_same) []) (l__law_same : k__law_same ≤ k) (f : Addr) (cdv : Value) (A : Around) (outer : List Env) (s : Shared) (H : Hp) (E : XK) (hr : Room k (A.deeper (envOfC "_law_agrees" (defScope s__law_agrees) s.heap.objs.size f cdv))) :
    ∃ W : WX, PSs (cxOf CX0 P w K mg base N__law_agrees "_law_agrees" (defScope s__law_agrees) f cdv A outer s H E).nox (defBody s__law_agrees) (lS K W (b__law_agrees t__law_same)) :=
  have S := sc__law_agrees
  ⟨W0, dss_cons (ds_if (dt_ne hr.units (de_ix (dv 1) (de_int)) (de_str)) (dss_one (ds_ret (de_eq hr.units (dv 0) (dv 1)))) (dss_nil)) (
    dss_one (ds_ret (de_and (de_eq hr.units (de_len (by rfl) T.n_len (dv 0)) (de_int)) (de_and (de_eq hr.units (de_ix (dv 0) (de_int)) (de_str)) (de_one (de_c c__law_same hr l__law_same (by rfl) (da_cons (de_ix (dv 0) (de_int)) (da_cons (de_ix (dv 1) (de_int)) (da_nil)))))))))⟩
theorem do_parts_of (T : Tx mg K w) (f : Addr) (cdv : Value) (A : Around) (outer : List Env) (s : Shared) (H : Hp) (E : XK) (hr : Room k (A.deeper (envOfC "parts_of" (defScope s_parts_of) s.heap.objs.size f cdv))) :
    ∃ W : WX, PSs (cxOf CX0 P w K mg base N_parts_of "parts_of" (defScope s_parts_of) f cdv A outer s H E).nox (defBody s_parts_of) (lS K W (bo_parts_of)) :=
  have S := sc_parts_of
  ⟨W0, dss_cons (ds_ownL (i := 1) S.nd rfl (by first | exact .inl rfl | exact .inr rfl) (da_nil)) (
    dss_cons (ds_for PassesOwn.never rfl (di_zip (by rfl) T.n_zip (de_kget T.t_SHAPES (by rfl) (de_ix (dv 0) (de_int))) (de_sl (dv 0) (do_some (de_int)) (do_none))) (dg_tup rfl (dgs_cons (dg_name (i := 2) S.nd rfl (by first | exact .inl rfl | exact .inr rfl)) (dgs_cons (dg_name (i := 3) S.nd rfl (by first | exact .inl rfl | exact .inr rfl)) (dgs_nil)))) (dss_one (ds_if (dt_eq hr.units (dv 2) (de_str)) (dss_one (ds_app (i := 1) rfl (by first | exact .inl rfl | exact .inr (.inl rfl) | exact .inr (.inr rfl)) (dv 3))) (dss_one (ds_if (dt_kin T.t_ROW_SIZES (by rfl) (dv 2)) (dss_one (ds_ext (i := 1) rfl (by first | exact .inl rfl | exact .inr (.inl rfl) | exact .inr (.inr rfl)) (dv 3))) (dss_nil)))))) (
    dss_one (ds_ret (dv 1))))⟩
end
end K

set_option Elab.async false
set_option linter.all false
set_option maxRecDepth 100000
set_option maxHeartbeats 4000000
/-! GL: part_at, with_part, _replaced, NoPlace.__init__, derived by hand. -/
namespace K
open PySem PySem.Spec PyProof.Rows L2 DL
abbrev N_part_at : List Str := ["expression", "path", "part", "index", "below"]
abbrev P_part_at : List Str := ["expression", "path"]
abbrev s_part_at : Stmt := top 33
theorem sc_part_at : FnScope N_part_at P_part_at (defScope s_part_at) := ⟨rfl, rfl, rfl, by decide +kernel, rfl, by decide +kernel, by decide +kernel⟩
abbrev N_with_part : List Str := ["expression", "path", "part", "whole"]
abbrev P_with_part : List Str := ["expression", "path", "part"]
abbrev s_with_part : Stmt := top 34
theorem sc_with_part : FnScope N_with_part P_with_part (defScope s_with_part) := ⟨rfl, rfl, rfl, by decide +kernel, rfl, by decide +kernel, by decide +kernel⟩
abbrev N_rep : List Str := ["expression", "path", "part", "below"]
abbrev P_rep : List Str := ["expression", "path", "part"]
abbrev s_rep : Stmt := top 35
theorem sc_rep : FnScope N_rep P_rep (defScope s_rep) := ⟨rfl, rfl, rfl, by decide +kernel, rfl, by decide +kernel, by decide +kernel⟩
section
variable {P : Program} {w : World} {K : PySem.W.Frag} {mg : Str → Option Value} {base : Heap} {k : Nat} {CE CP : Addr}
theorem d_part_at (T : Tx mg K w) (oE : OwnX mg K "NoExpression" CE) {kP : Nat} (oP : OwnI P w mg K base kP "NoPlace" "path" CP (lo0 t_k1)) (lP : kP + 1 ≤ k) {t1 t2 t3 t4 t5 : DSp} {k1 k2 k3 k4 k5 : Nat}
    (c1 : CalD P w K mg base k1 "is_expression" (lo0 t1) []) (c2 : CalD P w K mg base k2 "is_row" (lo0 t2) []) (c3 : CalD P w K mg base k3 "frozen" (lo0 t3) []) (c4 : CalD P w K mg base k4 "parts_of" (lo0 t4) []) (c5 : CalD P w K mg base k5 "is_integer" (lo0 t5) [])
    (l1 : k1 ≤ k) (l2 : k2 ≤ k) (l3 : k3 ≤ k) (l4 : k4 ≤ k) (l5 : k5 ≤ k) (f : Addr) (cdv : Value) (A : Around) (outer : List Env) (s : Shared) (H : Hp) (E : XK)
    (hr : Room k (A.deeper (envOfC "part_at" (defScope s_part_at) s.heap.objs.size f cdv))) :
    PSs (cxOf (L2.CX P w) P w K mg base N_part_at "part_at" (defScope s_part_at) f cdv A outer s H E) (defBody s_part_at) (lS K (WOf E) (b_pa CE CP t1 t2 t3 t4 t5)) :=
  have S := sc_part_at
  dss_cons (ds_if (dt_not (dt_val (de_c c1 hr l1 (by rfl) (da_cons (dv 0) da_nil)))) (dss_one (ds_raise rfl (takes_of rfl rfl rfl rfl) oE (by rfl))) dss_nil)
    (dss_cons (ds_if (dt_not (dt_val (de_c c2 hr l2 (by rfl) (da_cons (dv 1) da_nil)))) (dss_one (ds_raiseF rfl (takes_of rfl rfl rfl rfl) oP hr lP (by rfl) (dv 1))) dss_nil)
    (dss_cons (ds_set (i := 2) S.nd rfl (by first | exact .inl rfl | exact .inr rfl) (de_c c3 hr l3 (by rfl) (da_cons (dv 0) da_nil)))
    (dss_cons (ds_for (passes_of rfl) rfl (di_over (dv 1)) (dg_name (i := 3) S.nd rfl (by first | exact .inl rfl | exact .inr rfl))
      (dss_cons (ds_set (i := 4) S.nd rfl (by first | exact .inl rfl | exact .inr rfl) (de_c c4 hr l4 (by rfl) (da_cons (dv 2) da_nil)))
      (dss_cons (ds_if (PW.pt (dw_or (dt_not (dt_val (de_c c5 hr l5 (by rfl) (da_cons (dv 3) da_nil)))) (dw_or1 (dt_not (dt_lelt de_int (dv 3) (de_len (by rfl) T.n_len (dv 4))))))) (dss_one (ds_raiseF rfl (takes_of rfl rfl rfl rfl) oP hr lP (by rfl) (dv 1))) dss_nil)
      (dss_one (ds_set (i := 2) S.nd rfl (by first | exact .inl rfl | exact .inr rfl) (de_ix (dv 4) (dv 3)))))))
    (dss_one (ds_ret (dv 2))))))
theorem d_with_part (T : Tx mg K w) (oE : OwnX mg K "NoExpression" CE) {t0 t1 t3 t4 : DSp} {k0 k1 k3 k4 : Nat}
    (c0 : CalX P w K mg base k0 "part_at" t0) (c1 : CalD P w K mg base k1 "is_expression" (lo0 t1) []) (c3 : CalD P w K mg base k3 "frozen" (lo0 t3) []) (c4 : CalD P w K mg base k4 "_replaced" (lo0 t4) [])
    (l0 : k0 ≤ k) (l1 : k1 ≤ k) (l3 : k3 ≤ k) (l4 : k4 ≤ k) (f : Addr) (cdv : Value) (A : Around) (outer : List Env) (s : Shared) (H : Hp) (E : XK)
    (hr : Room k (A.deeper (envOfC "with_part" (defScope s_with_part) s.heap.objs.size f cdv))) :
    PSs (cxOf (L2.CX P w) P w K mg base N_with_part "with_part" (defScope s_with_part) f cdv A outer s H E) (defBody s_with_part) (lS K (WOf E) (b_wpart CE t0 t1 t3 t4)) :=
  have S := sc_with_part
  dss_cons (ds_expr (de_cx c0 (takes_of rfl rfl rfl rfl) hr l0 (by rfl) (da_cons (dv 0) (da_cons (dv 1) da_nil))))
    (dss_cons (ds_if (dt_not (dt_val (de_c c1 hr l1 (by rfl) (da_cons (dv 2) da_nil)))) (dss_one (ds_raise rfl (takes_of rfl rfl rfl rfl) oE (by rfl))) dss_nil)
    (dss_cons (ds_set (i := 3) S.nd rfl (by first | exact .inl rfl | exact .inr rfl) (de_c c4 hr l4 (by rfl) (da_cons (de_c c3 hr l3 (by rfl) (da_cons (dv 0) da_nil)) (da_cons (dv 1) (da_cons (de_c c3 hr l3 (by rfl) (da_cons (dv 2) da_nil)) da_nil)))))
    (dss_cons (ds_if (dt_not (dt_val (de_c c1 hr l1 (by rfl) (da_cons (dv 3) da_nil)))) (dss_one (ds_raise rfl (takes_of rfl rfl rfl rfl) oE (by rfl))) dss_nil)
    (dss_one (ds_ret (dv 3))))))
theorem d_rep (T : Tx mg K w) {t0 t1 t2 : DSp} {k0 k1 k2 : Nat} (c0 : CalO P w K mg base k0 "parts_of" (lo0 t0)) (c1 : CalD P w K mg base k1 "_replaced" (lo0 t1) []) (c2 : CalD P w K mg base k2 "with_parts" (lo0 t2) [])
    (l0 : k0 ≤ k) (l1 : k1 ≤ k) (l2 : k2 ≤ k) (f : Addr) (cdv : Value) (A : Around) (outer : List Env) (s : Shared) (H : Hp) (E : XK)
    (hr : Room k (A.deeper (envOfC "_replaced" (defScope s_rep) s.heap.objs.size f cdv))) :
    ∃ W : WX, PSs (cxOf CX0 P w K mg base N_rep "_replaced" (defScope s_rep) f cdv A outer s H E).nox (defBody s_rep) (lS K W (b_rep t0 t1 t2)) :=
  have S := sc_rep
  ⟨W0, dss_cons (ds_if (dt_eq hr.units (de_len (by rfl) T.n_len (dv 1)) de_int) (dss_one (ds_ret (dv 2))) dss_nil)
    (dss_cons (ds_ownF c0 hr l0 (by rfl) S.nd (i := 3) rfl (by first | exact .inl rfl | exact .inr rfl) (da_cons (dv 0) da_nil))
    (dss_cons (ds_put (i := 3) rfl (by first | exact .inl rfl | exact .inr (.inl rfl) | exact .inr (.inr rfl)) (de_ix (dv 1) de_int) (de_c c1 hr l1 (by rfl) (da_cons (de_ix (dv 3) (de_ix (dv 1) de_int)) (da_cons (de_sl (dv 1) (do_some de_int) do_none) (da_cons (dv 2) da_nil)))))
    (dss_one (ds_frz 3 (ds_ret (de_c c2 hr l2 (by rfl) (da_cons (dv 0) (da_cons (dv 3) da_nil))))))))⟩
end
end K

set_option Elab.async false
set_option linter.all false
set_option maxRecDepth 100000
set_option maxHeartbeats 4000000
/-! GM: _law_reach, _law_way. -/
namespace K
open PySem PySem.Spec PyProof.Rows L2 DL
theorem good_of_fits {v : D} (hv : ∃ n b, fitsM n b v = true) : ∃ n, goodM (n + 1) v = true := by
  obtain ⟨n, b, h⟩ := hv
  cases n with
  | zero => cases h
  | succ n => exact ⟨n, ex_good (fits_ex h)⟩
theorem ev_ltI {Wd : DW} {ρ : Ro} {ta tb : DE} {a b : Int} (ha : Ev ta Wd ρ (.int a)) (hb : Ev tb Wd ρ (.int b)) : Ev (dOp oLt ta tb) Wd ρ (.bool (decide (a < b))) := fun Q q => ha _ (hb _ q)
theorem ev_gtI {Wd : DW} {ρ : Ro} {ta tb : DE} {a b : Int} (ha : Ev ta Wd ρ (.int a)) (hb : Ev tb Wd ρ (.int b)) : Ev (dOp oGt ta tb) Wd ρ (.bool (decide (b < a))) := fun Q q => ha _ (hb _ q)
theorem ev_geI {Wd : DW} {ρ : Ro} {ta tb : DE} {a b : Int} (ha : Ev ta Wd ρ (.int a)) (hb : Ev tb Wd ρ (.int b)) : Ev (dOp oGe ta tb) Wd ρ (.bool (decide (b ≤ a))) := fun Q q => ha _ (hb _ q)
theorem ev_lenR {Wd : DW} {ρ : Ro} {ta : DE} {br : Bool} {xs : List D} (ha : Ev ta Wd ρ (mkRow br xs)) : Ev (dUn oLen ta) Wd ρ (.int ((xs.length : Nat) : Int)) := fun Q q => ha _ (by cases br <;> exact q)
theorem ev_k {Wd : DW} {ρ : Ro} {d : D} : Ev (dC d) Wd ρ d := fun Q q => q
theorem reach_test {e : D} {n : Nat} {Wd : DW} {ρ : Ro} {ps : List D} (h2 : get ρ 2 = some (.d e)) (h3 : get ρ 3 = some (.d (.list ps))) (hn : ps.length = n) :
    EvT (dOr (dNot (dB (dUn (oIs "int") (dVar 2)))) (dOr (dB (dUn (oIs "bool") (dVar 2))) (dOr (dB (dOp oLt (dVar 2) (dC (.int 0)))) (dB (dOp oGe (dVar 2) (dUn oLen (dVar 3))))))) Wd ρ (ixD e n).isNone := by
  subst hn
  cases e with
  | int i =>
    have h := et_or (et_not (et_B (ev_isT (Wd := Wd) (T := "int") (b := true) h2 (by simp [isT])))) fun _ => et_or (et_B (ev_isT (Wd := Wd) (T := "bool") (b := false) h2 (by simp [isT]))) fun _ =>
      et_or (et_B (ev_ltI (Wd := Wd) (b := 0) (ev_v h2) ev_k)) fun _ => et_B (ev_geI (Wd := Wd) (ev_v h2) (ev_lenR (br := true) (ev_v h3)))
    have e : ((!true) || (false || (decide (i < 0) || decide (((ps.length : Nat) : Int) ≤ i)))) = (ixD (.int i) ps.length).isNone := by
      show (false || (false || (decide (i < 0) || decide (((ps.length : Nat) : Int) ≤ i)))) = (if 0 ≤ i ∧ i < ((ps.length : Nat) : Int) then some i.toNat else none : Option Nat).isNone
      rw [Bool.false_or, Bool.false_or]
      by_cases hh : 0 ≤ i ∧ i < ((ps.length : Nat) : Int)
      · rw [if_pos hh, decide_eq_false (by omega), decide_eq_false (by omega)] <;> rfl
      · rw [if_neg hh]
        by_cases h0 : i < 0
        · rw [decide_eq_true h0] <;> rfl
        · rw [decide_eq_false h0, decide_eq_true (by omega)] <;> rfl
    rw [e] at h
    exact h
  | bool b => exact et_or (b := true) (et_not (et_B (ev_isT (Wd := Wd) (T := "int") (b := true) h2 (by simp [isT])))) fun _ => et_or (b := true) (et_B (ev_isT (Wd := Wd) (T := "bool") (b := true) h2 (by simp [isT]))) fun z => nomatch z
  | _ => exact et_or (b := true) (et_not (et_B (ev_isT (Wd := Wd) (T := "int") (b := false) h2 (by simp [isT])))) fun z => nomatch z
theorem m_reach_loop {p : D} : ∀ (es : List D) (v : D) {E : DEnds} (x2 x3 : Option DV), (∃ n b, fitsM n b v = true) →
    (match reachL es v with
      | some x => ∀ x2 x3, E.nx [some (.d x), some (.d p), x2, x3]
      | none => E.rt (.d .none)) → dLoop (dgN 2) (b__law_reach_f0 t_parts) E es [some (.d v), some (.d p), x2, x3]
  | [], v, E, x2, x3, hv, h => h x2 x3
  | e :: es, v, E, x2, x3, hv, h => by
    show b__law_reach_f0 t_parts _ [some (.d v), some (.d p), some (.d e), x3]
    refine seqSet (d := .list (partsM v)) (ev_call (ev_v (by rfl)) fun Q hQ => ⟨good_of_fits hv, hQ⟩) ?_
    refine seqIfN (b := (ixD e (partsM v).length).isNone) ?c (fun z => ?_) fun z => ?_
    case c => exact reach_test (by rfl) (by rfl) rfl
    · have z : ixD e (partsM v).length = none := Option.isNone_iff_eq_none.mp z
      have hr : reachL (e :: es) v = none := by
        show (match ixD e (partsM v).length with
          | some k => reachL es ((partsM v).getD k .none)
          | none => none) = none
        rw [z]
      rw [hr] at h
      exact h
    · obtain ⟨k, hk⟩ : ∃ k, ixD e (partsM v).length = some k := by
        cases hh : ixD e (partsM v).length with
        | none => rw [hh] at z; cases z
        | some k => exact ⟨k, rfl⟩
      have hr : reachL (e :: es) v = reachL es ((partsM v).getD k .none) := by
        show (match ixD e (partsM v).length with
          | some k => reachL es ((partsM v).getD k .none)
          | none => none) = _
        rw [hk]
      rw [hr] at h
      cases e with
      | int i =>
        have hk : (if 0 ≤ i ∧ i < (((partsM v).length : Nat) : Int) then some i.toNat else none) = some k := hk
        by_cases hi : 0 ≤ i ∧ i < (((partsM v).length : Nat) : Int)
        · rw [if_pos hi] at hk
          cases hk
          have hlt : i.toNat < (partsM v).length := by omega
          have hg : (partsM v).getD i.toNat .none = (partsM v)[i.toNat] := by
            rw [List.getD_eq_getElem?_getD, List.getElem?_eq_getElem hlt] <;> rfl
          rw [hg] at h
          have ih := fun x2 x3 => m_reach_loop es (partsM v)[i.toNat] (E := E) x2 x3 (part_fits hv (List.getElem_mem hlt)) h
          refine oIx_at (d := (partsM v)[i.toNat]) hi.1 (List.getElem?_eq_getElem hlt) ?_
          exact ⟨trivial, ih _ _⟩
        · rw [if_neg hi] at hk
          cases hk
      | _ =>
        have hk : (none : Option Nat) = some k := hk
        cases hk
def t_reach : DSp := p2 fun v p Q => (∃ n b, fitsM n b v = true) ∧ Q (.d ((reachP p v).getD .none))
theorem m_reach : Body 4 (b__law_reach t_parts) t_reach := by
  intro as Wd Qd h
  obtain ⟨v, p, rfl, hv, q⟩ := p2_of h
  clear h
  refine seqIfN (b := !isRow p) ?c (fun z => ?_) fun z => ?_
  case c => exact et_not (et_B (ev_row2 (by rfl)))
  · have hr : reachP p v = none := by
      unfold reachP
      rw [not_t z, if_neg Bool.false_ne_true]
    rw [hr] at q
    exact ⟨trivial, q⟩
  have er := not_f z
  have hr : reachP p v = reachL (rowOf p) v := by
    unfold reachP
    rw [er, if_pos rfl]
  rw [hr] at q
  obtain ⟨bp, ep⟩ := row_of (xs := rowOf p) er rfl
  have go : ∀ E : DEnds, (match reachL (rowOf p) v with
      | some x => ∀ x2 x3, E.nx [some (.d x), some (.d p), x2, x3]
      | none => E.rt (.d .none)) → sFor (dOver (dVar 1)) (dgN 2) (b__law_reach_f0 t_parts) E [some (.d v), some (.d p), none, none] := fun E hE => by
    have lp := m_reach_loop (p := p) (rowOf p) v (E := E) none none hv hE
    generalize rowOf p = xs at ep lp
    subst ep
    cases bp <;> exact lp
  refine go _ ?_
  cases e : reachL (rowOf p) v with
  | some x =>
    rw [e] at q
    exact fun x2 x3 => ⟨trivial, q⟩
  | none =>
    rw [e] at q
    exact ⟨trivial, q⟩
end K

set_option Elab.async false
set_option linter.all false
set_option maxRecDepth 100000
set_option maxHeartbeats 4000000
/-! GQ: what is shown of a fine datum is made of signs that are. -/
namespace K
open PySem PySem.Spec PyProof.Rows L2 DL
def cOk (c : Nat) : Bool := decide (c < 0x110000)
def sk (s : Str) : Bool := s.cps.toList.all cOk
theorem sk_ok {s : Str} (h : sk s = true) : PyData.strOk s = true := by
  unfold PyData.strOk
  rw [← Array.all_toList]
  exact h
theorem sk_app {a b : Str} (ha : sk a = true) (hb : sk b = true) : sk (a ++ b) = true := by
  show (a.cps ++ b.cps).toList.all cOk = true
  rw [Array.toList_append, List.all_append]
  show (sk a && sk b) = true
  rw [ha, hb] <;> rfl
theorem sk_of (s : String) : sk (Str.ofString s) = true := by
  unfold sk
  rw [Str.ofString_eq_toList]
  show (s.toList.map Char.toNat).toArray.toList.all cOk = true
  rw [List.toList_toArray, List.all_eq_true]
  intro c hc
  obtain ⟨x, hx, rfl⟩ := List.mem_map.mp hc
  refine decide_eq_true ?_
  have hv : x.val.toNat < 0xd800 ∨ (0xdfff < x.val.toNat ∧ x.val.toNat < 0x110000) := x.valid
  show x.val.toNat < 0x110000
  omega
theorem rep_signs : ((List.range 127).all fun c => !okC c || ((Builtin.Str.reprChar 39 c).all cOk && (Builtin.Str.reprChar 34 c).all cOk)) = true := by decide +kernel
theorem rep_sign {q c : Nat} (hq : q = 39 ∨ q = 34) (h : okC c = true) : (Builtin.Str.reprChar q c).all cOk = true := by
  have hc : c < 127 := by
    unfold okC at h
    rw [Bool.or_eq_true, Bool.and_eq_true] at h
    rcases h with h | h
    · have := of_decide_eq_true h.2
      omega
    · have := eq_of_beq h
      omega
  have h1 := List.all_eq_true.mp rep_signs c (List.mem_range.mpr hc)
  rw [h, Bool.not_true, Bool.false_or, Bool.and_eq_true] at h1
  rcases hq with rfl | rfl
  · exact h1.1
  · exact h1.2
theorem sk_repr {s : Str} (h : okS s = true) : sk (reprText s) = true := by
  have hq : reprQuote s = 39 ∨ reprQuote s = 34 := by
    unfold reprQuote
    split
    · exact .inr rfl
    · exact .inl rfl
  have key : ∀ (l : List Nat) (acc : Array Nat), l.all okC = true → acc.toList.all cOk = true → (l.foldl (fun out c => out ++ (Builtin.Str.reprChar (reprQuote s) c).toArray) acc).toList.all cOk = true := by
    intro l
    induction l with
    | nil => intro acc _ h; exact h
    | cons c r ih =>
      intro acc hl ha
      rw [List.all_cons, Bool.and_eq_true] at hl
      rw [List.foldl_cons]
      refine ih _ hl.2 ?_
      rw [Array.toList_append, List.all_append, ha, List.toList_toArray, rep_sign hq hl.1] <;> rfl
  unfold reprText sk
  show (Array.push _ _).toList.all cOk = true
  rw [Array.toList_push, List.all_append, ← Array.foldl_toList]
  have hqc : ([reprQuote s] : List Nat).all cOk = true := by
    rcases hq with e | e <;> rw [e] <;> decide
  rw [key _ _ h hqc, hqc] <;> rfl
theorem sk_if {c : Prop} [Decidable c] {a b : String} : sk ((if c then a else b : String) : Str) = true := sk_of _
theorem sk_from : ∀ (ts : List Str) (k : Nat) (acc : Str), sk acc = true → (∀ t ∈ ts, sk t = true) → sk (textFrom k acc ts) = true
  | [], _, _, h, _ => h
  | t :: r, k, acc, h, ht => sk_from r (k + 1) _ (sk_app (sk_app h sk_if) (ht t (List.mem_cons_self ..))) fun y hy => ht y (List.mem_cons_of_mem _ hy)
theorem sk_list {ts : List Str} (h : ∀ t ∈ ts, sk t = true) : sk (listText ts) = true := sk_app (sk_from ts 0 _ (sk_of "[") h) (sk_of "]")
theorem sk_join : ∀ (ts : List Str), (∀ t ∈ ts, sk t = true) → sk (Str.join ", " ts) = true
  | [], _ => by decide
  | [x], h => h x (List.mem_cons_self ..)
  | x :: y :: r, h => by
    show sk (x ++ (", " : String) ++ Str.join ", " (y :: r)) = true
    exact sk_app (sk_app (h x (List.mem_cons_self ..)) (sk_of ", ")) (sk_join (y :: r) fun z hz => h z (List.mem_cons_of_mem _ hz))
theorem sk_tuple {ts : List Str} (h : ∀ t ∈ ts, sk t = true) : sk (tupleText ts) = true := sk_app (sk_app (sk_of "(") (sk_join ts h)) sk_if
theorem sk_dict {ts : List Str} (h : ∀ t ∈ ts, sk t = true) : sk (dictText ts) = true := sk_app (sk_app (sk_of "{") (sk_join ts h)) (sk_of "}")
mutual
theorem sk_shown : ∀ {d : D}, fineD d = true → sk d.shown = true
  | .none, _ => by decide +kernel
  | .bool true, _ => by decide +kernel
  | .bool false, _ => by decide +kernel
  | .int i, _ => sk_of _
  | .str s, h => by
    rw [fineD, Bool.and_eq_true] at h
    simp only [PyData.shown]
    exact sk_repr h.2
  | .list xs, h => by
    rw [fineD, Bool.and_eq_true] at h
    simp only [PyData.shown]
    exact sk_list (sk_shownAll h.2)
  | .tuple xs, h => by
    rw [fineD, Bool.and_eq_true] at h
    simp only [PyData.shown]
    exact sk_tuple (sk_shownAll h.2)
  | .dict kvs, h => by
    rw [fineD, Bool.and_eq_true] at h
    simp only [PyData.shown]
    exact sk_dict (sk_shownKv h.2)
theorem sk_shownAll : ∀ {xs : List D}, fineAll xs = true → ∀ t ∈ PyData.shownAll xs, sk t = true
  | [], _, t, ht => by simp [PyData.shownAll] at ht
  | d :: r, h, t, ht => by
    rw [fineAll, Bool.and_eq_true] at h
    rw [PyData.shownAll] at ht
    rcases List.mem_cons.mp ht with rfl | ht
    · exact sk_shown h.1
    · exact sk_shownAll h.2 t ht
theorem sk_shownKv : ∀ {kvs : List (D × D)}, fineKv kvs = true → ∀ t ∈ PyData.shownKv kvs, sk t = true
  | [], _, t, ht => by simp [PyData.shownKv] at ht
  | (k, d) :: r, h, t, ht => by
    rw [fineKv, Bool.and_eq_true, Bool.and_eq_true, Bool.and_eq_true] at h
    rw [PyData.shownKv] at ht
    rcases List.mem_cons.mp ht with rfl | ht
    · exact sk_app (sk_app (sk_shown h.1.2) (sk_of ": ")) (sk_shown h.2.1)
    · exact sk_shownKv h.2.2 t ht
end
end K

set_option Elab.async false
set_option linter.all false
set_option maxRecDepth 100000
set_option maxHeartbeats 4000000
/-! GN: _law_way. -/
namespace K
open PySem PySem.Spec PyProof.Rows L2 DL
def oneW (d : D) : Bool := sk d.shown && ((d.showable && decide (d.shown.length ≤ 30)) && (decide (d.depth ≤ 2) && okK d))
def wayOk (d : D) : Prop := (∃ br xs, d = mkRow br xs ∧ xs.length ≤ 31 ∧ ∀ x ∈ xs, oneW x = true) ∨ oneW d = true
theorem one_sk {d : D} (h : oneW d = true) : sk d.shown = true := (Bool.and_eq_true_iff.mp h).1
theorem one_parts {d : D} (h : oneW d = true) : d.showable = true ∧ d.shown.length ≤ 30 ∧ d.depth ≤ 2 ∧ okK d = true := by
  have h := (Bool.and_eq_true_iff.mp h).2
  rw [Bool.and_eq_true, Bool.and_eq_true, Bool.and_eq_true] at h
  exact ⟨h.1.1, of_decide_eq_true h.1.2, of_decide_eq_true h.2.1, h.2.2⟩
theorem one_int {i : Int} (h : i.natAbs ≤ 1000000000) : oneW (.int i) = true := by
  have hf := fine_i h
  unfold oneW
  rw [sk_shown hf, showable_of hf, decide_eq_true (Nat.le_trans (shown_le hf) (by decide : 11 ≤ 30))] <;> rfl
theorem piled_one : ∀ {xs : List D}, (∀ x ∈ xs, oneW x = true) → piled (PyData.shownAll xs) ≤ 32 * xs.length
  | [], _ => by simp [PyData.shownAll, piled]
  | x :: xs, h => by
    have h1 := (one_parts (h x (List.mem_cons_self ..))).2.1
    have h2 := piled_one fun y hy => h y (List.mem_cons_of_mem _ hy)
    simp only [PyData.shownAll, piled_cons, List.length_cons]
    omega
theorem showable_one : ∀ {xs : List D}, (∀ x ∈ xs, oneW x = true) → PyData.showableAll xs = true
  | [], _ => rfl
  | x :: xs, h => by
    simp only [PyData.showableAll, (one_parts (h x (List.mem_cons_self ..))).1, showable_one fun y hy => h y (List.mem_cons_of_mem _ hy), Bool.and_true]
theorem okKs_one : ∀ {xs : List D}, (∀ x ∈ xs, oneW x = true) → okKs xs = true
  | [], _ => rfl
  | x :: xs, h => by
    rw [okKs, (one_parts (h x (List.mem_cons_self ..))).2.2.2, okKs_one fun y hy => h y (List.mem_cons_of_mem _ hy)] <;> rfl
theorem way_facts {d : D} (h : wayOk d) : okK d = true ∧ d.showable = true ∧ d.shown.length ≤ 1000 ∧ d.depth ≤ 10 := by
  rcases h with ⟨br, xs, rfl, hl, hx⟩ | h
  · have h1 := piled_one hx
    have h2 := showable_one hx
    have h3 := okKs_one hx
    have h4 := depthAll_le (n := 2) fun x m => (one_parts (hx x m)).2.2.1
    cases br with
    | false =>
      have h5 := tuple_len (PyData.shownAll xs)
      refine ⟨?_, ?_, ?_, ?_⟩
      · show (decide (xs.length ≤ 1000) && okKs xs) = true
        rw [h3, decide_eq_true (by omega)] <;> rfl
      · show (PyData.tuple xs).showable = true
        simp only [PyData.showable, h2]
      · show (PyData.tuple xs).shown.length ≤ 1000
        simp only [PyData.shown]
        omega
      · show (PyData.tuple xs).depth ≤ 10
        simp only [PyData.depth]
        omega
    | true =>
      have h5 := list_len (PyData.shownAll xs)
      refine ⟨?_, ?_, ?_, ?_⟩
      · show (decide (xs.length ≤ 1000) && okKs xs) = true
        rw [h3, decide_eq_true (by omega)] <;> rfl
      · show (PyData.list xs).showable = true
        simp only [PyData.showable, h2]
      · show (PyData.list xs).shown.length ≤ 1000
        simp only [PyData.shown]
        omega
      · show (PyData.list xs).depth ≤ 10
        simp only [PyData.depth]
        omega
  · obtain ⟨h1, h2, h3, h4⟩ := one_parts h
    exact ⟨h4, h1, by omega, by omega⟩
theorem sk_all {xs : List D} (h : ∀ x ∈ xs, oneW x = true) : ∀ t ∈ PyData.shownAll xs, sk t = true := by
  induction xs with
  | nil => intro t ht; simp [PyData.shownAll] at ht
  | cons x r ih =>
    intro t ht
    rw [PyData.shownAll] at ht
    rcases List.mem_cons.mp ht with rfl | ht
    · exact one_sk (h x (List.mem_cons_self ..))
    · exact ih (fun y hy => h y (List.mem_cons_of_mem _ hy)) t ht
theorem way_sk {d : D} (h : wayOk d) : sk d.shown = true := by
  rcases h with ⟨br, xs, rfl, hl, hx⟩ | h
  · cases br with
    | false =>
      show sk (PyData.tuple xs).shown = true
      simp only [PyData.shown]
      exact sk_tuple (sk_all hx)
    | true =>
      show sk (PyData.list xs).shown = true
      simp only [PyData.shown]
      exact sk_list (sk_all hx)
  · exact one_sk h
def smallWay (way : D) : Prop := ∃ is : List Int, way = .tuple (is.map .int) ∧ is.length ≤ 15 ∧ ∀ i ∈ is, i.natAbs ≤ 1000
theorem small_one {is : List Int} (h : ∀ i ∈ is, i.natAbs ≤ 1000) : ∀ x ∈ is.map PyData.int, oneW x = true := fun x hx => by
  obtain ⟨i, hi, rfl⟩ := List.mem_map.mp hx
  exact one_int (by have := h i hi; omega)
theorem small_ok {way : D} (h : smallWay way) : wayOk way := by
  obtain ⟨is, rfl, hl, h⟩ := h
  exact .inl ⟨false, is.map .int, rfl, by rw [List.length_map]; omega, small_one h⟩
def wayT (d : D) : Prop := ∃ xs, d = .tuple xs ∧ xs.length ≤ 31 ∧ ∀ x ∈ xs, oneW x = true
theorem wayT_ok {d : D} (h : wayT d) : wayOk d := by
  obtain ⟨xs, rfl, h1, h2⟩ := h
  exact .inl ⟨false, xs, rfl, h1, h2⟩
theorem small_T {way : D} (h : smallWay way) : wayT way := by
  obtain ⟨is, rfl, hl, h⟩ := h
  exact ⟨_, rfl, by rw [List.length_map]; omega, small_one h⟩
def t_way : DSp := pB1 fun way Q => smallWay way ∧ ∀ d, wayOk d → (isRow d = true → wayT d) → Q (.d d)
theorem odds_one : ([.int (-1), .bool true, .bool false, .none, .str "0", .int 4, .int (10 ^ 20), .tuple [.int 0], .int 1] : List D).all oneW = true := by decide +kernel
theorem none_one : ([.none, .int 0, .str "", .dict [], .bool true, .str "0", .int (-1)] : List D).all oneW = true := by decide +kernel
theorem ev_addT {Wd : DW} {ρ : Ro} {ta tb : DE} {a b : List D} (ha : Ev ta Wd ρ (.tuple a)) (hb : Ev tb Wd ρ (.tuple b)) (hl : a.length + b.length ≤ 1000) : Ev (dOp oAdd ta tb) Wd ρ (.tuple (a ++ b)) := fun Q q => ha _ (hb _ ⟨le_sz hl, q⟩)
theorem ev_tup1 {Wd : DW} {ρ : Ro} {te : DE} {d : D} (h : Ev te Wd ρ d) : Ev (dTup (dCons te dNil)) Wd ρ (.tuple [d]) := fun Q q => h _ ⟨trivial, nle rfl, q⟩
theorem ev_slTo {Wd : DW} {ρ : Ro} {ta tb : DE} {br : Bool} {xs : List D} {i : Int} (ha : Ev ta Wd ρ (mkRow br xs)) (hb : Ev tb Wd ρ (.int i)) : Ev (dSl ta dNoPart (dPart tb)) Wd ρ (mkRow br (DL.cutD xs none (some i))) := fun Q q => ha _ (hb _ (oSl_row q))
theorem ev_slFrom {Wd : DW} {ρ : Ro} {ta tb : DE} {br : Bool} {xs : List D} {i : Int} (ha : Ev ta Wd ρ (mkRow br xs)) (hb : Ev tb Wd ρ (.int i)) : Ev (dSl ta (dPart tb) dNoPart) Wd ρ (mkRow br (DL.cutD xs (some i) none)) := fun Q q => ha _ (hb _ (oSl_row q))
theorem ev_addI {Wd : DW} {ρ : Ro} {ta tb : DE} {a b : Int} (ha : Ev ta Wd ρ (.int a)) (hb : Ev tb Wd ρ (.int b)) : Ev (dOp oAdd ta tb) Wd ρ (.int (a + b)) := fun Q q => ha _ (hb _ q)
theorem len_cut (xs : List D) (a b : Option Int) : (DL.cutD xs a b).length ≤ xs.length := by
  unfold DL.cutD
  rw [List.length_take, List.length_drop]
  omega
theorem mem_cut {xs : List D} {a b : Option Int} {x : D} (h : x ∈ DL.cutD xs a b) : x ∈ xs := by
  unfold DL.cutD at h
  exact List.mem_of_mem_drop (List.mem_of_mem_take h)
theorem none_row : ([.none, .int 0, .str "", .dict [], .bool true, .str "0", .int (-1)] : List D).all (fun d => !isRow d) = true := by decide +kernel
theorem m_way : Body 5 (b__law_way t_draw) t_way := by
  intro as Wd Qd h
  obtain ⟨way, rfl, ⟨is, rfl, hl, hs⟩, q⟩ := pB1_of h
  clear h
  refine ⟨trivial, trivial, 9, rfl, ⟨by decide, by decide⟩, fun ch c1 c2 _ => ⟨trivial, ?_⟩⟩
  refine ⟨⟨by decide, by decide, nle rfl⟩, ?_⟩
  repeat first | refine ⟨trivial, ?_⟩ | refine ⟨nle rfl, ?_⟩
  refine ⟨9, rfl, ⟨by decide, by decide⟩, fun j j1 j2 _ => ?_⟩
  refine oIx_list j1 j2 fun odd ho => ⟨trivial, ?_⟩
  have hodd : oneW odd = true := List.all_eq_true.mp odds_one odd ho
  clear ho
  show b__law_way_2 t_draw (dE Wd Qd) [some .bag, some (.d (.tuple (is.map .int))), some (.d (.int ch)), some (.d odd), none]
  have hall := small_one hs
  have hlm : (is.map PyData.int).length ≤ 15 := by rw [List.length_map]; exact hl
  have ev1 : ∀ {W' : DW} {ρ : Ro}, get ρ 1 = some (.d (.tuple (is.map .int))) → Ev (dVar 1) W' ρ (mkRow false (is.map .int)) := fun h => ev_v h
  refine seqIfN (b := ch == 0) ?c (fun _ => ?_) fun _ => ?_
  case c => exact et_B fun Q q => ev_v (x := .int ch) (by rfl) _ q
  · repeat first | refine ⟨trivial, ?_⟩ | refine ⟨nle rfl, ?_⟩
    refine ⟨7, rfl, ⟨by decide, by decide⟩, fun j j1 j2 _ => ?_⟩
    exact oIx_list j1 j2 fun d hd => ⟨trivial, q d (.inr (List.all_eq_true.mp none_one d hd)) fun hr => by
      have := List.all_eq_true.mp none_row d hd
      simp only [hr] at this
      cases this⟩
  refine seqIfN (b := decide (ch < 5) && decide ((0 : Int) < ((is.map PyData.int).length : Nat))) ?c2 (fun e => ?_) fun _ => ?_
  case c2 => exact et_and (et_B (ev_ltI (b := 5) (ev_v (by rfl)) ev_k)) fun _ => et_B (ev_gtI (b := 0) (ev_lenR (br := false) (ev1 (by rfl))) ev_k)
  · have hne : 0 < (is.map PyData.int).length := by
      rw [Bool.and_eq_true] at e
      have := of_decide_eq_true e.2
      omega
    refine ⟨trivial, trivial, ((is.map PyData.int).length : Nat), rfl, ⟨by omega, by omega⟩, fun m m1 m2 _ => ⟨trivial, ?_⟩⟩
    have hcut : ∀ (a b : Option Int), wayT (.tuple ((DL.cutD (is.map PyData.int) none a ++ [odd]) ++ DL.cutD (is.map PyData.int) b none)) := fun a b => by
      have l1 := len_cut (is.map PyData.int) none a
      have l2 := len_cut (is.map PyData.int) b none
      refine ⟨_, rfl, by rw [List.length_append, List.length_append, List.length_singleton]; omega, fun x hx => ?_⟩
      rcases List.mem_append.mp hx with hx | hx
      · rcases List.mem_append.mp hx with hx | hx
        · exact hall x (mem_cut hx)
        · rw [List.mem_singleton.mp hx]
          exact hodd
      · exact hall x (mem_cut hx)
    have l1 := len_cut (is.map PyData.int) none (some m)
    have l2 := len_cut (is.map PyData.int) (some (m + 1)) none
    show sRet (dOp oAdd (dOp oAdd (dSl (dVar 1) dNoPart (dPart (dVar 4))) (dTup (dCons (dVar 3) dNil))) (dSl (dVar 1) (dPart (dOp oAdd (dVar 4) (dC (.int 1)))) dNoPart)) (dE Wd Qd) [some .bag, some (.d (.tuple (is.map .int))), some (.d (.int ch)), some (.d odd), some (.d (.int m))]
    exact sRet_ev (ev_addT (a := DL.cutD (is.map PyData.int) none (some m) ++ [odd]) (b := DL.cutD (is.map PyData.int) (some (m + 1)) none) (ev_addT (a := DL.cutD (is.map PyData.int) none (some m)) (b := [odd]) (ev_slTo (br := false) (ev1 (by rfl)) (ev_v (by rfl))) (ev_tup1 (ev_v (by rfl))) (by rw [List.length_singleton]; omega))
      (ev_slFrom (br := false) (ev1 (by rfl)) (ev_addI (b := 1) (ev_v (by rfl)) ev_k)) (by rw [List.length_append, List.length_singleton]; omega)) ⟨trivial, q _ (wayT_ok (hcut _ _)) fun _ => hcut _ _⟩
  refine seqIfN (b := ch == 5) ?c3 (fun _ => ?_) fun _ => ?_
  case c3 => exact et_B fun Q q => ev_v (x := .int ch) (by rfl) _ q
  · refine ⟨trivial, trivial, 4, rfl, ⟨by decide, by decide⟩, fun m m1 m2 _ => ?_⟩
    have hT : wayT (.tuple (is.map .int ++ [.int m])) := by
      refine ⟨_, rfl, by rw [List.length_append, List.length_singleton]; omega, fun x hx => ?_⟩
      rcases List.mem_append.mp hx with hx | hx
      · exact hall x hx
      · rw [List.mem_singleton.mp hx]
        exact one_int (by omega)
    exact ⟨trivial, nle rfl, le_sz (by rw [List.length_singleton]; omega), trivial, q _ (wayT_ok hT) fun _ => hT⟩
  · have hT : wayT (.tuple (is.map .int ++ [odd])) := by
      refine ⟨_, rfl, by rw [List.length_append, List.length_singleton]; omega, fun x hx => ?_⟩
      rcases List.mem_append.mp hx with hx | hx
      · exact hall x hx
      · rw [List.mem_singleton.mp hx]
        exact hodd
    exact sRet_ev (ev_addT (a := is.map .int) (b := [odd]) (ev1 (by rfl)) (ev_tup1 (ev_v (by rfl))) (by rw [List.length_singleton]; omega)) ⟨trivial, q _ (wayT_ok hT) fun _ => hT⟩
end K

set_option Elab.async false
set_option linter.all false
set_option maxRecDepth 100000
set_option maxHeartbeats 4000000
/-! GO: _law_told, _law_parted, _law_due, _law_agrees. -/
namespace K
open PySem PySem.Spec PyProof.Rows L2 DL
/-- what the classes are -/
structure XF2 (K : PySem.W.Frag) (CE CP CR : Addr) : Prop where
  pp : PySem.W.exmOne K (.ref CP) (.ref CP) = some true
  ep : PySem.W.exmOne K (.ref CE) (.ref CP) = some false
  ee : PySem.W.exmOne K (.ref CE) (.ref CE) = some true
  pe : PySem.W.exmOne K (.ref CP) (.ref CE) = some false
  ec : ExcC K CE
  pc : ExcC K CP
  px : XfC K CP
  no : PySem.W.findIn K (.ref CP) "path" = some none
  er : PySem.W.kitOne K (.ref CE) (.ref CR) = some true
  ev : PySem.W.kitOne K (.ref CE) (.type "ValueError") = some true
  pr : PySem.W.kitOne K (.ref CP) (.ref CR) = some true
  pv : PySem.W.kitOne K (.ref CP) (.type "ValueError") = some true
def dBoth (K : PySem.W.Frag) (CR : Addr) (i : Nat) (a : Addr) (d : Option Addr) (x : XD) : DE := dAndV (dUn (oIsF K a d x.C (.ref CR)) (dVar i)) (dUn (oIsF K a d x.C (.type "ValueError")) (dVar i))
def suP2 (K : PySem.W.Frag) (CR : Addr) (r i : Nat) : Addr → Option Addr → XD → DS := fun a d x => sSet r (dTup (dCons (dC (.str "place")) (dCons (dUn oRepr (dUn (oFld K a d x.C "path") (dVar i))) (dCons (dBoth K CR i a d x) dNil))))
def suE2 (K : PySem.W.Frag) (CR : Addr) (r i : Nat) : Addr → Option Addr → XD → DS := fun a d x => sSet r (dTup (dCons (dC (.str "expression")) (dCons (dBoth K CR i a d x) dNil)))
def b_told (K : PySem.W.Frag) (CE CP CR : Addr) (t : DSp) : DS := sSeq (sSet 3 (dTup (dCons (dC (.str "none")) dNil))) (sSeq (sTryF K (sSet 3 (dTup (dCons (dC (.str "gave")) (dCons (dCall t [] (dCons (dVar 0) (dCons (dVar 1) (dCons (dVar 2) dNil)))) dNil)))) [⟨.ref CP, some 4, suP2 K CR 3 4⟩, ⟨.ref CE, some 4, suE2 K CR 3 4⟩]) (sRet (dVar 3)))
def b_parted (K : PySem.W.Frag) (CE CP CR : Addr) (t : DSp) : DS := sSeq (sSet 2 (dTup (dCons (dC (.str "none")) dNil))) (sSeq (sTryF K (sSet 2 (dTup (dCons (dC (.str "gave")) (dCons (dCall t [] (dCons (dVar 0) (dCons (dVar 1) dNil))) dNil)))) [⟨.ref CE, some 3, suE2 K CR 2 3⟩, ⟨.ref CP, some 3, suP2 K CR 2 3⟩]) (sRet (dVar 2)))
def twD (p : D) : Tw → D
  | .gave d => .tuple [.str "gave", d]
  | .place => .tuple [.str "place", .str p.shown, .bool true]
  | .expr => .tuple [.str "expression", .bool true]
def okP (p : D) : Prop := okK p = true ∧ p.showable = true ∧ p.shown.length ≤ sizeLine ∧ p.depth ≤ 1000 ∧ sk p.shown = true
theorem way_P {p : D} (h : wayOk p) : okP p := by
  obtain ⟨h1, h2, h3, h4⟩ := way_facts h
  exact ⟨h1, h2, Nat.le_of_lt (Nat.lt_of_le_of_lt h3 (by decide)), by omega, way_sk h⟩
def t_told2 : DSp := p3 fun v p piece Q => fineD v = true ∧ okP p ∧ fineD piece = true ∧ Q (.d (twD p (twM v p piece)))
theorem m_told2 {K : PySem.W.Frag} {CE CP CR : Addr} (F : XF2 K CE CP CR) : Body 5 (b_told K CE CP CR (t_wpart CE CP)) t_told2 := by
  intro as Wd Qd h
  obtain ⟨v, p, piece, rfl, hf, hp, hpf, q⟩ := p3_of h
  clear h
  refine ⟨trivial, nle rfl, trivial, ?_⟩
  refine ⟨trivial, trivial, trivial, hf, hp.1, hpf, ?_⟩
  cases e : twM v p piece with
  | gave d =>
    rw [e] at q
    exact fun _ => ⟨trivial, trivial, nle rfl, trivial, trivial, q⟩
  | place =>
    rw [e] at q
    refine Exists.intro true (And.intro F.pp (And.intro (fun _ a d => ?_) fun z => Bool.noConfusion z))
    refine ⟨rfl, rfl, F.px, F.no, p, rfl, ⟨hp.2.1, hp.2.2.1, hp.2.2.2.1⟩, ?_⟩
    refine ⟨rfl, rfl, F.pc, true, F.pr, ?_⟩
    refine ⟨rfl, rfl, F.pc, true, F.pv, ?_⟩
    exact ⟨trivial, trivial, trivial, nle rfl, trivial, trivial, q⟩
  | expr =>
    rw [e] at q
    refine Exists.intro false (And.intro F.ep (And.intro (fun z => Bool.noConfusion z) fun _ => Exists.intro true (And.intro F.ee (And.intro (fun _ a d => ?_) fun z => Bool.noConfusion z))))
    refine ⟨rfl, rfl, F.ec, true, F.er, ?_⟩
    refine ⟨rfl, rfl, F.ec, true, F.ev, ?_⟩
    exact ⟨trivial, trivial, nle rfl, trivial, trivial, q⟩
def twP (v p : D) : Tw := if fitsM 8 false v = true then (match reachP p v with
    | some x => .gave (frzM x)
    | none => .place) else .expr
def t_parted : DSp := p2 fun v p Q => fineD v = true ∧ okP p ∧ Q (.d (twD p (twP v p)))
theorem m_parted {K : PySem.W.Frag} {CE CP CR : Addr} (F : XF2 K CE CP CR) : Body 4 (b_parted K CE CP CR (t_pa CE CP)) t_parted := by
  intro as Wd Qd h
  obtain ⟨v, p, rfl, hf, hp, q⟩ := p2_of h
  clear h
  refine ⟨trivial, nle rfl, trivial, ?_⟩
  refine ⟨trivial, trivial, hf, hp.1, ?_⟩
  unfold twP at q
  cases e8 : fitsM 8 false v with
  | true =>
    rw [e8, if_pos rfl] at q
    rw [if_pos rfl]
    cases er : reachP p v with
    | some x =>
      rw [er] at q
      exact fun _ => ⟨trivial, trivial, nle rfl, trivial, trivial, q⟩
    | none =>
      rw [er] at q
      refine Exists.intro false (And.intro F.pe (And.intro (fun z => Bool.noConfusion z) fun _ => Exists.intro true (And.intro F.pp (And.intro (fun _ a d => ?_) fun z => Bool.noConfusion z))))
      refine ⟨rfl, rfl, F.px, F.no, p, rfl, ⟨hp.2.1, hp.2.2.1, hp.2.2.2.1⟩, ?_⟩
      refine ⟨rfl, rfl, F.pc, true, F.pr, ?_⟩
      refine ⟨rfl, rfl, F.pc, true, F.pv, ?_⟩
      exact ⟨trivial, trivial, trivial, nle rfl, trivial, trivial, q⟩
  | false =>
    rw [e8, if_neg Bool.false_ne_true] at q
    rw [if_neg Bool.false_ne_true]
    refine Exists.intro true (And.intro F.ee (And.intro (fun _ a d => ?_) fun z => Bool.noConfusion z))
    refine ⟨rfl, rfl, F.ec, true, F.er, ?_⟩
    refine ⟨rfl, rfl, F.ec, true, F.ev, ?_⟩
    exact ⟨trivial, trivial, nle rfl, trivial, trivial, q⟩
/-! _law_due -/
theorem reach_fits : ∀ {es : List D} {v x : D}, (∃ n b, fitsM n b v = true) → reachL es v = some x → ∃ n b, fitsM n b x = true
  | [], _, _, h, e => by cases e; exact h
  | y :: r, v, x, h, e => by
    cases hh : ixD y (partsM v).length with
    | none =>
      have e : (match ixD y (partsM v).length with
        | some k => reachL r ((partsM v).getD k .none)
        | none => none) = some x := e
      rw [hh] at e
      cases e
    | some k =>
      have e : (match ixD y (partsM v).length with
        | some k => reachL r ((partsM v).getD k .none)
        | none => none) = some x := e
      rw [hh] at e
      have e : reachL r ((partsM v).getD k .none) = some x := e
      cases y with
      | int i =>
        have hh : (if 0 ≤ i ∧ i < (((partsM v).length : Nat) : Int) then some i.toNat else none) = some k := hh
        by_cases hi : 0 ≤ i ∧ i < (((partsM v).length : Nat) : Int)
        · rw [if_pos hi] at hh
          cases hh
          have hlt : i.toNat < (partsM v).length := by omega
          have hg : (partsM v).getD i.toNat .none = (partsM v)[i.toNat] := by
            rw [List.getD_eq_getElem?_getD, List.getElem?_eq_getElem hlt] <;> rfl
          rw [hg] at e
          exact reach_fits (part_fits h (List.getElem_mem hlt)) e
        · rw [if_neg hi] at hh
          cases hh
      | _ =>
        have hh : (none : Option Nat) = some k := hh
        cases hh
theorem reachP_some {p v x : D} (h : reachP p v = some x) : isRow p = true ∧ reachL (rowOf p) v = some x := by
  unfold reachP at h
  cases e : isRow p with
  | true =>
    rw [e, if_pos rfl] at h
    exact ⟨rfl, h⟩
  | false =>
    rw [e, if_neg Bool.false_ne_true] at h
    cases h
theorem fits_some_not {x : D} (h : ∃ n b, fitsM n b x = true) : isNone x = false := by
  obtain ⟨n, b, h⟩ := h
  cases n with
  | zero => cases h
  | succ n =>
    obtain ⟨br, w, ls, items, rfl, _⟩ := fits_some h
    cases br <;> rfl
theorem reach_none {p v : D} (hv : ∃ n b, fitsM n b v = true) : isNone ((reachP p v).getD .none) = (reachP p v).isNone := by
  cases e : reachP p v with
  | none => rfl
  | some x => exact fits_some_not (reach_fits hv (reachP_some e).2)
theorem due_is {t : DSp} {Wd : DW} {ρ : Ro} {i : Nat} {v : D} (ht : t = t_fits 8) (h : get ρ i = some (.d v)) (hf : fineD v = true) : Ev (dCall (lo0 t) [] (dCons (dVar i) (dCons (dC (.int 8)) (dCons (dC (.bool false)) dNil)))) Wd ρ (.bool (fitsM 8 false v)) := by
  subst ht
  exact ev_call3 (ev_v h) ev_k ev_k fun Q hQ => ⟨8, false, rfl, Nat.le_refl _, rfl, hf, hQ⟩
def t_due : DSp := p3 fun v p piece Q => fineD v = true ∧ okP p ∧ fineD piece = true ∧ (isRow p = true → ∃ xs, p = .tuple xs) ∧ Q (.d (twD p (twM v p piece)))
theorem m_due : Body 4 (b__law_due (t_fits 8) t_reach (t_frz 32) (t_with 8)) t_due := by
  intro as Wd Qd h
  obtain ⟨v, p, piece, rfl, hf, hp, hpf, htup, q⟩ := p3_of h
  clear h
  unfold twM at q
  have xEx : ∀ {ρ : Ro}, Qd (.d (.tuple [.str "expression", .bool true])) → sRet (dTup (dCons (dC (.str "expression")) (dCons (dC (.bool true)) dNil))) (dE Wd Qd) ρ := fun q => ⟨trivial, trivial, nle rfl, trivial, q⟩
  refine seqIfN (b := !fitsM 8 false v) ?c (fun z => ?_) fun z => ?_
  case c => exact et_not (et_B (due_is rfl (by rfl) hf))
  · rw [not_t z, if_neg Bool.false_ne_true] at q
    exact xEx q
  have e8 := not_f z
  rw [e8, if_pos rfl] at q
  refine seqIfN (b := isNone ((reachP p v).getD .none)) ?c2 (fun z => ?_) fun z => ?_
  case c2 => exact et_B fun Q hq => ev_call2 (t := t_reach) (ev_v (by rfl)) (ev_v (by rfl)) (fun Q hQ => ⟨⟨8, false, e8⟩, hQ⟩) _ hq
  · rw [reach_none ⟨8, false, e8⟩] at z
    rw [Option.isNone_iff_eq_none.mp z] at q
    exact ⟨⟨hp.2.1, hp.2.2.1, hp.2.2.2.1⟩, trivial, trivial, trivial, nle rfl, trivial, q⟩
  rw [reach_none ⟨8, false, e8⟩] at z
  obtain ⟨x, er⟩ : ∃ x, reachP p v = some x := by
    cases e : reachP p v with
    | none => rw [e] at z; cases z
    | some x => exact ⟨x, rfl⟩
  rw [er] at q
  have q : Qd (.d (twD p (if fitsM 8 false piece = true then _ else _))) := q
  obtain ⟨xs, ep⟩ := htup (reachP_some er).1
  obtain ⟨hi1, hi2⟩ := reach_ints (reachP_some er).2
  refine seqIfN (b := !fitsM 8 false piece) ?c3 (fun z => ?_) fun z => ?_
  case c3 => exact et_not (et_B (due_is rfl (by rfl) hpf))
  · rw [not_t z, if_neg Bool.false_ne_true] at q
    exact xEx q
  rw [not_f z, if_pos rfl] at q
  have ew : p = .tuple ((wayI p).map .int) := by
    have h1 : rowOf p = (wayI p).map .int := hi1
    rw [← h1, ep] <;> rfl
  have hg : goodM 8 v = true := ex_good (fits_ex e8)
  have hd : (withM 8 v (wayI p) piece).depth ≤ 32 := by
    have h1 := with_depth (n := 8) (v := v) (piece := piece) (is := wayI p) (.inr hg)
    have h2 := fits_depth e8
    have h3 := fits_depth (not_f z)
    omega
  have hwf : fineD (withM 8 v (wayI p) piece) = true := with_fine (.inr hg) hf hpf
  refine seqSet (d := wholeM v p piece) (ev_call (ev_call3 (ev_v (by rfl)) (ev_v (by rfl)) (ev_v (by rfl)) fun Q hQ => ⟨wayI p, ew, .inr hg, hQ⟩) fun Q hQ => ⟨hd, hwf, hQ⟩) ?_
  refine seqIfN (b := !fitsM 8 false (wholeM v p piece)) ?c4 (fun z => ?_) fun z => ?_
  case c4 => exact et_not (et_B (due_is rfl (by rfl) (whole_fine e8 hf hpf)))
  · rw [not_t z, if_neg Bool.false_ne_true] at q
    exact xEx q
  · rw [not_f z, if_pos rfl] at q
    exact ⟨trivial, trivial, nle rfl, trivial, q⟩
end K

set_option Elab.async false
set_option linter.all false
set_option maxRecDepth 100000
set_option maxHeartbeats 4000000
/-! GP: _law_agrees. -/
namespace K
open PySem PySem.Spec PyProof.Rows L2 DL
def okTw : Tw → Prop
  | .gave d => d.depth ≤ 32 ∧ sameD d = true ∧ fineD d = true
  | _ => True
def t_agrees : DSp := p2 fun told due Q => told = due ∧ (∃ p tw, due = twD p tw ∧ okTw tw ∧ sk p.shown = true) ∧ Q (.d (.bool true))
theorem ev_eqS {Wd : DW} {ρ : Ro} {ta : DE} {a b : Str} {n : Bool} (ha : Ev ta Wd ρ (.str a)) : Ev (dOp (oEq n) ta (dC (.str b))) Wd ρ (.bool (ng n (a == b))) := fun Q q => ha _ q
theorem ev_eqI {Wd : DW} {ρ : Ro} {ta : DE} {a b : Int} {n : Bool} (ha : Ev ta Wd ρ (.int a)) : Ev (dOp (oEq n) ta (dC (.int b))) Wd ρ (.bool (ng n (a == b))) := fun Q q => ha _ q
theorem m_agrees : Body 2 (b__law_agrees (t_same 32)) t_agrees := by
  intro as Wd Qd h
  obtain ⟨told, due, rfl, rfl, ⟨p, tw, rfl, ok, hsk⟩, q⟩ := p2_of h
  clear h
  cases tw with
  | gave d =>
    have hix : ∀ {W' : DW} {ρ : Ro} {i : Nat}, get ρ i = some (.d (.tuple [.str "gave", d])) → Ev (dOp oIx (dVar i) (dC (.int 0))) W' ρ (.str "gave") := fun h => ev_ix (br := false) (xs := [.str "gave", d]) (k := 0) (ev_v h) (by decide) rfl
    have hix1 : ∀ {W' : DW} {ρ : Ro} {i : Nat}, get ρ i = some (.d (.tuple [.str "gave", d])) → Ev (dOp oIx (dVar i) (dC (.int 1))) W' ρ d := fun h => ev_ix (br := false) (xs := [.str "gave", d]) (k := 1) (ev_v h) (by decide) rfl
    refine seqIfN (b := false) ?c (fun e => nomatch e) fun _ => ?_
    case c => exact et_B (ev_eqS (b := "gave") (n := true) (hix (by rfl)))
    refine sRet_ev (d := .bool true) (ρ := [some (.d (.tuple [.str "gave", d])), some (.d (.tuple [.str "gave", d]))]) (ev_and (a := true) (b := true) (ev_eqI (b := 2) (n := false) (ev_lenR (br := false) (xs := [.str "gave", d]) (ev_v (by rfl)))) fun _ => ev_and (a := true) (b := true) (ev_eqS (b := "gave") (n := false) (hix (by rfl))) fun _ => ev_call2 (hix1 (by rfl)) (hix1 (by rfl)) fun Q hQ => ⟨rfl, ok.1, ok.2.1, ok.2.2, hQ⟩) ⟨trivial, q⟩
  | place =>
    refine seqIfN (b := true) ?c (fun _ => ?_) fun e => nomatch e
    case c => exact et_B (ev_eqS (a := "place") (b := "gave") (n := true) (ev_ix (br := false) (xs := [.str "place", .str p.shown, .bool true]) (k := 0) (ev_v (by rfl)) (by decide) rfl))
    have hsh : SeqAt.shaped (.tuple [.str "place", .str p.shown, .bool true]) = true := by
      have h2 : (PyData.strOk ("place" : Str) && (PyData.strOk p.shown && true)) = true := by
        rw [sk_ok hsk, show PyData.strOk ("place" : Str) = true from by decide +kernel] <;> rfl
      show (PyData.canLay0 _ && decide _) = true
      rw [Bool.and_eq_true]
      exact ⟨h2, decide_eq_true (by simp [PyData.depth, PyData.depthAll])⟩
    have heq : PyData.eqv (.tuple [.str "place", .str p.shown, .bool true]) (.tuple [.str "place", .str p.shown, .bool true]) = true := by simp [PyData.eqv, PyData.eqvAll]
    refine ⟨⟨hsh, hsh⟩, trivial, ?_⟩
    show Qd (.d (.bool (ng false (PyData.eqv (.tuple [.str "place", .str p.shown, .bool true]) (.tuple [.str "place", .str p.shown, .bool true])))))
    rw [heq]
    exact q
  | expr =>
    refine seqIfN (b := true) ?c (fun _ => ?_) fun e => nomatch e
    case c => exact et_B (ev_eqS (a := "expression") (b := "gave") (n := true) (ev_ix (br := false) (xs := [.str "expression", .bool true]) (k := 0) (ev_v (by rfl)) (by decide) rfl))
    have hsh : SeqAt.shaped (.tuple [.str "expression", .bool true]) = true := by decide +kernel
    have heq : PyData.eqv (.tuple [.str "expression", .bool true]) (.tuple [.str "expression", .bool true]) = true := by simp [PyData.eqv, PyData.eqvAll]
    refine ⟨⟨hsh, hsh⟩, trivial, ?_⟩
    show Qd (.d (.bool (ng false (PyData.eqv (.tuple [.str "expression", .bool true]) (.tuple [.str "expression", .bool true])))))
    rw [heq]
    exact q
end K

set_option Elab.async false
set_option linter.all false
set_option maxRecDepth 100000
set_option maxHeartbeats 4000000
/-! GR: a part in its place, and the old one back. -/
namespace K
open PySem PySem.Spec PyProof.Rows L2 DL
mutual
theorem frz_idem : ∀ d : D, frzM (frzM d) = frzM d
  | .list xs => by
    show PyData.tuple (frzAll (frzAll xs)) = PyData.tuple (frzAll xs)
    rw [frzs_idem xs]
  | .tuple xs => by
    show PyData.tuple (frzAll (frzAll xs)) = PyData.tuple (frzAll xs)
    rw [frzs_idem xs]
  | .none => rfl
  | .bool _ => rfl
  | .int _ => rfl
  | .str _ => rfl
  | .dict _ => rfl
theorem frzs_idem : ∀ xs : List D, frzAll (frzAll xs) = frzAll xs
  | [] => rfl
  | x :: xs => by
    show frzM (frzM x) :: frzAll (frzAll xs) = frzM x :: frzAll xs
    rw [frz_idem x, frzs_idem xs]
end
theorem wp_len : ∀ {ls : List Lt} {xs ps : List D}, xs.length = ls.length → (wpZ ls xs ps).length = ls.length
  | [], [], _, _ => rfl
  | [], _ :: _, _, h => by cases h
  | _ :: _, [], _, h => by cases h
  | l :: ls, x :: xs, ps, h => by
    have h2 : xs.length = ls.length := by simpa using h
    by_cases he : l = .e
    · subst he
      show (ps.headD .none :: wpZ ls xs (ps.drop 1)).length = _
      rw [List.length_cons, wp_len h2, List.length_cons]
    · cases hr : isRowL l with
      | true =>
        show (if l = .e then _ else if isRowL l = true then PyData.tuple (ps.take (rowOf x).length) :: wpZ ls xs (ps.drop (rowOf x).length) else _).length = _
        rw [if_neg he, if_pos hr, List.length_cons, wp_len h2, List.length_cons]
      | false =>
        rw [wp_leaf he hr, List.length_cons, wp_len h2, List.length_cons]
theorem in_row {l : Lt} {x : D} (hr : isRowL l = true) : innerOf l x = rowOf x := by cases l <;> first | rfl | cases hr
theorem in_leaf {l : Lt} {x : D} (he : l ≠ .e) (hr : isRowL l = false) : innerOf l x = [] := by cases l <;> first | rfl | exact absurd rfl he | cases hr
theorem parts_wp : ∀ {ls : List Lt} {xs ps : List D}, xs.length = ls.length → ps.length = (partsZ ls xs).length → partsZ ls (wpZ ls xs ps) = ps
  | [], [], ps, _, h => by
    have : ps.length = 0 := h
    rw [List.length_eq_zero_iff.mp this] <;> rfl
  | [], _ :: _, _, h, _ => by cases h
  | _ :: _, [], _, h, _ => by cases h
  | l :: ls, x :: xs, ps, hl, h => by
    have h2 : xs.length = ls.length := by simpa using hl
    have hp : partsZ (l :: ls) (x :: xs) = innerOf l x ++ partsZ ls xs := rfl
    rw [hp, List.length_append] at h
    by_cases he : l = .e
    · subst he
      have h : ps.length = 1 + (partsZ ls xs).length := h
      cases ps with
      | nil =>
        rw [List.length_nil] at h
        omega
      | cons p ps =>
        rw [wp_e]
        show p :: partsZ ls (wpZ ls xs ps) = _
        rw [parts_wp h2 (by rw [List.length_cons] at h; omega)]
    · cases hr : isRowL l with
      | true =>
        rw [in_row hr] at h
        have e : ps = ps.take (rowOf x).length ++ ps.drop (rowOf x).length := (List.take_append_drop ..).symm
        have ht : (ps.take (rowOf x).length).length = (rowOf x).length := by
          rw [List.length_take]
          omega
        have hw := wp_row (ls := ls) (xs := xs) (qs := ps.drop (rowOf x).length) hr ht
        rw [← e] at hw
        rw [hw]
        show innerOf l (.tuple (ps.take (rowOf x).length)) ++ partsZ ls (wpZ ls xs (ps.drop (rowOf x).length)) = ps
        rw [in_row hr, parts_wp h2 (by rw [List.length_drop]; omega)]
        exact e.symm
      | false =>
        rw [in_leaf he hr] at h
        rw [wp_leaf he hr]
        show innerOf l x ++ partsZ ls (wpZ ls xs ps) = ps
        rw [in_leaf he hr, parts_wp h2 (by simpa using h)] <;> rfl
theorem wp_wp : ∀ {ls : List Lt} {xs ps qs : List D}, xs.length = ls.length → ps.length = (partsZ ls xs).length → wpZ ls (wpZ ls xs ps) qs = wpZ ls xs qs
  | [], [], _, _, _, _ => rfl
  | [], _ :: _, _, _, h, _ => by cases h
  | _ :: _, [], _, _, h, _ => by cases h
  | l :: ls, x :: xs, ps, qs, hl, h => by
    have h2 : xs.length = ls.length := by simpa using hl
    have hp : partsZ (l :: ls) (x :: xs) = innerOf l x ++ partsZ ls xs := rfl
    rw [hp, List.length_append] at h
    by_cases he : l = .e
    · subst he
      have h : ps.length = 1 + (partsZ ls xs).length := h
      cases ps with
      | nil =>
        rw [List.length_nil] at h
        omega
      | cons p ps =>
        rw [wp_e]
        show qs.headD .none :: wpZ ls (wpZ ls xs ps) (qs.drop 1) = qs.headD .none :: wpZ ls xs (qs.drop 1)
        rw [wp_wp h2 (by rw [List.length_cons] at h; omega)]
    · cases hr : isRowL l with
      | true =>
        rw [in_row hr] at h
        have e : ps = ps.take (rowOf x).length ++ ps.drop (rowOf x).length := (List.take_append_drop ..).symm
        have ht : (ps.take (rowOf x).length).length = (rowOf x).length := by
          rw [List.length_take]
          omega
        have hw := wp_row (ls := ls) (xs := xs) (qs := ps.drop (rowOf x).length) hr ht
        rw [← e] at hw
        rw [hw]
        have un : ∀ (y : D) (ys : List D), wpZ (l :: ls) (y :: ys) qs = .tuple (qs.take (rowOf y).length) :: wpZ ls ys (qs.drop (rowOf y).length) := fun y ys => by
          show (if l = .e then _ else if isRowL l = true then PyData.tuple (qs.take (rowOf y).length) :: wpZ ls ys (qs.drop (rowOf y).length) else _) = _
          rw [if_neg he, if_pos hr]
        rw [un, un, show rowOf (.tuple (ps.take (rowOf x).length)) = ps.take (rowOf x).length from rfl, ht, wp_wp h2 (by rw [List.length_drop]; omega)]
      | false =>
        rw [in_leaf he hr] at h
        rw [wp_leaf he hr, wp_leaf he hr, wp_leaf he hr, wp_wp h2 (by simpa using h)]
def partI : List Int → D → D
  | [], v => v
  | i :: r, v => partI r ((partsM v).getD i.toNat .none)
theorem getD_of {xs : List D} {k : Nat} {p : D} (h : xs[k]? = some p) : xs.getD k .none = p := by
  rw [List.getD_eq_getElem?_getD, h] <;> rfl
theorem reachL_cons {i : Int} {r : List D} {v p : D} (h0 : 0 ≤ i) (hp : (partsM v)[i.toNat]? = some p) : reachL (.int i :: r) v = reachL r p := by
  have hlt := (List.getElem?_eq_some_iff.mp hp).1
  have e : ixD (.int i) (partsM v).length = some i.toNat := by
    show (if 0 ≤ i ∧ i < (((partsM v).length : Nat) : Int) then some i.toNat else none) = _
    rw [if_pos ⟨h0, by omega⟩]
  show (match ixD (.int i) (partsM v).length with
    | some k => reachL r ((partsM v).getD k .none)
    | none => none) = _
  rw [e]
  show reachL r ((partsM v).getD i.toNat .none) = _
  rw [getD_of hp]
theorem reachL_of : ∀ {is : List Int} {v : D}, reachI is v → reachL (is.map .int) v = some (partI is v)
  | [], v, _ => rfl
  | i :: r, v, h => by
    obtain ⟨h0, p, hp, hr⟩ := h
    rw [List.map_cons, reachL_cons h0 hp, reachL_of hr]
    show _ = some (partI r ((partsM v).getD i.toNat .none))
    rw [getD_of hp]
theorem rep_cons {n : Nat} {b br : Bool} {w : Str} {ls : List Lt} {items : List D} {i : Int} {r : List Int} {piece p : D} (hw : shp w = some ls) (hl : items.length = ls.length) (hp : (partsZ ls items)[i.toNat]? = some p) :
    repM (n + 1) (mkRow br (.str w :: items)) (i :: r) piece = .tuple (.str w :: wpZ ls items ((partsZ ls items).set i.toNat (repM n p r piece))) := by
  rw [repM]
  simp only []
  rw [shape_mk hw hl, partsM_mk hw hl]
  rw [getD_of hp]
theorem reach_rep : ∀ {is : List Int} {n : Nat} {b : Bool} {v piece : D}, fitsM n b v = true → reachI is v → reachL (is.map .int) (repM n v is piece) = some piece
  | [], n, _, _, _, _, _ => by rw [rep_nil] <;> rfl
  | i :: r, 0, _, _, _, h, _ => by cases h
  | i :: r, n + 1, b, v, piece, h, hr => by
    obtain ⟨h0, p, hp, hr⟩ := hr
    obtain ⟨br, w, ls, items, rfl, hw, hl, hb, hz⟩ := fits_some h
    rw [partsM_mk hw hl] at hp
    have fp := parts_fit hz p (List.mem_of_getElem? hp)
    have hlt := (List.getElem?_eq_some_iff.mp hp).1
    rw [rep_cons (b := b) hw hl hp, List.map_cons]
    have e : partsM (.tuple (.str w :: wpZ ls items ((partsZ ls items).set i.toNat (repM n p r piece)))) = (partsZ ls items).set i.toNat (repM n p r piece) := by
      have := partsM_mk (br := false) hw (wp_len (ps := (partsZ ls items).set i.toNat (repM n p r piece)) hl)
      rw [parts_wp hl (by rw [List.length_set])] at this
      exact this
    rw [reachL_cons (p := repM n p r piece) h0 (by rw [e]; exact List.getElem?_set_self hlt)]
    exact reach_rep fp hr
theorem frz_self {br : Bool} {w : Str} {items : List D} (h : frzM (mkRow br (.str w :: items)) = mkRow br (.str w :: items)) : br = false ∧ items.map frzM = items := by
  rw [frz_expr] at h
  cases br with
  | true => cases h
  | false =>
    have h : PyData.tuple (.str w :: items.map frzM) = PyData.tuple (.str w :: items) := h
    injection h with h
    injection h with _ h
    exact ⟨rfl, h⟩
theorem rep_back : ∀ {is : List Int} {n : Nat} {b : Bool} {v piece : D}, fitsM n b v = true → frzM v = v → reachI is v → repM n (repM n v is piece) is (partI is v) = v
  | [], n, _, v, _, _, _, _ => rep_nil
  | i :: r, 0, _, _, _, h, _, _ => by cases h
  | i :: r, n + 1, b, v, piece, h, hf, hr => by
    obtain ⟨h0, p, hp, hr⟩ := hr
    have hpm := partsM_frz h
    rw [hf] at hpm
    obtain ⟨br, w, ls, items, rfl, hw, hl, hb, hz⟩ := fits_some h
    obtain ⟨rfl, hi⟩ := frz_self hf
    have epm := partsM_mk (br := false) hw hl
    rw [epm] at hp hpm
    have fp := parts_fit hz p (List.mem_of_getElem? hp)
    have hlt := (List.getElem?_eq_some_iff.mp hp).1
    have pf : frzM p = p := by
      have h1 : ((partsZ ls items).map frzM)[i.toNat]? = some (frzM p) := by rw [List.getElem?_map, hp] <;> rfl
      rw [← hpm, hp] at h1
      injection h1 with h1
      exact h1.symm
    have ih := rep_back (piece := piece) fp pf hr
    have epi : partI (i :: r) (mkRow false (.str w :: items)) = partI r p := by
      show partI r ((partsM (mkRow false (.str w :: items))).getD i.toNat .none) = _
      rw [epm, getD_of hp]
    rw [epi, rep_cons (b := b) hw hl hp]
    have hsl : ((partsZ ls items).set i.toNat (repM n p r piece)).length = (partsZ ls items).length := List.length_set
    have ep : partsZ ls (wpZ ls items ((partsZ ls items).set i.toNat (repM n p r piece))) = (partsZ ls items).set i.toNat (repM n p r piece) := parts_wp hl hsl
    have h2 := rep_cons (n := n) (b := b) (br := false) (i := i) (r := r) (piece := partI r p) (p := repM n p r piece) hw (wp_len (ps := (partsZ ls items).set i.toNat (repM n p r piece)) hl) (by rw [ep]; exact List.getElem?_set_self hlt)
    rw [ep, ih, List.set_set, wp_wp hl hsl] at h2
    have h3 : (partsZ ls items).set i.toNat p = partsZ ls items := by
      have e : (partsZ ls items)[i.toNat] = p := by
        have := List.getElem?_eq_getElem hlt
        rw [hp] at this
        injection this with this
        exact this.symm
      rw [← e]
      exact List.set_getElem_self hlt
    rw [h3] at h2
    have h4 := wp_same hl hz
    rw [hi, ← hpm] at h4
    rw [h4] at h2
    exact h2
end K

set_option Elab.async false
set_option linter.all false
set_option maxRecDepth 100000
set_option maxHeartbeats 4000000
/-! GS: what the law needs of generated expressions. -/
namespace K
open PySem PySem.Spec PyProof.Rows L2 DL
theorem item_mono {f g : D → Bool} (h : ∀ d, f d = true → g d = true) {l : Lt} {x : D} (hx : itemM f l x = true) : itemM g l x = true := by
  cases l with
  | e => exact h x hx
  | l | d | a =>
    obtain ⟨h1, h2, h3⟩ := fit_row rfl hx
    obtain ⟨b, e⟩ := row_of (xs := rowOf x) h1 rfl
    have hh := fun y hy => h y (h3 y hy)
    rw [e]
    exact row_fit rfl h2.1 h2.2 hh
  | _ => exact hx
theorem zip_mono {f g : D → Bool} (h : ∀ d, f d = true → g d = true) : ∀ {ls : List Lt} {xs : List D}, allZ f ls xs = true → allZ g ls xs = true
  | [], _, _ => rfl
  | _ :: _, [], _ => rfl
  | l :: ls, x :: xs, hx => by
    have hx : (itemM f l x && allZ f ls xs) = true := hx
    rw [Bool.and_eq_true] at hx
    show (itemM g l x && allZ g ls xs) = true
    rw [item_mono h hx.1, zip_mono h hx.2] <;> rfl
theorem fits_mono : ∀ {n m : Nat} {b c : Bool} {d : D}, fitsM n b d = true → n ≤ m → (c = true → b = true) → fitsM m c d = true
  | 0, _, _, _, _, h, _, _ => by cases h
  | n + 1, 0, _, _, _, _, h, _ => by omega
  | n + 1, m + 1, b, c, d, h, l, hc => by
    obtain ⟨br, w, ls, items, rfl, hw, hl, hb, hz⟩ := fits_some h
    refine fits_in hw hl ?_ (zip_mono (fun d hd => fits_mono hd (by omega) fun z => ?_) hz)
    · cases c with
      | false => rfl
      | true =>
        rw [hc rfl] at hb
        exact hb
    · cases b with
      | true => rfl
      | false =>
        cases c with
        | true => exact absurd (hc rfl) Bool.false_ne_true
        | false => exact z
theorem sameAll_of : ∀ {xs : List D}, (∀ x ∈ xs, sameD x = true) → sameAll xs = true
  | [], _ => rfl
  | x :: xs, h => by
    rw [sameAll, h x (List.mem_cons_self ..), sameAll_of fun y hy => h y (List.mem_cons_of_mem _ hy)] <;> rfl
theorem same_item {f : D → Bool} (hf : ∀ d, f d = true → sameD (frzM d) = true) {l : Lt} {x : D} (h : itemM f l x = true) : sameD (frzM x) = true := by
  cases l with
  | e => exact hf x h
  | n =>
    obtain ⟨i, rfl, _⟩ := int_R (show isIntR (-999) 999 x = true from h)
    rfl
  | m =>
    obtain ⟨i, rfl, _⟩ := int_R (show isIntR 0 20 x = true from h)
    rfl
  | o =>
    obtain ⟨s, rfl, _⟩ := ops_S h
    rfl
  | c =>
    obtain ⟨s, rfl, _⟩ := tests_S h
    rfl
  | x =>
    obtain ⟨s, rfl, _⟩ := name_S h
    rfl
  | t =>
    obtain ⟨s, rfl, _⟩ := text_S h
    rfl
  | l | d | a =>
    obtain ⟨h1, h2, h3⟩ := fit_row rfl h
    rw [frz_row_of h1]
    refine sameAll_of fun y hy => ?_
    obtain ⟨z, hz, rfl⟩ := List.mem_map.mp hy
    exact hf z (h3 z hz)
theorem same_zip {f : D → Bool} (hf : ∀ d, f d = true → sameD (frzM d) = true) : ∀ {ls : List Lt} {xs : List D}, xs.length = ls.length → allZ f ls xs = true → ∀ y ∈ xs.map frzM, sameD y = true
  | [], [], _, _, y, hy => nomatch hy
  | [], _ :: _, h, _, _, _ => by cases h
  | _ :: _, [], h, _, _, _ => by cases h
  | l :: ls, x :: xs, hl, h, y, hy => by
    have h : (itemM f l x && allZ f ls xs) = true := h
    rw [Bool.and_eq_true] at h
    rw [List.map_cons] at hy
    rcases List.mem_cons.mp hy with rfl | hy
    · exact same_item hf h.1
    · exact same_zip hf (by simpa using hl) h.2 y hy
theorem fits_same : ∀ {n : Nat} {b : Bool} {v : D}, fitsM n b v = true → sameD (frzM v) = true
  | 0, _, _, h => by cases h
  | n + 1, b, v, h => by
    obtain ⟨br, w, ls, items, rfl, hw, hl, hb, hz⟩ := fits_some h
    rw [frz_expr]
    show sameAll (.str w :: items.map frzM) = true
    rw [sameAll, sameAll_of (same_zip (fun d hd => fits_same hd) hl hz)] <;> rfl
theorem fits_okTw {n : Nat} {b : Bool} {v : D} (h : fitsM n b v = true) (hn : n ≤ 8) (hf : fineD v = true) : okTw (.gave (frzM v)) := by
  have h8 : fitsM 8 false v = true := fits_mono h hn fun z => nomatch z
  exact ⟨Nat.le_trans (fits_depth (fits_frz h8)) (by decide), fits_same h, frz_fine v hf⟩
theorem partI_fits : ∀ {is : List Int} {n : Nat} {b : Bool} {v : D}, fitsM n b v = true → reachI is v → ∃ m c, m ≤ n ∧ fitsM m c (partI is v) = true
  | [], n, b, v, h, _ => ⟨n, b, Nat.le_refl _, h⟩
  | i :: r, 0, _, _, h, _ => by cases h
  | i :: r, n + 1, b, v, h, hr => by
    obtain ⟨h0, p, hp, hr⟩ := hr
    obtain ⟨br, w, ls, items, rfl, hw, hl, hb, hz⟩ := fits_some h
    have epm := partsM_mk (br := br) hw hl
    rw [epm] at hp
    obtain ⟨m, c, hm, hf⟩ := partI_fits (parts_fit hz p (List.mem_of_getElem? hp)) hr
    refine ⟨m, c, by omega, ?_⟩
    show fitsM m c (partI r ((partsM (mkRow br (.str w :: items))).getD i.toNat .none)) = true
    rw [epm, getD_of hp]
    exact hf
theorem partI_fine : ∀ {is : List Int} {n : Nat} {b : Bool} {v : D}, fitsM n b v = true → fineD v = true → reachI is v → fineD (partI is v) = true
  | [], _, _, _, _, h, _ => h
  | i :: r, 0, _, _, h, _, _ => by cases h
  | i :: r, n + 1, b, v, h, hf, hr => by
    obtain ⟨h0, p, hp, hr⟩ := hr
    obtain ⟨br, w, ls, items, rfl, hw, hl, hb, hz⟩ := fits_some h
    have epm := partsM_mk (br := br) hw hl
    rw [epm] at hp
    have hrow := fine_row hf
    rw [rowOf_mk] at hrow
    have hpf := fine_parts (ls := ls) (xs := items) (fun x hx => hrow.2 x (List.mem_cons_of_mem _ hx)) p (List.mem_of_getElem? hp)
    show fineD (partI r ((partsM (mkRow br (.str w :: items))).getD i.toNat .none)) = true
    rw [epm, getD_of hp]
    exact partI_fine (parts_fit hz p (List.mem_of_getElem? hp)) hpf hr
end K

set_option Elab.async false
set_option linter.all false
set_option maxRecDepth 100000
set_option maxHeartbeats 4000000
namespace K
open PySem PySem.Spec PyProof.Rows L2 DL
section
variable {P : Program} {w : World} {K : PySem.W.Frag} {mg : Str → Option Value} {base : Heap} {k : Nat}
abbrev N_law2 : List Str := ["script", "bag", "spoils", "tree", "walked", "way", "piece", "before", "due", "old", "spot", "other"]
abbrev P_law2 : List Str := ["script"]
def b_law2_q0 (t__law_draw t__law_expression t__law_walk t__law_with t__law_odd t__law_way t__law_due t__law_is t__law_reach t__law_frozen t__law_agrees t__law_told t__law_parted : DSp) : DS := sIf (dNot (dB (dCall (lo0 t__law_agrees) [] (dCons (dCall (lo0 t__law_told) [] (dCons (dOp oIx (dVar 8) (dC (.int 1))) (dCons (dUn oList (dVar 5)) (dCons (dOp oIx (dVar 9) (dC (.int 1))) (dNil))))) (dCons (dTup (dCons (dC (.str "gave")) (dCons (dCall (lo0 t__law_frozen) [] (dCons (dVar 3) (dNil))) (dNil)))) (dNil)))))) (sRet (dC (.bool false))) (sNext)
def b_law2_15 (t__law_draw t__law_expression t__law_walk t__law_with t__law_odd t__law_way t__law_due t__law_is t__law_reach t__law_frozen t__law_agrees t__law_told t__law_parted : DSp) : DS := sRet (dOp (oEq false) (dLst (dCons (dUn oRepr (dVar 3)) (dCons (dUn oRepr (dVar 5)) (dCons (dUn oRepr (dVar 6)) (dNil))))) (dVar 7))
def b_law2_14 (t__law_draw t__law_expression t__law_walk t__law_with t__law_odd t__law_way t__law_due t__law_is t__law_reach t__law_frozen t__law_agrees t__law_told t__law_parted : DSp) : DS := sSeq (sIf (dB (dOp (oEq false) (dOp oIx (dVar 8) (dC (.int 0))) (dC (.str "gave")))) (sSeq (sIf (dNot (dB (dCall (lo0 t__law_agrees) [] (dCons (dCall (lo0 t__law_parted) [] (dCons (dOp oIx (dVar 8) (dC (.int 1))) (dCons (dUn oList (dVar 5)) (dNil)))) (dCons (dTup (dCons (dC (.str "gave")) (dCons (dCall (lo0 t__law_frozen) [] (dCons (dVar 6) (dNil))) (dNil)))) (dNil)))))) (sRet (dC (.bool false))) (sNext)) (b_law2_q0 t__law_draw t__law_expression t__law_walk t__law_with t__law_odd t__law_way t__law_due t__law_is t__law_reach t__law_frozen t__law_agrees t__law_told t__law_parted)) (sNext)) (b_law2_15 t__law_draw t__law_expression t__law_walk t__law_with t__law_odd t__law_way t__law_due t__law_is t__law_reach t__law_frozen t__law_agrees t__law_told t__law_parted)
def b_law2_13 (t__law_draw t__law_expression t__law_walk t__law_with t__law_odd t__law_way t__law_due t__law_is t__law_reach t__law_frozen t__law_agrees t__law_told t__law_parted : DSp) : DS := sSeq (sIf (dOr (dNot (dB (dCall (lo0 t__law_agrees) [] (dCons (dCall (lo0 t__law_told) [] (dCons (dVar 3) (dCons (dVar 5) (dCons (dVar 6) (dNil))))) (dCons (dVar 8) (dNil)))))) (dNot (dB (dCall (lo0 t__law_agrees) [] (dCons (dCall (lo0 t__law_parted) [] (dCons (dVar 3) (dCons (dVar 5) (dNil)))) (dCons (dVar 9) (dNil))))))) (sRet (dC (.bool false))) (sNext)) (b_law2_14 t__law_draw t__law_expression t__law_walk t__law_with t__law_odd t__law_way t__law_due t__law_is t__law_reach t__law_frozen t__law_agrees t__law_told t__law_parted)
def b_law2_12 (t__law_draw t__law_expression t__law_walk t__law_with t__law_odd t__law_way t__law_due t__law_is t__law_reach t__law_frozen t__law_agrees t__law_told t__law_parted : DSp) : DS := sSeq (sIf (dAnd (dB (dCall (lo0 t__law_is) [] (dCons (dVar 3) (dCons (dC (.int 8)) (dCons (dC (.bool false)) (dNil)))))) (dB (dUn (oIsN true) (dCall (lo0 t__law_reach) [] (dCons (dVar 3) (dCons (dVar 5) (dNil))))))) (sSet 9 (dTup (dCons (dC (.str "gave")) (dCons (dCall (lo0 t__law_frozen) [] (dCons (dCall (lo0 t__law_reach) [] (dCons (dVar 3) (dCons (dVar 5) (dNil)))) (dNil))) (dNil))))) (sNext)) (b_law2_13 t__law_draw t__law_expression t__law_walk t__law_with t__law_odd t__law_way t__law_due t__law_is t__law_reach t__law_frozen t__law_agrees t__law_told t__law_parted)
def b_law2_11 (t__law_draw t__law_expression t__law_walk t__law_with t__law_odd t__law_way t__law_due t__law_is t__law_reach t__law_frozen t__law_agrees t__law_told t__law_parted : DSp) : DS := sSeq (sSet 9 (dCall (lo0 t__law_due) [] (dCons (dVar 3) (dCons (dVar 5) (dCons (dTup (dCons (dC (.str "here")) (dNil))) (dNil)))))) (b_law2_12 t__law_draw t__law_expression t__law_walk t__law_with t__law_odd t__law_way t__law_due t__law_is t__law_reach t__law_frozen t__law_agrees t__law_told t__law_parted)
def b_law2_10 (t__law_draw t__law_expression t__law_walk t__law_with t__law_odd t__law_way t__law_due t__law_is t__law_reach t__law_frozen t__law_agrees t__law_told t__law_parted : DSp) : DS := sSeq (sSet 8 (dCall (lo0 t__law_due) [] (dCons (dVar 3) (dCons (dVar 5) (dCons (dVar 6) (dNil)))))) (b_law2_11 t__law_draw t__law_expression t__law_walk t__law_with t__law_odd t__law_way t__law_due t__law_is t__law_reach t__law_frozen t__law_agrees t__law_told t__law_parted)
def b_law2_9 (t__law_draw t__law_expression t__law_walk t__law_with t__law_odd t__law_way t__law_due t__law_is t__law_reach t__law_frozen t__law_agrees t__law_told t__law_parted : DSp) : DS := sSeq (sSet 7 (dLst (dCons (dUn oRepr (dVar 3)) (dCons (dUn oRepr (dVar 5)) (dCons (dUn oRepr (dVar 6)) (dNil)))))) (b_law2_10 t__law_draw t__law_expression t__law_walk t__law_with t__law_odd t__law_way t__law_due t__law_is t__law_reach t__law_frozen t__law_agrees t__law_told t__law_parted)
def b_law2_8 (t__law_draw t__law_expression t__law_walk t__law_with t__law_odd t__law_way t__law_due t__law_is t__law_reach t__law_frozen t__law_agrees t__law_told t__law_parted : DSp) : DS := sSeq (sIf (dB (dOp (oEq false) (dOp oIx (dVar 2) (dC (.int 2))) (dC (.int 1)))) (sSet 6 (dCall (lo0 t__law_odd) [] (dCons (dVar 1) (dNil)))) (sNext)) (b_law2_9 t__law_draw t__law_expression t__law_walk t__law_with t__law_odd t__law_way t__law_due t__law_is t__law_reach t__law_frozen t__law_agrees t__law_told t__law_parted)
def b_law2_7 (t__law_draw t__law_expression t__law_walk t__law_with t__law_odd t__law_way t__law_due t__law_is t__law_reach t__law_frozen t__law_agrees t__law_told t__law_parted : DSp) : DS := sSeq (sSet 6 (dCallR (lo0 t__law_expression) (dVar 1) (dOp oAdd (dC (.int 1)) (dCall (lo0 t__law_draw) [] (dCons (dVar 1) (dCons (dC (.int 8)) (dNil))))) (dOp oAdd (dC (.int 1)) (dCall (lo0 t__law_draw) [] (dCons (dVar 1) (dCons (dC (.int 8)) (dNil))))) (dC (.int 2)))) (b_law2_8 t__law_draw t__law_expression t__law_walk t__law_with t__law_odd t__law_way t__law_due t__law_is t__law_reach t__law_frozen t__law_agrees t__law_told t__law_parted)
def b_law2_6 (t__law_draw t__law_expression t__law_walk t__law_with t__law_odd t__law_way t__law_due t__law_is t__law_reach t__law_frozen t__law_agrees t__law_told t__law_parted : DSp) : DS := sSeq (sIf (dB (dOp (oEq false) (dOp oIx (dVar 2) (dC (.int 1))) (dC (.int 1)))) (sSet 5 (dCall (lo0 t__law_way) [] (dCons (dVar 1) (dCons (dVar 5) (dNil))))) (sNext)) (b_law2_7 t__law_draw t__law_expression t__law_walk t__law_with t__law_odd t__law_way t__law_due t__law_is t__law_reach t__law_frozen t__law_agrees t__law_told t__law_parted)
def b_law2_5 (t__law_draw t__law_expression t__law_walk t__law_with t__law_odd t__law_way t__law_due t__law_is t__law_reach t__law_frozen t__law_agrees t__law_told t__law_parted : DSp) : DS := sSeq (sIf (dB (dOp (oEq false) (dOp oIx (dVar 2) (dC (.int 0))) (dC (.int 1)))) (sSet 3 (dCall (lo0 t__law_with) [] (dCons (dVar 3) (dCons (dOp oIx (dOp oIx (dVar 4) (dOp oMod (dUn oInt (dVar 11)) (dUn oLen (dVar 4)))) (dC (.int 0))) (dCons (dCall (lo0 t__law_odd) [] (dCons (dVar 1) (dNil))) (dNil)))))) (sNext)) (b_law2_6 t__law_draw t__law_expression t__law_walk t__law_with t__law_odd t__law_way t__law_due t__law_is t__law_reach t__law_frozen t__law_agrees t__law_told t__law_parted)
def b_law2_4 (t__law_draw t__law_expression t__law_walk t__law_with t__law_odd t__law_way t__law_due t__law_is t__law_reach t__law_frozen t__law_agrees t__law_told t__law_parted : DSp) : DS := sSeq (sSet 5 (dOp oIx (dOp oIx (dVar 4) (dOp oMod (dUn oInt (dVar 10)) (dUn oLen (dVar 4)))) (dC (.int 0)))) (b_law2_5 t__law_draw t__law_expression t__law_walk t__law_with t__law_odd t__law_way t__law_due t__law_is t__law_reach t__law_frozen t__law_agrees t__law_told t__law_parted)
def b_law2_3 (t__law_draw t__law_expression t__law_walk t__law_with t__law_odd t__law_way t__law_due t__law_is t__law_reach t__law_frozen t__law_agrees t__law_told t__law_parted : DSp) : DS := sSeq (sSet 4 (dCall (lo0 t__law_walk) [] (dCons (dVar 3) (dCons (dTup (dNil)) (dNil))))) (b_law2_4 t__law_draw t__law_expression t__law_walk t__law_with t__law_odd t__law_way t__law_due t__law_is t__law_reach t__law_frozen t__law_agrees t__law_told t__law_parted)
def b_law2_2 (t__law_draw t__law_expression t__law_walk t__law_with t__law_odd t__law_way t__law_due t__law_is t__law_reach t__law_frozen t__law_agrees t__law_told t__law_parted : DSp) : DS := sSeq (sSet 3 (dCallR (lo0 t__law_expression) (dVar 1) (dOp oAdd (dC (.int 1)) (dCall (lo0 t__law_draw) [] (dCons (dVar 1) (dCons (dC (.int 10)) (dNil))))) (dOp oAdd (dC (.int 1)) (dCall (lo0 t__law_draw) [] (dCons (dVar 1) (dCons (dC (.int 8)) (dNil))))) (dC (.int 0)))) (b_law2_3 t__law_draw t__law_expression t__law_walk t__law_with t__law_odd t__law_way t__law_due t__law_is t__law_reach t__law_frozen t__law_agrees t__law_told t__law_parted)
def b_law2_1 (t__law_draw t__law_expression t__law_walk t__law_with t__law_odd t__law_way t__law_due t__law_is t__law_reach t__law_frozen t__law_agrees t__law_told t__law_parted : DSp) : DS := sSeq (sPar 10 11 (dCons (dCall (lo0 t__law_draw) [] (dCons (dVar 1) (dCons (dC (.int 60)) (dNil)))) (dCons (dCall (lo0 t__law_draw) [] (dCons (dVar 1) (dCons (dC (.int 60)) (dNil)))) (dNil)))) (b_law2_2 t__law_draw t__law_expression t__law_walk t__law_with t__law_odd t__law_way t__law_due t__law_is t__law_reach t__law_frozen t__law_agrees t__law_told t__law_parted)
def b_law2 (t__law_draw t__law_expression t__law_walk t__law_with t__law_odd t__law_way t__law_due t__law_is t__law_reach t__law_frozen t__law_agrees t__law_told t__law_parted : DSp) : DS := sSeq (sSet 2 (dLst (dCons (dCall (lo0 t__law_draw) [] (dCons (dVar 1) (dCons (dC (.int 4)) (dNil)))) (dCons (dCall (lo0 t__law_draw) [] (dCons (dVar 1) (dCons (dC (.int 3)) (dNil)))) (dCons (dCall (lo0 t__law_draw) [] (dCons (dVar 1) (dCons (dC (.int 3)) (dNil)))) (dNil)))))) (b_law2_1 t__law_draw t__law_expression t__law_walk t__law_with t__law_odd t__law_way t__law_due t__law_is t__law_reach t__law_frozen t__law_agrees t__law_told t__law_parted)
abbrev s_law2 : Stmt := top 64
theorem sc_law2 : FnScope N_law2 P_law2 (defScope s_law2) := ⟨rfl, rfl, rfl, by decide +kernel, rfl, by decide +kernel, by decide +kernel⟩
theorem d_law2 (T : Tx mg K w) {t__law_draw : DSp} {k__law_draw : Nat} (c__law_draw : CalD P w K mg base k__law_draw "_law_draw" (lo0 t__law_draw) []) {t__law_expression : DSp} {k__law_expression : Nat} (c__law_expression : CalD P w K mg base k__law_expression "_law_expression" (lo0 t__law_expression) []) {t__law_walk : DSp} {k__law_walk : Nat} (c__law_walk : CalD P w K mg base k__law_walk "_law_walk" (lo0 t__law_walk) []) {t__law_with : DSp} {k__law_with : Nat} (c__law_with : CalD P w K mg base k__law_with "_law_with" (lo0 t__law_with) []) {t__law_odd : DSp} {k__law_odd : Nat} (c__law_odd : CalD P w K mg base k__law_odd "_law_odd" (lo0 t__law_odd) []) {t__law_way : DSp} {k__law_way : Nat} (c__law_way : CalD P w K mg base k__law_way "_law_way" (lo0 t__law_way) []) {t__law_due : DSp} {k__law_due : Nat} (c__law_due : CalG P w K mg base k__law_due "_law_due" t__law_due) {t__law_is : DSp} {k__law_is : Nat} (c__law_is : CalD P w K mg base k__law_is "_law_is" (lo0 t__law_is) []) {t__law_reach : DSp} {k__law_reach : Nat} (c__law_reach : CalD P w K mg base k__law_reach "_law_reach" (lo0 t__law_reach) []) {t__law_frozen : DSp} {k__law_frozen : Nat} (c__law_frozen : CalD P w K mg base k__law_frozen "_law_frozen" (lo0 t__law_frozen) []) {t__law_agrees : DSp} {k__law_agrees : Nat} (c__law_agrees : CalD P w K mg base k__law_agrees "_law_agrees" (lo0 t__law_agrees) []) {t__law_told : DSp} {k__law_told : Nat} (c__law_told : CalG P w K mg base k__law_told "_law_told" t__law_told) {t__law_parted : DSp} {k__law_parted : Nat} (c__law_parted : CalG P w K mg base k__law_parted "_law_parted" t__law_parted) (l__law_draw : k__law_draw ≤ k) (l__law_expression : k__law_expression ≤ k) (l__law_walk : k__law_walk ≤ k) (l__law_with : k__law_with ≤ k) (l__law_odd : k__law_odd ≤ k) (l__law_way : k__law_way ≤ k) (l__law_due : k__law_due ≤ k) (l__law_is : k__law_is ≤ k) (l__law_reach : k__law_reach ≤ k) (l__law_frozen : k__law_frozen ≤ k) (l__law_agrees : k__law_agrees ≤ k) (l__law_told : k__law_told ≤ k) (l__law_parted : k__law_parted ≤ k) (hrb : base.get? sysModules ≠ none) (f : Addr) (cdv : Value) (outer : List Env) (s : Shared) (H : Hp) (E : XK) (hr : Room k (callerA.deeper (envOfC "law" (defScope s_law2) s.heap.objs.size f cdv))) :
    ∃ W : WX, PSs (cxOf CX0 P w K mg base N_law2 "law" (defScope s_law2) f cdv callerA outer s H E).nox ((defBody s_law2).drop 1) (lS K W (b_law2 t__law_draw t__law_expression t__law_walk t__law_with t__law_odd t__law_way t__law_due t__law_is t__law_reach t__law_frozen t__law_agrees t__law_told t__law_parted)) :=
  have hru : 7 + 1001 < cLine := by decide
  have S := sc_law2
  ⟨W0, dss_cons (ds_set (i := 2) S.nd rfl (by first | exact .inl rfl | exact .inr rfl) (de_lst (da_cons (de_c c__law_draw hr l__law_draw (by rfl) (da_cons (dv 1) (da_cons (de_int) (da_nil)))) (da_cons (de_c c__law_draw hr l__law_draw (by rfl) (da_cons (dv 1) (da_cons (de_int) (da_nil)))) (da_cons (de_c c__law_draw hr l__law_draw (by rfl) (da_cons (dv 1) (da_cons (de_int) (da_nil)))) (da_nil)))))) (
    dss_cons (ds_par (i := 10) (j := 11) rfl S.nd rfl rfl (by decide) rfl rfl (da_cons (de_c c__law_draw hr l__law_draw (by rfl) (da_cons (dv 1) (da_cons (de_int) (da_nil)))) (da_cons (de_c c__law_draw hr l__law_draw (by rfl) (da_cons (dv 1) (da_cons (de_int) (da_nil)))) (da_nil))) rfl) (
    dss_cons (ds_set (i := 3) S.nd rfl (by first | exact .inl rfl | exact .inr rfl) (de_callR c__law_expression hr l__law_expression (by rfl) (dv 1) (de_add (de_int) (de_c c__law_draw hr l__law_draw (by rfl) (da_cons (dv 1) (da_cons (de_int) (da_nil))))) (de_add (de_int) (de_c c__law_draw hr l__law_draw (by rfl) (da_cons (dv 1) (da_cons (de_int) (da_nil))))) (de_int))) (
    dss_cons (ds_set (i := 4) S.nd rfl (by first | exact .inl rfl | exact .inr rfl) (de_c c__law_walk hr l__law_walk (by rfl) (da_cons (dv 3) (da_cons (de_tup (da_nil)) (da_nil))))) (
    dss_cons (ds_set (i := 5) S.nd rfl (by first | exact .inl rfl | exact .inr rfl) (de_ix (de_ix (dv 4) (de_mod (de_intC (by rfl) T.n_int (dv 10)) (de_len (by rfl) T.n_len (dv 4)))) (de_int))) (
    dss_cons (ds_if (dt_eq hr.units (de_ix (dv 2) (de_int)) (de_int)) (dss_one (ds_set (i := 3) S.nd rfl (by first | exact .inl rfl | exact .inr rfl) (de_c c__law_with hr l__law_with (by rfl) (da_cons (dv 3) (da_cons (de_ix (de_ix (dv 4) (de_mod (de_intC (by rfl) T.n_int (dv 11)) (de_len (by rfl) T.n_len (dv 4)))) (de_int)) (da_cons (de_c c__law_odd hr l__law_odd (by rfl) (da_cons (dv 1) (da_nil))) (da_nil))))))) (dss_nil)) (
    dss_cons (ds_if (dt_eq hr.units (de_ix (dv 2) (de_int)) (de_int)) (dss_one (ds_set (i := 5) S.nd rfl (by first | exact .inl rfl | exact .inr rfl) (de_c c__law_way hr l__law_way (by rfl) (da_cons (dv 1) (da_cons (dv 5) (da_nil)))))) (dss_nil)) (
    dss_cons (ds_set (i := 6) S.nd rfl (by first | exact .inl rfl | exact .inr rfl) (de_callR c__law_expression hr l__law_expression (by rfl) (dv 1) (de_add (de_int) (de_c c__law_draw hr l__law_draw (by rfl) (da_cons (dv 1) (da_cons (de_int) (da_nil))))) (de_add (de_int) (de_c c__law_draw hr l__law_draw (by rfl) (da_cons (dv 1) (da_cons (de_int) (da_nil))))) (de_int))) (
    dss_cons (ds_if (dt_eq hr.units (de_ix (dv 2) (de_int)) (de_int)) (dss_one (ds_set (i := 6) S.nd rfl (by first | exact .inl rfl | exact .inr rfl) (de_c c__law_odd hr l__law_odd (by rfl) (da_cons (dv 1) (da_nil))))) (dss_nil)) (
    dss_cons (ds_set (i := 7) S.nd rfl (by first | exact .inl rfl | exact .inr rfl) (de_lst (da_cons (de_repr rfl hru hrb (by rfl) T.n_repr (dv 3)) (da_cons (de_repr rfl hru hrb (by rfl) T.n_repr (dv 5)) (da_cons (de_repr rfl hru hrb (by rfl) T.n_repr (dv 6)) (da_nil)))))) (
    dss_cons (ds_set (i := 8) S.nd rfl (by first | exact .inl rfl | exact .inr rfl) (de_cg c__law_due rfl hr l__law_due (by rfl) (da_cons (dv 3) (da_cons (dv 5) (da_cons (dv 6) (da_nil)))))) (
    dss_cons (ds_set (i := 9) S.nd rfl (by first | exact .inl rfl | exact .inr rfl) (de_cg c__law_due rfl hr l__law_due (by rfl) (da_cons (dv 3) (da_cons (dv 5) (da_cons (de_tup (da_cons (de_str) (da_nil))) (da_nil)))))) (
    dss_cons (ds_if (PW.pt (dw_and (dt_val (de_c c__law_is hr l__law_is (by rfl) (da_cons (dv 3) (da_cons (de_int) (da_cons (de_bl) (da_nil)))))) (dw_and1 (dt_notN (de_c c__law_reach hr l__law_reach (by rfl) (da_cons (dv 3) (da_cons (dv 5) (da_nil)))))))) (dss_one (ds_set (i := 9) S.nd rfl (by first | exact .inl rfl | exact .inr rfl) (de_tup (da_cons (de_str) (da_cons (de_c c__law_frozen hr l__law_frozen (by rfl) (da_cons (de_c c__law_reach hr l__law_reach (by rfl) (da_cons (dv 3) (da_cons (dv 5) (da_nil)))) (da_nil))) (da_nil)))))) (dss_nil)) (
    dss_cons (ds_if (PW.pt (dw_or (dt_not (dt_val (de_c c__law_agrees hr l__law_agrees (by rfl) (da_cons (de_cg c__law_told rfl hr l__law_told (by rfl) (da_cons (dv 3) (da_cons (dv 5) (da_cons (dv 6) (da_nil))))) (da_cons (dv 8) (da_nil)))))) (dw_or1 (dt_not (dt_val (de_c c__law_agrees hr l__law_agrees (by rfl) (da_cons (de_cg c__law_parted rfl hr l__law_parted (by rfl) (da_cons (dv 3) (da_cons (dv 5) (da_nil)))) (da_cons (dv 9) (da_nil))))))))) (dss_one (ds_ret (de_bl))) (dss_nil)) (
    dss_cons (ds_if (dt_eq hr.units (de_ix (dv 8) (de_int)) (de_str)) (dss_cons (ds_if (dt_not (dt_val (de_c c__law_agrees hr l__law_agrees (by rfl) (da_cons (de_cg c__law_parted rfl hr l__law_parted (by rfl) (da_cons (de_ix (dv 8) (de_int)) (da_cons (de_listC (by rfl) T.n_list (dv 5)) (da_nil)))) (da_cons (de_tup (da_cons (de_str) (da_cons (de_c c__law_frozen hr l__law_frozen (by rfl) (da_cons (dv 6) (da_nil))) (da_nil)))) (da_nil)))))) (dss_one (ds_ret (de_bl))) (dss_nil)) (
    dss_one (ds_if (dt_not (dt_val (de_c c__law_agrees hr l__law_agrees (by rfl) (da_cons (de_cg c__law_told rfl hr l__law_told (by rfl) (da_cons (de_ix (dv 8) (de_int)) (da_cons (de_listC (by rfl) T.n_list (dv 5)) (da_cons (de_ix (dv 9) (de_int)) (da_nil))))) (da_cons (de_tup (da_cons (de_str) (da_cons (de_c c__law_frozen hr l__law_frozen (by rfl) (da_cons (dv 3) (da_nil))) (da_nil)))) (da_nil)))))) (dss_one (ds_ret (de_bl))) (dss_nil)))) (dss_nil)) (
    dss_one (ds_ret (de_eq hr.units (de_lst (da_cons (de_repr rfl hru hrb (by rfl) T.n_repr (dv 3)) (da_cons (de_repr rfl hru hrb (by rfl) T.n_repr (dv 5)) (da_cons (de_repr rfl hru hrb (by rfl) T.n_repr (dv 6)) (da_nil))))) (dv 7))))))))))))))))))⟩
end
end K

set_option Elab.async false
set_option linter.all false
set_option maxRecDepth 100000
set_option maxHeartbeats 4000000
/-! GU: law k02. -/
namespace K
open PySem PySem.Spec PyProof.Rows L2 DL
theorem wayT_list {p : D} (h : wayT p) : wayOk (.list (rowOf p)) := by
  obtain ⟨xs, rfl, h1, h2⟩ := h
  exact .inl ⟨true, xs, rfl, h1, h2⟩
/-- a drawn value: the tree, the piece -/
structure Dv (d : D) : Prop where
  f : fineD d = true
  l : d.shown.length ≤ sizeLine
  t : d.depth ≤ 1000
theorem Dv.s {d : D} (h : Dv d) : d.showable = true := showable_of h.f
theorem frz_gave {v : D} (h8 : fitsM 8 false v = true) (hf : fineD v = true) : okTw (.gave (frzM v)) := fits_okTw h8 (Nat.le_refl _) hf
theorem twM_ok {v p piece : D} (hf : fineD v = true) (hpf : fineD piece = true) : okTw (twM v p piece) := by
  unfold twM
  cases e8 : fitsM 8 false v with
  | false => rw [if_neg Bool.false_ne_true]; trivial
  | true =>
    rw [if_pos rfl]
    cases reachP p v with
    | none => trivial
    | some x =>
      show okTw (if fitsM 8 false piece = true then _ else _)
      cases fitsM 8 false piece with
      | false => rw [if_neg Bool.false_ne_true]; trivial
      | true =>
        rw [if_pos rfl]
        cases ew : fitsM 8 false (wholeM v p piece) with
        | false => rw [if_neg Bool.false_ne_true]; trivial
        | true =>
          rw [if_pos rfl]
          have h := frz_gave ew (whole_fine e8 hf hpf)
          rw [show frzM (wholeM v p piece) = wholeM v p piece from frz_idem _] at h
          exact h
theorem reachP_part {p v x : D} (h : reachP p v = some x) : reachI (wayI p) v ∧ rowOf p = (wayI p).map .int ∧ x = partI (wayI p) v := by
  have h1 := reachP_some h
  have h2 := reach_ints h1.2
  refine ⟨h2.2, h2.1, ?_⟩
  have h3 := reachL_of h2.2
  have h4 := h1.2
  rw [h2.1] at h4
  have e : (rowOf p).map intD = wayI p := rfl
  rw [e] at h4 h3
  rw [h3] at h4
  injection h4 with h4
  exact h4.symm
theorem twP_ok {v p : D} (hf : fineD v = true) : okTw (twP v p) := by
  unfold twP
  cases e8 : fitsM 8 false v with
  | false => rw [if_neg Bool.false_ne_true]; trivial
  | true =>
    rw [if_pos rfl]
    cases er : reachP p v with
    | none => trivial
    | some x =>
      obtain ⟨h1, h2, rfl⟩ := reachP_part er
      obtain ⟨m, c, hm, hx⟩ := partI_fits e8 h1
      exact fits_okTw hx hm (partI_fine e8 hf h1)
/-- old, as the law has it -/
theorem old_is {v p here : D} (h : ¬ (fitsM 8 false v = true ∧ ∃ x, reachP p v = some x)) : twM v p here = twP v p := by
  unfold twM twP
  cases e8 : fitsM 8 false v with
  | false => rw [if_neg Bool.false_ne_true, if_neg Bool.false_ne_true]
  | true =>
    rw [if_pos rfl, if_pos rfl]
    cases er : reachP p v with
    | none => rfl
    | some x => exact absurd ⟨e8, x, er⟩ h
theorem partI_frz : ∀ {is : List Int} {n : Nat} {b : Bool} {v : D}, fitsM n b v = true → reachI is v → frzM (partI is v) = partI is (frzM v)
  | [], _, _, _, _, _ => rfl
  | i :: r, 0, _, _, h, _ => by cases h
  | i :: r, n + 1, b, v, h, hr => by
    obtain ⟨h0, p, hp, hr⟩ := hr
    have hpm := partsM_frz h
    obtain ⟨m, c, hpf⟩ := part_fits ⟨_, _, h⟩ (List.mem_of_getElem? hp)
    show frzM (partI r ((partsM v).getD i.toNat .none)) = partI r ((partsM (frzM v)).getD i.toNat .none)
    rw [hpm, getD_of hp, getD_of (p := frzM p) (by rw [List.getElem?_map, hp] <;> rfl)]
    exact partI_frz hpf hr
/-- what a gave means -/
theorem gave_is {v p piece d : D} (h : twM v p piece = .gave d) : fitsM 8 false v = true ∧ (∃ x, reachP p v = some x) ∧ fitsM 8 false piece = true ∧ d = wholeM v p piece ∧ fitsM 8 false (wholeM v p piece) = true := by
  unfold twM at h
  cases e8 : fitsM 8 false v with
  | false => rw [e8, if_neg Bool.false_ne_true] at h; cases h
  | true =>
    rw [e8, if_pos rfl] at h
    cases er : reachP p v with
    | none => rw [er] at h; cases h
    | some x =>
      rw [er] at h
      have h : (if fitsM 8 false piece = true then (if fitsM 8 false (wholeM v p piece) = true then Tw.gave (wholeM v p piece) else .expr) else .expr) = .gave d := h
      cases ep : fitsM 8 false piece with
      | false => rw [ep, if_neg Bool.false_ne_true] at h; cases h
      | true =>
        rw [ep, if_pos rfl] at h
        cases ew : fitsM 8 false (wholeM v p piece) with
        | false => rw [ew, if_neg Bool.false_ne_true] at h; cases h
        | true =>
          rw [ew, if_pos rfl] at h
          injection h with h
          exact ⟨rfl, ⟨x, rfl⟩, rfl, h.symm, rfl⟩
theorem whole_rep {v p piece : D} (e8 : fitsM 8 false v = true) (hr : reachI (wayI p) v) : wholeM v p piece = repM 8 (frzM v) (wayI p) (frzM piece) := (rep_frz e8 hr).symm
theorem way_list {p : D} : wayI (.list (rowOf p)) = wayI p := rfl
/-- the part is at the path -/
theorem at_path {v p piece x : D} (e8 : fitsM 8 false v = true) (er : reachP p v = some x) (ew : fitsM 8 false (wholeM v p piece) = true) : twP (wholeM v p piece) (.list (rowOf p)) = .gave (frzM piece) := by
  obtain ⟨h1, h2, _⟩ := reachP_part er
  have hrep := reach_rep (piece := frzM piece) (fits_frz e8) (reach_frz e8 h1)
  rw [← whole_rep e8 h1, ← h2] at hrep
  have e : reachP (.list (rowOf p)) (wholeM v p piece) = some (frzM piece) := hrep
  unfold twP
  rw [ew, if_pos rfl, e]
  show Tw.gave (frzM (frzM piece)) = _
  rw [frz_idem]
/-- the old part there again -/
theorem back_again {v p piece x : D} (e8 : fitsM 8 false v = true) (er : reachP p v = some x) (ew : fitsM 8 false (wholeM v p piece) = true) : twM (wholeM v p piece) (.list (rowOf p)) (frzM x) = .gave (frzM v) := by
  obtain ⟨h1, h2, rfl⟩ := reachP_part er
  have hf8 := fits_frz e8
  have hrf := reach_frz e8 h1
  have hrep := reach_rep (piece := frzM piece) hf8 hrf
  rw [← whole_rep e8 h1] at hrep
  have hri := (reach_ints hrep).2
  have hmap : ((wayI p).map PyData.int).map intD = wayI p := by
    rw [List.map_map]
    exact List.map_id' _
  rw [hmap] at hri
  have hrep2 : reachP (.list (rowOf p)) (wholeM v p piece) = some (frzM piece) := by
    rw [← h2] at hrep
    exact hrep
  have hpart : frzM (partI (wayI p) v) = partI (wayI p) (frzM v) := partI_frz e8 h1
  have hw : wholeM (wholeM v p piece) (.list (rowOf p)) (frzM (partI (wayI p) v)) = frzM v := by
    rw [whole_rep ew (by rw [way_list]; exact hri), way_list, frz_idem]
    rw [show frzM (wholeM v p piece) = wholeM v p piece from frz_idem _, whole_rep e8 h1, hpart]
    exact rep_back hf8 (frz_idem v) hrf
  obtain ⟨m, c, hm, hx⟩ := partI_fits e8 h1
  have hx8 : fitsM 8 false (frzM (partI (wayI p) v)) = true := fits_frz (fits_mono hx hm fun z => nomatch z)
  unfold twM
  rw [ew, if_pos rfl, hrep2]
  show (if fitsM 8 false (frzM (partI (wayI p) v)) = true then _ else _) = _
  rw [hx8, if_pos rfl, hw, hf8, if_pos rfl]
abbrev LW2 (D : DEnds) (ρ : Ro) : Prop := b_law2 t_draw (t_expr 8) (t_walk 9) (t_with 9) t_odd t_way t_due (t_fits 8) t_reach (t_frz 32) t_agrees t_told2 t_parted D ρ
theorem ev_agrees {Wd : DW} {ρ : Ro} {ta tb : DE} {p : D} {tw : Tw} (ha : Ev ta Wd ρ (twD p tw)) (hb : Ev tb Wd ρ (twD p tw)) (ok : okTw tw) (hs : sk p.shown = true) : Ev (dCall (lo0 t_agrees) [] (dCons ta (dCons tb dNil))) Wd ρ (.bool true) :=
  ev_call2 ha hb fun Q hQ => ⟨rfl, ⟨p, tw, rfl, ok, hs⟩, hQ⟩
theorem ev_gave {Wd : DW} {ρ : Ro} {te : DE} {d : D} (p : D) (h : Ev te Wd ρ d) : Ev (dTup (dCons (dC (.str "gave")) (dCons te dNil))) Wd ρ (twD p (.gave d)) := fun Q q => h _ ⟨trivial, trivial, nle rfl, q⟩
theorem ev_frz {Wd : DW} {ρ : Ro} {te : DE} {d : D} (h : Ev te Wd ρ d) (hf : fineD d = true) (hd : d.depth ≤ 32) : Ev (dCall (lo0 (t_frz 32)) [] (dCons te dNil)) Wd ρ (frzM d) := ev_call h fun Q hQ => ⟨hd, hf, hQ⟩
theorem ev_list {Wd : DW} {ρ : Ro} {i : Nat} {p : D} (h : get ρ i = some (.d p)) (hp : ∃ xs, p = .tuple xs) : Ev (dUn oList (dVar i)) Wd ρ (.list (rowOf p)) := by
  obtain ⟨xs, rfl⟩ := hp
  exact fun Q q => ev_v (Wd := Wd) h _ q
/-- the last row: nothing was changed -/
theorem m_law2_end {D : DEnds} {v p piece : DL.D} {x2 x4 x8 x9 x10 x11 : Option DV} (hv : Dv v) (hp : okP p) (hpc : Dv piece) (q : D.rt (.d (.bool true))) :
    b_law2_15 t_draw (t_expr 8) (t_walk 9) (t_with 9) t_odd t_way t_due (t_fits 8) t_reach (t_frz 32) t_agrees t_told2 t_parted D [none, some .bag, x2, some (.d v), x4, some (.d p), some (.d piece), some (.d (.list [.str v.shown, .str p.shown, .str piece.shown])), x8, x9, x10, x11] := by
  have hsh : SeqAt.shaped (.list [.str v.shown, .str p.shown, .str piece.shown]) = true := by
    have h2 : (PyData.strOk v.shown && (PyData.strOk p.shown && (PyData.strOk piece.shown && true))) = true := by
      rw [sk_ok (sk_shown hv.f), sk_ok hp.2.2.2.2, sk_ok (sk_shown hpc.f)] <;> rfl
    show (PyData.canLay0 _ && decide _) = true
    rw [Bool.and_eq_true]
    exact ⟨h2, decide_eq_true (by simp [PyData.depth, PyData.depthAll])⟩
  have heq : PyData.eqv (.list [.str v.shown, .str p.shown, .str piece.shown]) (.list [.str v.shown, .str p.shown, .str piece.shown]) = true := by simp [PyData.eqv, PyData.eqvAll]
  refine ⟨⟨hv.s, hv.l, hv.t⟩, ⟨hp.2.1, hp.2.2.1, hp.2.2.2.1⟩, ⟨hpc.s, hpc.l, hpc.t⟩, trivial, trivial, trivial, nle rfl, ⟨hsh, hsh⟩, ?_⟩
  rw [heq]
  exact q
end K

set_option Elab.async false
set_option linter.all false
set_option maxRecDepth 100000
set_option maxHeartbeats 4000000
/-! GV: law k02, its rows. -/
namespace K
open PySem PySem.Spec PyProof.Rows L2 DL
theorem ifB' {c : DT} {st u : DS} {E : DEnds} {ρ : Ro} {b : Bool} (h : EvT c E.ex ρ b) (h1 : b = true → st E ρ) (h2 : b = false → u E ρ) : sIf c st u E ρ := h _ (ifB h1 h2)
theorem ev_isN {Wd : DW} {ρ : Ro} {te : DE} {d : D} {n : Bool} (h : Ev te Wd ρ d) : Ev (dUn (oIsN n) te) Wd ρ (.bool (ng n (isNone d))) := fun Q q => h _ q
theorem ev_twD0 {Wd : DW} {ρ : Ro} {i : Nat} {p : D} {tw : Tw} (h : get ρ i = some (.d (twD p tw))) : Ev (dOp oIx (dVar i) (dC (.int 0))) Wd ρ (match tw with | .gave _ => .str "gave" | .place => .str "place" | .expr => .str "expression") := by
  cases tw with
  | gave d => exact ev_ix (br := false) (xs := [.str "gave", d]) (k := 0) (ev_v h) (by decide) rfl
  | place => exact ev_ix (br := false) (xs := [.str "place", .str p.shown, .bool true]) (k := 0) (ev_v h) (by decide) rfl
  | expr => exact ev_ix (br := false) (xs := [.str "expression", .bool true]) (k := 0) (ev_v h) (by decide) rfl
theorem ev_twD1 {Wd : DW} {ρ : Ro} {i : Nat} {p d : D} (h : get ρ i = some (.d (twD p (.gave d)))) : Ev (dOp oIx (dVar i) (dC (.int 1))) Wd ρ d := ev_ix (br := false) (xs := [.str "gave", d]) (k := 1) (ev_v h) (by decide) rfl
theorem fits_d32 {v : D} (h : fitsM 8 false v = true) : v.depth ≤ 32 := Nat.le_trans (fits_depth h) (by decide)
/-- the parts that are compared -/
theorem m_law2_14 {D : DEnds} {v p piece : DL.D} {x2 x4 x10 x11 : Option DV} (hv : Dv v) (hp : okP p) (hT : isRow p = true → wayT p) (hpc : Dv piece) (q : D.rt (.d (.bool true))) :
    b_law2_14 t_draw (t_expr 8) (t_walk 9) (t_with 9) t_odd t_way t_due (t_fits 8) t_reach (t_frz 32) t_agrees t_told2 t_parted D [none, some .bag, x2, some (.d v), x4, some (.d p), some (.d piece), some (.d (.list [.str v.shown, .str p.shown, .str piece.shown])), some (.d (twD p (twM v p piece))), some (.d (twD p (twP v p))), x10, x11] := by
  have hend := fun x8 x9 => m_law2_end (D := D) (x2 := x2) (x4 := x4) (x8 := x8) (x9 := x9) (x10 := x10) (x11 := x11) hv hp hpc q
  cases e : twM v p piece with
  | gave d =>
    obtain ⟨e8, ⟨x, er⟩, ep, rfl, ew⟩ := gave_is e
    have hTp := hT (reachP_some er).1
    have hpl : okP (.list (rowOf p)) := way_P (wayT_list hTp)
    have hwf := whole_fine (p := p) (piece := piece) e8 hv.f hpc.f
    have eP : twP v p = .gave (frzM x) := by
      unfold twP
      rw [e8, if_pos rfl, er]
    rw [eP]
    obtain ⟨r1, r2, rx⟩ := reachP_part er
    obtain ⟨m, c, hm, hxf⟩ := partI_fits e8 r1
    have hxfine : fineD (frzM x) = true := by
      rw [rx]
      exact frz_fine _ (partI_fine e8 hv.f r1)
    have htup : ∃ xs, p = .tuple xs := by
      obtain ⟨xs, h, _⟩ := hTp
      exact ⟨xs, h⟩
    refine seqIfN (b := true) ?c (fun _ => ?_) fun z => nomatch z
    case c => exact et_B (ev_eqS (a := "gave") (b := "gave") (n := false) (ev_twD0 (tw := .gave _) (by rfl)))
    refine seqIfN (b := !true) ?c1 (fun z => nomatch z) fun _ => ?_
    case c1 =>
      refine et_not (et_B (ev_agrees (p := .list (rowOf p)) (tw := .gave (frzM piece)) ?_ (ev_gave _ (ev_frz (ev_v (by rfl)) hpc.f (fits_d32 ep))) (frz_gave ep hpc.f) hpl.2.2.2.2))
      exact ev_call2 (ev_twD1 (p := p) (by rfl)) (ev_list (by rfl) htup) fun Q hQ => ⟨hwf, hpl, by rw [at_path e8 er ew]; exact hQ⟩
    refine ifB' (b := !true) ?c2 (fun z => nomatch z) fun _ => ?_
    case c2 =>
      refine et_not (et_B (ev_agrees (p := .list (rowOf p)) (tw := .gave (frzM v)) ?_ (ev_gave _ (ev_frz (ev_v (by rfl)) hv.f (fits_d32 e8))) (frz_gave e8 hv.f) hpl.2.2.2.2))
      exact ev_call3 (ev_twD1 (p := p) (by rfl)) (ev_list (by rfl) htup) (ev_twD1 (p := p) (by rfl)) fun Q hQ => ⟨hwf, hpl, hxfine, by rw [back_again e8 er ew]; exact hQ⟩
    exact hend _ _
  | place =>
    refine seqIfN (b := false) ?c (fun z => nomatch z) fun _ => hend _ _
    case c => exact et_B (ev_eqS (a := "place") (b := "gave") (n := false) (ev_twD0 (tw := .place) (by rfl)))
  | expr =>
    refine seqIfN (b := false) ?c (fun z => nomatch z) fun _ => hend _ _
    case c => exact et_B (ev_eqS (a := "expression") (b := "gave") (n := false) (ev_twD0 (tw := .expr) (by rfl)))
theorem m_law2_9 {D : DEnds} {v p piece : DL.D} {x2 x4 x7 x8 x9 x10 x11 : Option DV} (hv : Dv v) (hp : okP p) (hT : isRow p = true → wayT p) (hpc : Dv piece) (q : D.rt (.d (.bool true))) :
    b_law2_9 t_draw (t_expr 8) (t_walk 9) (t_with 9) t_odd t_way t_due (t_fits 8) t_reach (t_frz 32) t_agrees t_told2 t_parted D [none, some .bag, x2, some (.d v), x4, some (.d p), some (.d piece), x7, x8, x9, x10, x11] := by
  have htup : isRow p = true → ∃ xs, p = .tuple xs := fun h => by
    obtain ⟨xs, h, _⟩ := hT h
    exact ⟨xs, h⟩
  refine seqSet (d := .list [.str v.shown, .str p.shown, .str piece.shown]) (fun Q q => ⟨⟨hv.s, hv.l, hv.t⟩, ⟨hp.2.1, hp.2.2.1, hp.2.2.2.1⟩, ⟨hpc.s, hpc.l, hpc.t⟩, trivial, trivial, trivial, nle rfl, q⟩) ?_
  refine seqSet (d := twD p (twM v p piece)) (ev_call3 (ev_v (by rfl)) (ev_v (by rfl)) (ev_v (by rfl)) fun Q hQ => ⟨hv.f, hp, hpc.f, htup, hQ⟩) ?_
  refine seqSet (d := twD p (twM v p (.tuple [.str "here"]))) (ev_call3 (ev_v (by rfl)) (ev_v (by rfl)) (ev_tup1 ev_k) fun Q hQ => ⟨hv.f, hp, by decide +kernel, htup, hQ⟩) ?_
  have rest : ∀ x9, x9 = some (.d (twD p (twP v p))) → b_law2_13 t_draw (t_expr 8) (t_walk 9) (t_with 9) t_odd t_way t_due (t_fits 8) t_reach (t_frz 32) t_agrees t_told2 t_parted D [none, some .bag, x2, some (.d v), x4, some (.d p), some (.d piece), some (.d (.list [.str v.shown, .str p.shown, .str piece.shown])), some (.d (twD p (twM v p piece))), x9, x10, x11] := fun x9 hx => by
    subst hx
    refine seqIfN (b := (!true) || (!true)) ?c (fun z => nomatch z) fun _ => m_law2_14 hv hp hT hpc q
    case c =>
      refine et_or (et_not (et_B (ev_agrees (ev_call3 (ev_v (by rfl)) (ev_v (by rfl)) (ev_v (by rfl)) fun Q hQ => ⟨hv.f, hp, hpc.f, hQ⟩) (ev_v (by rfl)) (twM_ok hv.f hpc.f) hp.2.2.2.2))) fun _ => ?_
      exact et_not (et_B (ev_agrees (ev_call2 (ev_v (by rfl)) (ev_v (by rfl)) fun Q hQ => ⟨hv.f, hp, hQ⟩) (ev_v (by rfl)) (twP_ok hv.f) hp.2.2.2.2))
  have hreach : ∀ {W' : DW} {ρ : Ro}, get ρ 3 = some (.d v) → get ρ 5 = some (.d p) → fitsM 8 false v = true → Ev (dCall (lo0 t_reach) [] (dCons (dVar 3) (dCons (dVar 5) dNil))) W' ρ ((reachP p v).getD .none) := fun h1 h2 e8 => ev_call2 (ev_v h1) (ev_v h2) fun Q hQ => ⟨⟨8, false, e8⟩, hQ⟩
  refine seqIfN (b := fitsM 8 false v && !isNone ((reachP p v).getD .none)) ?c (fun z => ?_) fun z => ?_
  case c => exact et_and (et_B (due_is rfl (by rfl) hv.f)) fun e8 => et_B (ev_isN (n := true) (hreach (by rfl) (by rfl) e8))
  · rw [Bool.and_eq_true] at z
    have e8 := z.1
    obtain ⟨x, er⟩ : ∃ x, reachP p v = some x := by
      have z2 := z.2
      rw [reach_none ⟨8, false, e8⟩] at z2
      cases e : reachP p v with
      | none => rw [e] at z2; cases z2
      | some x => exact ⟨x, rfl⟩
    obtain ⟨r1, r2, rx⟩ := reachP_part er
    obtain ⟨m, c, hm, hxf⟩ := partI_fits e8 r1
    have hx8 : fitsM 8 false x = true := by
      rw [rx]
      exact fits_mono hxf hm fun z => nomatch z
    have hxfine : fineD x = true := by
      rw [rx]
      exact partI_fine e8 hv.f r1
    have eP : twP v p = .gave (frzM x) := by
      unfold twP
      rw [e8, if_pos rfl, er]
    refine ev_gave p (ev_frz (d := x) (by
      have := hreach (W' := D.ex) (ρ := [none, some .bag, x2, some (.d v), x4, some (.d p), some (.d piece), some (.d (.list [.str v.shown, .str p.shown, .str piece.shown])), some (.d (twD p (twM v p piece))), some (.d (twD p (twM v p (.tuple [.str "here"])))), x10, x11]) (by rfl) (by rfl) e8
      rw [er] at this
      exact this) hxfine (fits_d32 hx8)) _ ⟨trivial, rest _ (by rw [eP])⟩
  · refine rest _ ?_
    rw [old_is]
    rintro ⟨e8, x, er⟩
    rw [e8, er] at z
    have h1 := fits_some_not (reach_fits ⟨8, false, e8⟩ (reachP_some er).2)
    rw [show (some x : Option DL.D).getD .none = x from rfl, h1] at z
    cases z
end K

set_option Elab.async false
set_option linter.all false
set_option maxRecDepth 100000
set_option maxHeartbeats 4000000
/-! GW: law k02, from its beginning. -/
namespace K
open PySem PySem.Spec PyProof.Rows L2 DL
theorem inner_lenG {P : D → Prop} {l : Lt} {x : D} (h : ItG P l x) : (innerOf l x).length ≤ costX l ∧ ∀ p ∈ innerOf l x, P p := by
  cases l with
  | e => exact ⟨Nat.le_refl 1, fun p hp => by rw [List.mem_singleton.mp (show p ∈ [x] from hp)]; exact h⟩
  | l | d | a =>
    obtain ⟨b, xs, rfl, h1, h2⟩ := h
    refine ⟨?_, ?_⟩
    · show (rowOf (mkRow b xs)).length ≤ _
      rw [rowOf_mk]
      exact h1
    · show ∀ p ∈ rowOf (mkRow b xs), P p
      rw [rowOf_mk]
      exact h2
  | _ => exact ⟨Nat.le_refl 0, fun p hp => nomatch (show p ∈ ([] : List D) from hp)⟩
theorem parts_lenG {P : D → Prop} : ∀ {ls : List Lt} {xs : List D}, ZipP (ItG P) ls xs → (partsZ ls xs).length ≤ (ls.map costX).sum ∧ ∀ p ∈ partsZ ls xs, P p
  | [], [], _ => ⟨Nat.le_refl 0, fun p hp => nomatch (show p ∈ ([] : List D) from hp)⟩
  | [], _ :: _, h => h.elim
  | _ :: _, [], h => h.elim
  | l :: ls, x :: xs, h => by
    have h1 := inner_lenG h.1
    have h2 := parts_lenG h.2
    refine ⟨?_, fun p hp => ?_⟩
    · show (innerOf l x ++ partsZ ls xs).length ≤ _
      rw [List.length_append, List.map_cons, List.sum_cons]
      have := h1.1
      have := h2.1
      omega
    · rcases List.mem_append.mp (show p ∈ innerOf l x ++ partsZ ls xs from hp) with hp | hp
      · exact h1.2 p hp
      · exact h2.2 p hp
theorem ex_parts {n : Nat} {d : D} (h : Ex (n + 1) d) : (partsM d).length ≤ 6 ∧ ∀ p ∈ partsM d, Ex n p := by
  obtain ⟨b, w, ls, items, rfl, hw, hz⟩ := h
  rw [partsM_mk hw (zip_len hz)]
  have h1 := parts_lenG hz
  exact ⟨Nat.le_trans h1.1 (costX_shp hw).1, h1.2⟩
def smallI (m : Nat) (is : List Int) : Prop := is.length ≤ m ∧ ∀ i ∈ is, i.natAbs ≤ 1000
theorem small_snoc {m k : Nat} {is : List Int} (h : smallI m is) (hk : k ≤ 100) : smallI (m + 1) (is ++ [((k : Nat) : Int)]) := by
  refine ⟨by rw [List.length_append, List.length_singleton]; have := h.1; omega, fun i hi => ?_⟩
  rcases List.mem_append.mp hi with hi | hi
  · exact h.2 i hi
  · rw [List.mem_singleton.mp hi]
    omega
theorem walkL_small {n m : Nat} {P : D → Prop} (hW : ∀ p (is : List Int), P p → smallI (m + 1) is → ∀ x ∈ walkM n p (is.map .int), ∃ (js : List Int) (d : D), x = .tuple [.tuple (js.map .int), d] ∧ smallI (m + 1 + n) js) : ∀ {ps : List D} {k : Nat} {is : List Int} {x : D}, (∀ p ∈ ps, P p) → smallI m is → k + ps.length ≤ 100 → x ∈ walkL (walkM n) k ps (is.map .int) → ∃ (js : List Int) (d : D), x = .tuple [.tuple (js.map .int), d] ∧ smallI (m + 1 + n) js
  | [], _, _, _, _, _, _, h => nomatch h
  | p :: ps, k, is, x, hp, hs, hk, h => by
    rw [List.length_cons] at hk
    rcases List.mem_append.mp (show x ∈ walkM n p (is.map PyData.int ++ [.int ((k : Nat) : Int)]) ++ walkL (walkM n) (k + 1) ps (is.map .int) from h) with h | h
    · exact hW p (is ++ [((k : Nat) : Int)]) (hp p (List.mem_cons_self ..)) (small_snoc hs (by omega)) x (by rw [List.map_append]; exact h)
    · exact walkL_small hW (fun q hq => hp q (List.mem_cons_of_mem _ hq)) hs (by omega) h
theorem walkM_small : ∀ {n m k : Nat} (v : D) (is : List Int), Ex k v → smallI m is → ∀ x ∈ walkM n v (is.map .int), ∃ (js : List Int) (d : D), x = .tuple [.tuple (js.map .int), d] ∧ smallI (m + n) js
  | 0, m, k, v, is, _, hs, x, h => by
    rw [List.mem_singleton.mp (show x ∈ [PyData.tuple [.tuple (is.map .int), v]] from h)]
    exact ⟨is, v, rfl, hs⟩
  | n + 1, m, k, v, is, he, hs, x, h => by
    rcases List.mem_cons.mp (show x ∈ PyData.tuple [.tuple (is.map .int), v] :: walkL (walkM n) 0 (partsM v) (is.map .int) from h) with rfl | h
    · exact ⟨is, v, rfl, by have := hs.1; omega, hs.2⟩
    · cases k with
      | zero => exact he.elim
      | succ k =>
        obtain ⟨h6, hp⟩ := ex_parts he
        obtain ⟨js, d, e, hj⟩ := walkL_small (P := Ex k) (m := m) (n := n) (fun p is hp hs => walkM_small p is hp hs) hp hs (by omega) h
        exact ⟨js, d, e, by have := hj.1; omega, hj.2⟩
theorem walkM_pos {n : Nat} {v : D} {way : List D} : 0 < (walkM n v way).length := by
  cases n <;> exact Nat.succ_pos _
theorem szE_le : ∀ k, 1 ≤ k → k ≤ 8 → szE k ≤ szE 8 := by
  intro k h1 h2
  have hall : ((List.range 9).all fun k => decide (szE k ≤ szE 8)) = true := by decide +kernel
  exact of_decide_eq_true (List.all_eq_true.mp hall k (List.mem_range.mpr (by omega)))
theorem oIx_first {x : DL.D} {r : List DL.D} {Q : DV → Prop} (q : Q (.d x)) : oIx (.d (.tuple (x :: r))) (.d (.int 0)) Q := oIx_tup (by decide) rfl q
theorem dv_of {d : D} (hf : fineD d = true) (hs : rsz d ≤ 16777216) (hd : d.depth ≤ 1000) : Dv d := ⟨hf, Nat.le_trans (shown_le hf) (Nat.le_trans hs (by decide)), hd⟩
theorem dv_odd {d : D} (h : okO d = true) : Dv d := by
  unfold okO at h
  rw [Bool.and_eq_true] at h
  have h2 : rsz d ≤ 400 := of_decide_eq_true h.2
  have h3 := depth_rsz d
  exact dv_of h.1 (by omega) (by omega)
theorem dv_ex {k : Nat} {d : D} (hd : Ex k d) (hk : 1 ≤ k ∧ k ≤ 8) : Dv d := by
  have h1 := ex_size hd
  have h2 := szE_le k hk.1 hk.2
  have h3 := ex_depth hd
  rw [szE_8] at h2
  exact dv_of (ex_fine hd) (by omega) (by omega)
theorem ev_sp {Wd : DW} {ρ : Ro} {a b c x : Int} {k : Int} (h : get ρ 2 = some (.d (.list [.int a, .int b, .int c]))) (hk : 0 ≤ k) (e : ([.int a, .int b, .int c] : List D)[k.toNat]? = some (.int x)) : Ev (dOp (oEq false) (dOp oIx (dVar 2) (dC (.int k))) (dC (.int 1))) Wd ρ (.bool (x == 1)) :=
  ev_eqI (b := 1) (n := false) (ev_ix (br := true) (xs := [.int a, .int b, .int c]) (ev_v h) hk e)
abbrev SP (a b c : Int) : Option DV := some (.d (.list [.int a, .int b, .int c]))
theorem m_law2_7 {D : DEnds} {v p : DL.D} {a b c : Int} {x4 x6 x7 x8 x9 x10 x11 : Option DV} (hv : Dv v) (hp : okP p) (hT : isRow p = true → wayT p) (q : D.rt (.d (.bool true))) :
    b_law2_7 t_draw (t_expr 8) (t_walk 9) (t_with 9) t_odd t_way t_due (t_fits 8) t_reach (t_frz 32) t_agrees t_told2 t_parted D [none, some .bag, SP a b c, some (.d v), x4, some (.d p), x6, x7, x8, x9, x10, x11] := by
  refine ⟨trivial, trivial, 8, rfl, ⟨by decide, by decide⟩, fun rm r0 r1 _ => ⟨trivial, trivial, 8, rfl, ⟨by decide, by decide⟩, fun dp d0 d1 _ => ?_⟩⟩
  obtain ⟨k, ek⟩ := Int.eq_ofNat_of_zero_le (show (0 : Int) ≤ 1 + dp by omega)
  have hk : 1 ≤ k ∧ k ≤ 8 := by omega
  refine ⟨⟨trivial, trivial, trivial⟩, k, 2, congrArg PyData.int ek, hk, rfl, fun d hd => ⟨trivial, ?_⟩⟩
  refine seqIfN (b := c == 1) (et_B (ev_sp (k := 2) (by rfl) (by decide) rfl)) (fun _ => ?_) fun _ => m_law2_9 hv hp hT (dv_ex hd hk) q
  exact ⟨trivial, fun o ho _ => ⟨trivial, m_law2_9 hv hp hT (dv_odd ho) q⟩⟩
theorem m_law2_6 {D : DEnds} {v p : DL.D} {a b c : Int} {x4 x6 x7 x8 x9 x10 x11 : Option DV} (hv : Dv v) (hs : smallWay p) (q : D.rt (.d (.bool true))) :
    b_law2_6 t_draw (t_expr 8) (t_walk 9) (t_with 9) t_odd t_way t_due (t_fits 8) t_reach (t_frz 32) t_agrees t_told2 t_parted D [none, some .bag, SP a b c, some (.d v), x4, some (.d p), x6, x7, x8, x9, x10, x11] := by
  refine seqIfN (b := b == 1) (et_B (ev_sp (k := 1) (by rfl) (by decide) rfl)) (fun _ => ?_) fun _ => m_law2_7 hv (way_P (small_ok hs)) (fun _ => small_T hs) q
  exact ⟨trivial, trivial, hs, fun d hd hT _ => ⟨trivial, m_law2_7 hv (way_P hd) hT q⟩⟩
theorem m_law2 {D : DEnds} {x2 x3 x4 x5 x6 x7 x8 x9 x10 x11 : Option DV} (q : D.rt (.d (.bool true))) : LW2 D [none, some .bag, x2, x3, x4, x5, x6, x7, x8, x9, x10, x11] := by
  refine ⟨trivial, trivial, 4, rfl, ⟨by decide, by decide⟩, fun a a0 a1 _ => ⟨trivial, trivial, 3, rfl, ⟨by decide, by decide⟩, fun b b0 b1 _ => ⟨trivial, trivial, 3, rfl, ⟨by decide, by decide⟩, fun c c0 c1 _ => ?_⟩⟩⟩
  refine ⟨trivial, trivial, trivial, nle rfl, trivial, ?_⟩
  refine ⟨trivial, trivial, 60, rfl, ⟨by decide, by decide⟩, fun spot p0 p1 _ => ⟨trivial, trivial, 60, rfl, ⟨by decide, by decide⟩, fun other o0 o1 _ => ?_⟩⟩
  refine ⟨trivial, trivial, ?_⟩
  refine ⟨trivial, trivial, 10, rfl, ⟨by decide, by decide⟩, fun rm r0 r1 _ => ⟨trivial, trivial, 8, rfl, ⟨by decide, by decide⟩, fun dp d0 d1 _ => ?_⟩⟩
  obtain ⟨k, ek⟩ := Int.eq_ofNat_of_zero_le (show (0 : Int) ≤ 1 + dp by omega)
  have hk : 1 ≤ k ∧ k ≤ 8 := by omega
  refine ⟨⟨trivial, trivial, trivial⟩, k, 0, congrArg PyData.int ek, hk, rfl, fun d hd => ⟨trivial, ?_⟩⟩
  have hg : goodM 9 d = true := good_le (ex_good hd) (by omega)
  have hv := dv_ex hd hk
  refine ⟨nle rfl, trivial, trivial, [], rfl, ⟨by decide, by decide⟩, hg, fun _ => ⟨trivial, ?_⟩⟩
  have hl : (0 : Int) < ((walkM 9 d []).length : Nat) := by
    have := walkM_pos (n := 9) (v := d) (way := [])
    omega
  have hw := walkM_small (n := 9) (m := 0) d [] hd ⟨Nat.le_refl _, fun i hi => nomatch hi⟩
  refine ⟨hl, oIx_list (Int.emod_nonneg _ (by omega)) (Int.emod_lt_of_pos _ hl) fun r hr => ?_⟩
  obtain ⟨js, x, rfl, hj⟩ := hw r hr
  have hs : smallWay (.tuple (js.map .int)) := ⟨js, rfl, by have := hj.1; omega, hj.2⟩
  refine oIx_first ⟨trivial, ?_⟩
  refine seqIfN (b := a == 1) (et_B (ev_sp (k := 0) (by rfl) (by decide) rfl)) (fun _ => ?_) fun _ => m_law2_6 hv hs q
  refine ⟨hl, oIx_list (Int.emod_nonneg _ (by omega)) (Int.emod_lt_of_pos _ hl) fun r2 hr2 => ?_⟩
  obtain ⟨js2, x2, rfl, hj2⟩ := hw r2 hr2
  refine oIx_first ⟨trivial, fun o ho _ => ⟨trivial, trivial, trivial, js2, rfl, .inr hg, fun _ => ⟨trivial, ?_⟩⟩⟩
  unfold okO at ho
  rw [Bool.and_eq_true] at ho
  have ho2 : rsz o ≤ 400 := of_decide_eq_true ho.2
  have hb : Dv (withM 9 d js2 o) := by
    have h1 := with_size (piece := o) (is := js2) (.inr hg)
    have h2 := ex_size hd
    have h3 := szE_le k hk.1 hk.2
    rw [szE_8] at h3
    have h4 := with_depth (piece := o) (is := js2) (.inr hg)
    have h5 := ex_depth hd
    have h6 := depth_rsz o
    exact dv_of (with_fine (.inr hg) hv.f ho.1) (by omega) (by omega)
  exact m_law2_6 hb hs q
end K

set_option Elab.async false
set_option linter.all false
set_option maxRecDepth 100000
set_option maxHeartbeats 4000000
/-! GX: calls by any keywords; _law_told, _law_parted, NoPlace.__init__ derived by hand. -/
namespace DL
open PySem PySem.Spec PyProof.Rows L2
theorem PK.imp {X : Cx} {kws : List Keyword} {t t' : TA} (h : PK X kws t) (f : ∀ σ H Q, t' σ H Q → t σ H Q) : PK X kws t' := ⟨fun pos pins s σ H Q I q => h.run pos pins s σ H Q I (f σ H Q q)⟩
section
variable {X : Cx} {W : WX} {k j : Nat} {t : DSp} {x : Str} {p pos kpos : Pos} {nm : Option Str} {e : Expr} {kws : List Keyword} {ta : DA} {te : DE} {ks : List Str}
theorem dk_nil : PK X [] (lA X.K W dNil) := PK.imp pk_nil fun σ H Q h => by
  obtain ⟨z, H0, G0, G, ρ, Wd, Qd, so, h, q, w⟩ := h
  exact q _ h [] G H (Go.refl z G H) so .nil
theorem dk_cons (ha : PE X e (lE X.K W te)) (hr : PK X kws (lA X.K W ta)) : PK X (⟨nm, e, kpos⟩ :: kws) (lA X.K W (dCons te ta)) := PK.imp (pk_cons ha hr) fun σ H Q h => by
  obtain ⟨z, H0, G0, G, ρ, Wd, Qd, so, h, q, w⟩ := h
  refine ⟨z, H0, G0, G, ρ, Wd, _, so, h, fun x hx v G1 H1 e1 so1 r1 => ?_, w⟩
  refine ⟨z, H0, G0, G1, ρ, Wd, _, so1, hx, fun xs hxs vs G2 H2 e2 so2 r2 => ?_, w.mono e1.ex⟩
  exact q _ hxs.2 _ G2 H2 (e1.trans e2) so2 (.cons (r1.mono e2.ex hxs.1.ne) hxs.1.ne r2)
theorem run_k0 {CX : CXT} {f : Addr} {fd : FuncData} {ps : List Str} {sp : Sp} {E : XK} {pins : List (Addr × Obj)} {σ : L2.St} {H : Hp} {s : Shared} {Q : VK} {ws : List Value} {zs : List V}
    (F : FnOk X.prog X.w X.K X.mg X.base CX k f fd ps sp) (hr : Room k X.A) (hb : ∀ (s : Shared) (ws : List Value), X.K.In s.heap → ws.length = ps.length → BindsTo s fd ⟨[], ks.zip ws⟩ (ps.zip ws)) (hx : PassesAt CX X σ E) (I : L2.Inv X pins σ H s) (rz : Vals zs ws) (h : sp zs H Q E) :
    wpAny (model X.prog X.w) X.A (call (.ref f) [] (ks.zip ws)) (EP X pins σ Q) X.xe s := by
  have hl : ws.length = ps.length := rz.length.symm.trans (F.len _ _ _ _ h)
  refine wpAny_call (codeAny_mono (F.run X.A X.stack s H ⟨[], ks.zip ws⟩ ws zs Q E hr I.env0 (hb s ws I.kIn hl) rz h) fun r s' hq => ?_)
  match r, hq with
  | .error e, hq => exact hx pins H s e s' I hq
  | .ok (.ret u), hq => exact I.after hq
  | .ok .next, hq => exact False.elim hq
  | .ok .brk, hq => exact False.elim hq
  | .ok .cont, hq => exact False.elim hq
/-- a def that may raise, called by all its names -/
structure CalK0 (P : Program) (w : World) (K : PySem.W.Frag) (mg : Str → Option Value) (base : Heap) (k : Nat) (x : Str) (ks : List Str) (t : DSp) : Prop where
  ex : ∃ (f : Addr) (fd : FuncData) (ps : List Str), FnOk P w K mg base (L2.CX P w) k f fd ps (lSp K t) ∧ mg x = some (.ref f) ∧ PySem.W.keepIn K (.ref f) = true ∧ ∀ (s : Shared) (ws : List Value), K.In s.heap → ws.length = ps.length → BindsTo s fd ⟨[], ks.zip ws⟩ (ps.zip ws)
theorem kb0_of {K : PySem.W.Frag} {x qual : Str} {params : Arguments} {body : List Stmt} {scope : Scope} {f : Addr} {fd : FuncData} {ps ks : List Str} (F : FunD K x qual params body scope [] [] f fd)
    (h : ∀ (kV doc pm : Value) (an : Option Addr) (cdv ct : Value) (ws : List Value), ws.length = ps.length → bindArgs (PySem.W.fnOf x qual params body scope .none kV doc pm an cdv ct) ⟨[], ks.zip ws⟩ = pure (ps.zip ws)) : ∀ (s : Shared) (ws : List Value), K.In s.heap → ws.length = ps.length → BindsTo s fd ⟨[], ks.zip ws⟩ (ps.zip ws) := by
  obtain ⟨oc, od, dV, kV, doc, pm, an, cdv, ct, osl, rfl, lk, hcd, hD, hK⟩ := F.ex
  rcases hD with ⟨_, rfl⟩ | ⟨e, _⟩
  · exact fun s ws _ hl => .of_eq (h kV doc pm an cdv ct ws hl)
  · exact absurd rfl e
theorem de_ckxs (c : CalK0 X.prog X.w X.K X.mg X.base k x ks t) (tk : Takes X W) (hr : Room j X.A) (hk : k ≤ j) (hg : Gl X x) (ha : PK X kws (lA X.K W ta)) (hall : (backToKw pos (keywordEach kws X.env)).all (·.1.isSome) = true := by rfl)
    (hks : (backToKw pos (keywordEach kws X.env)).filterMap (·.1) = ks := by rfl) (hdb : (x == ("__debug__" : Str)) = false := by decide)
    (hpl : ((backTo pos (starEach [] X.env)).any (·.1) || (backToKw pos (keywordEach kws X.env)).any (·.1.isNone)) = false := by rfl) :
    PE X (.Call (.Name x p) [] kws pos) (lE X.K W (dCall t [] ta)) := by
  obtain ⟨f, fd, ps, F, hm, kp, hb⟩ := c.ex
  refine ⟨fun pins s σ H Q I h => ?_⟩
  refine wpAny_Call_Name_kw (ld_glob I hg hm ?_ hdb)
  have h2 : tCall (lSp X.K t) [] (WE W σ) (lA X.K W ta) σ H Q := lE_call (E := WE W σ) (dvs := []) (dd := []) (fun _ => .nil) (fun _ _ _ h => h) h
  refine PySem.W.callWith_KW0 (h₀ := X.base) I.ok.mod.kin kp hall (thn (ha.run pos pins s σ H (fun zs H1 => lSp X.K t (zs ++ []) H1 Q (WE W σ)) I h2) fun ws s2 ⟨zs, H2, I2, rz, q2⟩ => ⟨I2.kIn, ?_⟩) hpl
  rw [hks]
  have q2 : lSp X.K t (zs ++ []) H2 Q (WE W σ) := q2
  rw [List.append_nil] at q2
  exact run_k0 F (hr.mono hk) hb (passAt tk σ) I2 rz q2
end
end DL
namespace K
open PySem PySem.Spec PyProof.Rows L2 DL
structure Cx2 (mg : Str → Option Value) (K : PySem.W.Frag) (CE CP CR : Addr) : Prop where
  ownE : OwnX mg K "NoExpression" CE
  gP : mg "NoPlace" = some (.ref CP)
  gR : mg "TriedError" = some (.ref CR)
  nV : mg "ValueError" = none
  xf : XF2 K CE CP CR
abbrev N_told2 : List Str := ["tree", "way", "piece", "told", "e"]
abbrev P_told2 : List Str := ["tree", "way", "piece"]
abbrev s_told2 : Stmt := top 60
theorem sc_told2 : FnScope N_told2 P_told2 (defScope s_told2) := ⟨rfl, rfl, rfl, by decide +kernel, rfl, by decide +kernel, by decide +kernel⟩
abbrev N_parted : List Str := ["tree", "way", "told", "e"]
abbrev P_parted : List Str := ["tree", "way"]
abbrev s_parted : Stmt := top 61
theorem sc_parted : FnScope N_parted P_parted (defScope s_parted) := ⟨rfl, rfl, rfl, by decide +kernel, rfl, by decide +kernel, by decide +kernel⟩
section
variable {P : Program} {w : World} {K : PySem.W.Frag} {mg : Str → Option Value} {base : Heap} {k : Nat} {CE CP CR : Addr}
theorem d_told2 (T : Tx mg K w) (C : Cx2 mg K CE CP CR) {t : DSp} {k1 : Nat} (c : CalK0 P w K mg base k1 "with_part" ["expression", "path", "part"] t) (l1 : k1 ≤ k) (f : Addr) (cdv : Value) (A : Around) (outer : List Env) (s : Shared) (H : Hp) (E : XK)
    (hgd : A.guards = some []) (hru : A.units + 3 + 1001 < cLine) (hrb : base.get? sysModules ≠ none) (hr : Room k (A.deeper (envOfC "_law_told" (defScope s_told2) s.heap.objs.size f cdv))) :
    ∃ W : WX, PSs (cxOf CX0 P w K mg base N_told2 "_law_told" (defScope s_told2) f cdv A outer s H E).nox (defBody s_told2) (lS K W (b_told K CE CP CR t)) :=
  have S := sc_told2
  ⟨W0, dss_cons (ds_set (i := 3) S.nd rfl (by first | exact .inl rfl | exact .inr rfl) (de_tup (da_cons de_str da_nil))) (dss_cons (ds_tryF (Wn := W0) rfl rfl S.nd takes_none5
    (fun W pn xe tk => dss_one (ds_set (i := 3) S.nd rfl (by first | exact .inl rfl | exact .inr rfl) (de_tup (da_cons de_str (da_cons (de_ckxs c tk hr l1 (by rfl) (dk_cons (dv 0) (dk_cons (dv 1) (dk_cons (dv 2) dk_nil)))) da_nil)))))
    (ClsF.as (i := 4) rfl rfl ⟨by rfl, by decide, .inl C.gP⟩ (fun a oe d x pn hz hf => dss_one (ds_set (i := 3) S.nd rfl (by first | exact .inl rfl | exact .inr rfl) (de_tup (da_cons de_str (da_cons (de_repr hgd hru hrb (by rfl) T.n_repr (de_fld hz hf (dv 4))) (da_cons
        (de_and (de_isF (c := .ref CR) (cv := .ref CR) hz hf (fun _ h => h) (by rfl) T.n_isinstance (dv 4) (pe_glob (v := .ref CR) (by rfl) C.gR rfl)) (de_one (de_isF (c := .ty "ValueError") (cv := .type "ValueError") hz hf (fun _ h => h) (by rfl) T.n_isinstance (dv 4) (pe_bltn (v := .ty "ValueError") (by rfl) C.nV (by decide +kernel) rfl)))) da_nil))))))
      (ClsF.as (i := 4) rfl rfl ⟨by rfl, by decide, .inl C.ownE.gC⟩ (fun a oe d x pn hz hf => dss_one (ds_set (i := 3) S.nd rfl (by first | exact .inl rfl | exact .inr rfl) (de_tup (da_cons de_str (da_cons
        (de_and (de_isF (c := .ref CR) (cv := .ref CR) hz hf (fun _ h => h) (by rfl) T.n_isinstance (dv 4) (pe_glob (v := .ref CR) (by rfl) C.gR rfl)) (de_one (de_isF (c := .ty "ValueError") (cv := .type "ValueError") hz hf (fun _ h => h) (by rfl) T.n_isinstance (dv 4) (pe_bltn (v := .ty "ValueError") (by rfl) C.nV (by decide +kernel) rfl)))) da_nil))))) .nil)))
    (dss_one (ds_ret (dv 3))))⟩
theorem d_parted (T : Tx mg K w) (C : Cx2 mg K CE CP CR) {t : DSp} {k1 : Nat} (c : CalX P w K mg base k1 "part_at" t) (l1 : k1 ≤ k) (f : Addr) (cdv : Value) (A : Around) (outer : List Env) (s : Shared) (H : Hp) (E : XK)
    (hgd : A.guards = some []) (hru : A.units + 3 + 1001 < cLine) (hrb : base.get? sysModules ≠ none) (hr : Room k (A.deeper (envOfC "_law_parted" (defScope s_parted) s.heap.objs.size f cdv))) :
    ∃ W : WX, PSs (cxOf CX0 P w K mg base N_parted "_law_parted" (defScope s_parted) f cdv A outer s H E).nox (defBody s_parted) (lS K W (b_parted K CE CP CR t)) :=
  have S := sc_parted
  ⟨W0, dss_cons (ds_set (i := 2) S.nd rfl (by first | exact .inl rfl | exact .inr rfl) (de_tup (da_cons de_str da_nil))) (dss_cons (ds_tryF (Wn := W0) rfl rfl S.nd takes_none5
    (fun W pn xe tk => dss_one (ds_set (i := 2) S.nd rfl (by first | exact .inl rfl | exact .inr rfl) (de_tup (da_cons de_str (da_cons (de_cx c tk hr l1 (by rfl) (da_cons (dv 0) (da_cons (dv 1) da_nil))) da_nil)))))
    (ClsF.as (i := 3) rfl rfl ⟨by rfl, by decide, .inl C.ownE.gC⟩ (fun a oe d x pn hz hf => dss_one (ds_set (i := 2) S.nd rfl (by first | exact .inl rfl | exact .inr rfl) (de_tup (da_cons de_str (da_cons
        (de_and (de_isF (c := .ref CR) (cv := .ref CR) hz hf (fun _ h => h) (by rfl) T.n_isinstance (dv 3) (pe_glob (v := .ref CR) (by rfl) C.gR rfl)) (de_one (de_isF (c := .ty "ValueError") (cv := .type "ValueError") hz hf (fun _ h => h) (by rfl) T.n_isinstance (dv 3) (pe_bltn (v := .ty "ValueError") (by rfl) C.nV (by decide +kernel) rfl)))) da_nil)))))
      (ClsF.as (i := 3) rfl rfl ⟨by rfl, by decide, .inl C.gP⟩ (fun a oe d x pn hz hf => dss_one (ds_set (i := 2) S.nd rfl (by first | exact .inl rfl | exact .inr rfl) (de_tup (da_cons de_str (da_cons (de_repr hgd hru hrb (by rfl) T.n_repr (de_fld hz hf (dv 3))) (da_cons
        (de_and (de_isF (c := .ref CR) (cv := .ref CR) hz hf (fun _ h => h) (by rfl) T.n_isinstance (dv 3) (pe_glob (v := .ref CR) (by rfl) C.gR rfl)) (de_one (de_isF (c := .ty "ValueError") (cv := .type "ValueError") hz hf (fun _ h => h) (by rfl) T.n_isinstance (dv 3) (pe_bltn (v := .ty "ValueError") (by rfl) C.nV (by decide +kernel) rfl)))) da_nil)))))) .nil)))
    (dss_one (ds_ret (dv 2))))⟩
end
end K

set_option Elab.async false
set_option linter.all false
set_option maxRecDepth 100000
set_option maxHeartbeats 4000000
/-! GY: NoPlace.__init__. -/
namespace K
open PySem PySem.Spec PyProof.Rows L2 DL
theorem m_kept0 (t : DSp) : Body 4 (b_kept t) (t_kept 0) := by
  intro as Wd Qd h
  obtain ⟨v, lv, rfl, k, rfl, hk, ho, q⟩ := p2_of h
  clear h
  obtain rfl : k = 0 := by omega
  exact ⟨trivial, q⟩
def clsBody (s : Stmt) : List Stmt := match s with
  | .ClassDef _ _ _ b _ _ _ _ _ _ _ => b
  | _ => []
abbrev s_init : Stmt := (clsBody (top 5)).getD 0 (.Pass ⟨0, 0, 0, 0⟩)
abbrev N_init : List Str := ["self", "path"]
theorem sc_init : FnScope N_init N_init (defScope s_init) := ⟨rfl, rfl, rfl, by decide +kernel, rfl, by decide +kernel, by decide +kernel⟩
section
variable {P : Program} {w : World} {K : PySem.W.Frag} {mg : Str → Option Value} {base : Heap} {k : Nat}
theorem d_init (qual : Str) {k1 : Nat} (c1 : CalD P w K mg base k1 "kept" (lo0 (t_kept 20)) [.int 20]) (l1 : k1 ≤ k) (f : Addr) (cdv : Value) (A : Around) (outer : List Env) (s : Shared) (H : Hp) (E : XK)
    (hr : Room k (A.deeper (envOfC qual (defScope s_init) s.heap.objs.size f cdv))) :
    ∃ W : WX, PSs (cxOf CX0 P w K mg base N_init qual (defScope s_init) f cdv A outer s H E).nox (defBody s_init) (tSeq (tOst K "path" (tVar 0) (lE K W (dCall (lo0 t_k1) [] (dCons (dVar 1) dNil)))) tNext) :=
  have S := sc_init
  have kd : ∀ {σ : L2.St} {H : Hp} {Q : VK}, lE K W0 (dCall (lo0 t_k1) [] (dCons (dVar 1) dNil)) σ H Q → lE K W0 (dCall (lo0 (t_kept 20)) [.int 20] (dCons (dVar 1) dNil)) σ H Q := fun h => h
  ⟨W0, pss_cons (ps_ost (pe_var (i := 0) (by rfl) (by first | exact .inl rfl | exact .inr (.inl rfl) | exact .inr (.inr rfl))) (PE.imp (de_c (t := t_kept 20) (dd := [.int 20]) c1 hr l1 (by rfl) (da_cons (dv 1) da_nil)) fun σ H Q h => kd h)) pss_nil⟩
end
end K

set_option Elab.async false
set_option linter.all false
set_option maxRecDepth 100000
set_option maxHeartbeats 4000000
namespace DL
open PySem PySem.Spec PyProof.Rows L2
/-- bag[n] -/
theorem xB {X : Cx} {n : Int} {j p p2 pos} (i : Nat) {x : Str} (hN : X.N[i]? = some x := by rfl) (hv : Vis X.env.scope x := by first | exact Or.inl rfl | exact Or.inr (Or.inl rfl) | exact Or.inr (Or.inr rfl)) (hd : (x == ("__debug__" : Str)) = false := by decide)
    (hcd : (x == ("__classdict__" : Str)) = false := by decide) : PE X (.Subscript (.Name x p) (.Constant (.int n) j p2) pos) (tOp (rIxL X.K) (tVar i) (tC (.int n))) := pe_ix ix_list (pe_var hN hv hd hcd) pe_int (fun _ _ => rfl)
end DL
namespace K
open PySem PySem.Spec PyProof.Rows L2 DL

/-! ### the mixing of a cell -/
def t_mixed : DSp := p2 fun a b Q => ∃ i j : Int, a = .int i ∧ b = .int j ∧ ∀ k : Int, Q (.d (.int k))
theorem m_mixed : Body 3 b__law_mixed t_mixed := by
  intro as Wd Qd h
  obtain ⟨a, b, rfl, i, j, rfl, rfl, q⟩ := p2_of h
  have e : ∀ n : Int, 0 ≤ n % 2147483647 ∧ n % 2147483647 < 2147483647 := fun n => ⟨Int.emod_nonneg _ (by omega), Int.emod_lt_of_pos _ (by omega)⟩
  have p31 : (2147483647 : Int) < 2 ^ 64 := by decide
  have m31 : (-(2 ^ 64) : Int) < 0 := by decide
  have cm : ∀ n m : Int, CMul (n % 2147483647) m := fun n m => .inl ⟨Int.lt_of_lt_of_le m31 (e n).1, Int.lt_trans (e n).2 p31⟩
  have c1 : ∀ m : Int, CMul 7919 m := fun m => .inl ⟨by decide, by decide⟩
  have c2 : ∀ m : Int, CMul m 48271 := fun m => .inr ⟨by decide, by decide⟩
  have d1 : ∀ m : Int, CDiv m 1009 := fun m => ⟨by decide, by decide⟩
  have d2 : ∀ m : Int, CDiv m 2003 := fun m => ⟨by decide, by decide⟩
  have z1 : (0 : Int) < 2147483647 := by decide
  have z2 : (0 : Int) < 2147483399 := by decide
  refine ⟨z1, c1 _, c2 _, z1, nown_d, ?_⟩
  refine ⟨d1 _, cm _ _, z1, nown_d, ?_⟩
  exact ⟨d2 _, cm _ _, z2, nown_d, q _⟩

/-! ### the bag: b holds c, g, two ints -/
structure Bg (H : Hp) (b c g : Addr) (i j : Int) (cs : List Int) (gs : List Bool) : Prop where
  hb : H b = some (.lst [.ref c, .ref g, .int i, .int j])
  hc : H c = some (.lst (cs.map V.int))
  hg : H g = some (.lst (gs.map V.bl))
  l : cs.length = gs.length
  m : cs.length ≤ 63
  n1 : b ≠ c
  n2 : b ≠ g
  n3 : c ≠ g
section
variable {H : Hp} {b c g : Addr} {i j : Int} {cs : List Int} {gs : List Bool}
theorem Bg.ok (B : Bg H b c g i j cs gs) : BagOk H b c g := ⟨⟨i, j, cs, gs, B.hb, B.hc, B.hg, B.l, B.m⟩, B.n1, B.n2, B.n3⟩
theorem Bg.of (B : BagOk H b c g) : ∃ i j cs gs, Bg H b c g i j cs gs := by
  obtain ⟨⟨i, j, cs, gs, h1, h2, h3, h4, h5⟩, n1, n2, n3⟩ := B
  exact ⟨i, j, cs, gs, h1, h2, h3, h4, h5, n1, n2, n3⟩
theorem Bg.setB (B : Bg H b c g i j cs gs) (i' j' : Int) : Bg (upd H b (.lst [.ref c, .ref g, .int i', .int j'])) b c g i' j' cs gs :=
  ⟨upd_same, by rw [upd_ne B.n1.symm]; exact B.hc, by rw [upd_ne B.n2.symm]; exact B.hg, B.l, B.m, B.n1, B.n2, B.n3⟩
theorem Bg.setC (B : Bg H b c g i j cs gs) (k : Nat) (x : Int) : Bg (upd H c (.lst ((cs.map V.int).set k (.int x)))) b c g i j (cs.set k x) gs :=
  ⟨by rw [upd_ne B.n1]; exact B.hb, by rw [upd_same, List.map_set], by rw [upd_ne B.n3.symm]; exact B.hg, by rw [List.length_set]; exact B.l, by rw [List.length_set]; exact B.m, B.n1, B.n2, B.n3⟩
theorem Bg.setG (B : Bg H b c g i j cs gs) (k : Nat) (x : Bool) : Bg (upd H g (.lst ((gs.map V.bl).set k (.bl x)))) b c g i j cs (gs.set k x) :=
  ⟨by rw [upd_ne B.n2]; exact B.hb, by rw [upd_ne B.n3]; exact B.hc, by rw [upd_same, List.map_set], by rw [List.length_set]; exact B.l, B.m, B.n1, B.n2, B.n3⟩
end
theorem _root_.DL.Ok.putBag {z : Zn} {H0 G0 G H : Hp} (ok : Ok z H0 G0 G H) {b c g : Addr} (ht : (b, c, g) ∈ z.bags) {a : Addr} {o : HO} (ha : a = b ∨ a = c ∨ a = g) (hb : BagOk (upd H a o) b c g) : Ok z H0 G0 G (upd H a o) := by
  have hF : z.F a := .inl ⟨_, ht, ha⟩
  refine ⟨fun x u ex => ?_, fun t h => ?_, fun r hr => ?_, ok.dis, fun x u nf ex => ?_, ok.old, ok.grow⟩
  · have hne : x ≠ a := fun e => by
      subst e
      rw [ok.dis x hF] at ex
      cases ex
    rw [upd_ne hne]
    exact ok.sub x u ex
  · cases z.one t h _ ht
    exact hb
  · obtain ⟨n, hn⟩ := ok.room r hr
    obtain ⟨a1, a2, a3⟩ := z.ap r hr _ ht
    have hne : r ≠ a := fun e => by
      rcases ha with h | h | h
      · exact a1 (e.trans h)
      · exact a2 (e.trans h)
      · exact a3 (e.trans h)
    exact ⟨n, by rw [upd_ne hne]; exact hn⟩
  · have hne : x ≠ a := fun e => by
      subst e
      exact nf hF
    rw [upd_ne hne]
    exact ok.keep x u nf ex
end K
namespace K
open PySem PySem.Spec PyProof.Rows L2 DL
abbrev N__law_draw : List Str := ["bag", "limit", "cells", "greats", "at", "cell"]
abbrev P__law_draw : List Str := ["bag", "limit"]
abbrev s__law_draw : Stmt := top 39
theorem sc__law_draw : FnScope N__law_draw P__law_draw (defScope s__law_draw) := ⟨rfl, rfl, rfl, by decide +kernel, rfl, by decide +kernel, by decide +kernel⟩
abbrev rInt1 : List V → Hp → VK → Prop := fun xs H Q => (∃ i, xs = [V.int i] ∧ Q (V.int i) H) ∨ ∃ k, xs = [V.bl k] ∧ Q (V.int (if k = true then 1 else 0)) H
abbrev rLen1 (K : PySem.W.Frag) : List V → Hp → VK → Prop := fun xs H Q => ∃ x n, xs = [x] ∧ LenV K x H n ∧ Q (V.int ↑n) H
abbrev tBag (K : PySem.W.Frag) (n : Int) : TE := tOp (rIxL K) (tVar 0) (tC (V.int n))
abbrev rMod1 : R2 := rI (fun _ j => 0 < j) fun i j => V.int (i % j)
abbrev tStep (K : PySem.W.Frag) (n : Int) : TS := tAsg (tAdd (tBag K n) (tC (V.int 1))) (gSub (tVar 0) (tC (V.int n)) rSetL)
abbrev tMix (K : PySem.W.Frag) (t : DSp) (tc : TE) : TS := tRet (tOp rMod1 (tCB rInt1 (tCons (tCall (lSp K t) [] E0 (tCons tc (tCons (tBag K 3) tNil))) tNil)) (tVar 1))
def ts_draw (K : PySem.W.Frag) (t : DSp) : TS :=
  tSeq (tPar 2 3 (tCons (tBag K 0) (tCons (tBag K 1) tNil)))
  (tSeq (tStep K 3)
  (tSeq (tIfS (tTest (tOp rEq (tCB (rLen1 K) (tCons (tVar 2) tNil)) (tC (V.int 0)))) (tMix K t (tC (V.int 0))) tNext)
  (tSeq (tAsg (tOp rMod1 (tCB rInt1 (tCons (tBag K 2) tNil)) (tCB (rLen1 K) (tCons (tVar 2) tNil))) (gName 4))
  (tSeq (tAsg (tOp (rIxL K) (tVar 2) (tVar 4)) (gName 5))
  (tSeq (tIfS (tB (tOp (rIxL K) (tVar 3) (tVar 4)))
    (tSeq (tAsg (tOp (rI CDiv fun i j => V.int (i / j)) (tVar 5) (tVar 1)) (gSub (tVar 2) (tVar 4) rSetL))
      (tSeq (tIfS (tTest (tOp rEq (tOp (rIxL K) (tVar 2) (tVar 4)) (tC (V.int 0)))) (tSeq (tAsg (tC (V.bl false)) (gSub (tVar 3) (tVar 4) rSetL)) (tStep K 2)) tNext)
        (tRet (tOp rMod1 (tCB rInt1 (tCons (tVar 5) tNil)) (tVar 1))))) tNext)
  (tSeq (tStep K 2) (tMix K t (tVar 5))))))))
section
variable {P : Program} {w : World} {K : PySem.W.Frag} {mg : Str → Option Value} {base : Heap} {k : Nat}
theorem ps_draw (T : Tx mg K w) {t : DSp} {km : Nat} {fm : Addr} {fdm : FuncData} {psm : List Str} (Fm : FnOk P w K mg base CX0 km fm fdm psm (lSp K t)) (gm : mg "_law_mixed" = some (.ref fm)) (kpm : PySem.W.keepIn K (.ref fm) = true) (bm : Binds K fdm psm []) (lm : km ≤ k)
    (f : Addr) (cdv : Value) (A : Around) (outer : List Env) (s : Shared) (H : Hp) (E : XK) (hr : Room k (A.deeper (envOfC "_law_draw" (defScope s__law_draw) s.heap.objs.size f cdv))) :
    PSs (cxOf CX0 P w K mg base N__law_draw "_law_draw" (defScope s__law_draw) f cdv A outer s H E).nox (defBody s__law_draw) (ts_draw K t) :=
  have S := sc__law_draw
  pss_cons (ps_par (i := 2) (j := 3) rfl S.nd rfl rfl (by decide) rfl rfl (pa_cons (xB 0) (pa_cons (xB 0) pa_nil)) rfl)
    (pss_cons (ps_asg (pe_add (xB 0) pe_int) (pg_sub (pv 0) pe_int set_list (by intro _; rfl)))
    (pss_cons (ps_if (pt_cmpR op_eq (pe_callB call_len (by rfl) T.n_len (by decide +kernel) (pa_cons (pv 2) pa_nil)) pe_int (by with_unfolding_all rfl))
        (pss_one (ps_ret (pe_op op_mod (pe_callTy call_int1 (by rfl) T.n_int (by decide +kernel) (pa_cons (pe_call Fm (hr.mono lm) (by rfl) gm kpm bm .nil pass0 (pa_cons pe_int (pa_cons (xB 0) pa_nil))) pa_nil)) (pv 1)))) pss_nil)
    (pss_cons (ps_set (i := 4) S.nd rfl (Or.inl rfl) (pe_op op_mod (pe_callTy call_int1 (by rfl) T.n_int (by decide +kernel) (pa_cons (xB 0) pa_nil)) (pe_callB call_len (by rfl) T.n_len (by decide +kernel) (pa_cons (pv 2) pa_nil))))
    (pss_cons (ps_set (i := 5) S.nd rfl (Or.inl rfl) (pe_ix ix_list (pv 2) (pv 4) (by exact fun _ _ => rfl)))
    (pss_cons (ps_if (pt_val (pe_ix ix_list (pv 3) (pv 4) (by exact fun _ _ => rfl)))
        (pss_cons (ps_asg (pe_op op_fdiv (pv 5) (pv 1)) (pg_sub (pv 2) (pv 4) set_list (by intro _; rfl)))
          (pss_cons (ps_if (pt_cmpR op_eq (pe_ix ix_list (pv 2) (pv 4) (by exact fun _ _ => rfl)) pe_int (by with_unfolding_all rfl))
              (pss_cons (ps_asg pe_bl (pg_sub (pv 3) (pv 4) set_list (by intro _; rfl))) (pss_one (ps_asg (pe_add (xB 0) pe_int) (pg_sub (pv 0) pe_int set_list (by intro _; rfl))))) pss_nil)
            (pss_one (ps_ret (pe_op op_mod (pe_callTy call_int1 (by rfl) T.n_int (by decide +kernel) (pa_cons (pv 5) pa_nil)) (pv 1)))))) pss_nil)
    (pss_cons (ps_asg (pe_add (xB 0) pe_int) (pg_sub (pv 0) pe_int set_list (by intro _; rfl)))
      (pss_one (ps_ret (pe_op op_mod (pe_callTy call_int1 (by rfl) T.n_int (by decide +kernel) (pa_cons (pe_call Fm (hr.mono lm) (by rfl) gm kpm bm .nil pass0 (pa_cons (pv 5) (pa_cons (xB 0) pa_nil))) pa_nil)) (pv 1))))))))))
end
/-! ### what it does -/
section
variable {K : PySem.W.Frag} {z : Zn} {H0 G0 G H : Hp} {b c g : Addr} {i j : Int} {cs : List Int} {gs : List Bool} {E : XK}
theorem mix {Q : VK} {x y : Int} (ok : Ok z H0 G0 G H) (q : ∀ k G' H', Ok z H0 G0 G' H' → Q (.int k) H') : lSp K t_mixed [.int x, .int y] H Q E :=
  ⟨z, G, [.d (.int x), .d (.int y)], noX, fun r => ∃ k : Int, r = .d (.int k), ok.entry, .cons (.int x) (fun _ z => nomatch z) (.cons (.int y) (fun _ z => nomatch z) .nil), ⟨x, y, rfl, rfl, fun k => ⟨k, rfl⟩⟩, fun r hr _ v G' H' ok' rv => by
    obtain ⟨k, rfl⟩ := hr
    obtain rfl := rp_int rv
    exact q k G' H' (ok.back ok'), fun _ hx => hx.elim⟩
/-- int(_law_mixed(.., bag[3])) % limit -/
theorem do_mix {σ : L2.St} {n x : Int} {tc : TE} {D : Ends} (ok : Ok z H0 G0 G H) (B : Bg H b c g i j cs gs) (h0 : σ[0]? = some (some (.ref b))) (h1 : σ[1]? = some (some (.int n))) (hn : 0 < n) (ht : ∀ Q, Q (.int x) H → tc σ H Q) (q : ∀ k : Int, 0 ≤ k → k < n → ∀ G' H', Ok z H0 G0 G' H' → D.rt (.int k) H') : tMix K t_mixed tc D σ H := by
  show tc σ H _
  refine ht _ ?_
  refine ⟨_, h0, b, _, 3, .int j, rfl, rfl, SqL.of B.hb, rfl, ?_⟩
  refine mix ok fun k G' H' ok' => .inl ⟨k, rfl, _, h1, k, n, rfl, rfl, hn, q _ (Int.emod_nonneg _ (by omega)) (Int.emod_lt_of_pos _ hn) G' H' ok'⟩
/-- bag[m] = bag[m] + 1 -/
theorem do_step3 {σ : L2.St} {D : Ends} (B : Bg H b c g i j cs gs) (h0 : σ[0]? = some (some (.ref b))) (q : ∀ H', H' = upd H b (.lst [.ref c, .ref g, .int i, .int (j + 1)]) → Bg H' b c g i (j + 1) cs gs → D.nx σ H') : tStep K 3 D σ H := by
  refine ⟨_, h0, b, _, 3, .int j, rfl, rfl, SqL.of B.hb, rfl, j, 1, rfl, rfl, ?_⟩
  exact ⟨_, h0, b, _, 3, 3, rfl, rfl, B.hb, rfl, q _ rfl (B.setB i (j + 1))⟩
theorem do_step2 {σ : L2.St} {D : Ends} (B : Bg H b c g i j cs gs) (h0 : σ[0]? = some (some (.ref b))) (q : ∀ H', H' = upd H b (.lst [.ref c, .ref g, .int (i + 1), .int j]) → Bg H' b c g (i + 1) j cs gs → D.nx σ H') : tStep K 2 D σ H := by
  refine ⟨_, h0, b, _, 2, .int i, rfl, rfl, SqL.of B.hb, rfl, i, 1, rfl, rfl, ?_⟩
  exact ⟨_, h0, b, _, 2, 2, rfl, rfl, B.hb, rfl, q _ rfl (B.setB (i + 1) j)⟩
theorem sem_draw {n : Int} {D : Ends} (ok : Ok z H0 G0 G H) (ht : (b, c, g) ∈ z.bags) (hn : 0 < n ∧ n ≤ 1000000) (q : ∀ k : Int, 0 ≤ k → k < n → ∀ G' H', Ok z H0 G0 G' H' → D.rt (.int k) H') : ts_draw K t_mixed D [some (.ref b), some (.int n), none, none, none, none] H := by
  obtain ⟨i, j, cs, gs, B⟩ := Bg.of (ok.bag _ ht)
  replace B : Bg H b c g i j cs gs := B
  refine ⟨_, rfl, b, _, 0, .ref c, rfl, rfl, SqL.of B.hb, rfl, _, rfl, b, _, 1, .ref g, rfl, rfl, SqL.of B.hb, rfl, _, _, rfl, ?_⟩
  refine do_step3 B rfl fun H1 e1 B1 => ?_
  have ok1 : Ok z H0 G0 G H1 := by
    subst e1
    exact ok.putBag ht (.inl rfl) B1.ok
  clear e1
  refine ⟨_, rfl, _, cs.length, rfl, .inl ⟨_, SqL.of B1.hc, by simp⟩, rfl, _, rfl, ?_⟩
  by_cases hz : cs.length = 0
  · have e : decide (V.int (cs.length : Int) = V.int 0) = true := decide_eq_true (by rw [hz]; rfl)
    rw [e]
    dsimp only
    rw [if_pos rfl]
    exact do_mix ok1 B1 rfl rfl hn.1 (fun Q h => h) q
  · have e : decide (V.int (cs.length : Int) = V.int 0) = false := decide_eq_false fun h => hz (by
      have := V.int.inj h
      omega)
    rw [e]
    dsimp only
    rw [if_neg Bool.false_ne_true]
    have hl : (0 : Int) < (cs.length : Int) := by omega
    refine ⟨_, rfl, b, _, 2, .int i, rfl, rfl, SqL.of B1.hb, rfl, .inl ⟨i, rfl, _, rfl, _, cs.length, rfl, .inl ⟨_, SqL.of B1.hc, by simp⟩, i, (cs.length : Int), rfl, rfl, hl, ?_⟩⟩
    have k0 : 0 ≤ i % (cs.length : Int) := Int.emod_nonneg _ (by omega)
    have k1 : i % (cs.length : Int) < (cs.length : Int) := Int.emod_lt_of_pos _ hl
    obtain ⟨m, em⟩ := Int.eq_ofNat_of_zero_le k0
    dsimp only
    rw [em] at k1 ⊢
    have hm : m < cs.length := by omega
    have hmg : m < gs.length := by rw [← B1.l]; exact hm
    have ec : (cs.map V.int)[m]? = some (.int cs[m]) := by simp [hm]
    have eg : (gs.map V.bl)[m]? = some (.bl gs[m]) := by simp [hmg]
    refine ⟨_, rfl, _, rfl, c, _, (m : Int), _, rfl, rfl, SqL.of B1.hc, atI_nat ec, ?_⟩
    refine ⟨_, rfl, _, rfl, g, _, (m : Int), _, rfl, rfl, SqL.of B1.hg, atI_nat eg, _, rfl, ?_⟩
    have ix : ∀ {N : Nat}, m < N → ixN N (m : Int) = some m := fun {N} h => by
      unfold ixN
      rw [if_pos (by omega), if_pos (by omega)]
      simp
    cases gs[m] with
    | true =>
      dsimp only
      rw [if_pos rfl]
      refine ⟨_, rfl, _, rfl, _, _, rfl, rfl, ⟨hn.1, by omega⟩, _, rfl, _, rfl, c, _, _, m, rfl, rfl, B1.hc, ix (by simpa using hm), ?_⟩
      have B2 := B1.setC m (cs[m] / n)
      have ok2 := ok1.putBag ht (.inr (.inl rfl)) B2.ok
      revert B2 ok2
      generalize upd H1 c (.lst ((cs.map V.int).set m (.int (cs[m] / n)))) = H2
      intro B2 ok2
      have fin : ∀ H3, Ok z H0 G0 G H3 → (tRet (tOp rMod1 (tCB rInt1 (tCons (tVar 5) tNil)) (tVar 1))) D [some (.ref b), some (.int n), some (.ref c), some (.ref g), some (.int m), some (.int cs[m])] H3 := fun H3 ok3 =>
        ⟨_, rfl, .inl ⟨_, rfl, _, rfl, _, n, rfl, rfl, hn.1, q _ (Int.emod_nonneg _ (by omega)) (Int.emod_lt_of_pos _ hn.1) G H3 ok3⟩⟩
      have e3 : ((cs.set m (cs[m] / n)).map V.int)[m]? = some (.int (cs[m] / n)) := by simp [hm]
      refine ⟨_, rfl, _, rfl, c, _, (m : Int), _, rfl, rfl, SqL.of B2.hc, atI_nat e3, rfl, _, rfl, ?_⟩
      dsimp only
      split
      · refine ⟨_, rfl, _, rfl, g, _, _, m, rfl, rfl, B2.hg, ix (by simpa using hmg), ?_⟩
        have B3 := B2.setG m false
        have ok3 := ok2.putBag ht (.inr (.inr rfl)) B3.ok
        refine do_step2 B3 rfl fun H4 e4 B4 => fin H4 ?_
        subst e4
        exact ok3.putBag ht (.inl rfl) B4.ok
      · exact fin _ ok2
    | false =>
      dsimp only
      rw [if_neg Bool.false_ne_true]
      refine do_step2 B1 rfl fun H2 e2 B2 => ?_
      have ok2 : Ok z H0 G0 G H2 := by
        subst e2
        exact ok1.putBag ht (.inl rfl) B2.ok
      show tMix K t_mixed (tVar 5) D [some (.ref b), some (.int n), some (.ref c), some (.ref g), some (.int m), some (.int cs[m])] H2
      exact do_mix ok2 B2 rfl rfl hn.1 (fun Q h => ⟨_, rfl, h⟩) q
end
section
variable {P : Program} {w : World} {K : PySem.W.Frag} {mg : Str → Option Value} {base : Heap} {k : Nat}
theorem cal_draw (T : Tx mg K w) (F : Df K mg "_law_draw" s__law_draw []) {km : Nat} (cm : CalD P w K mg base km "_law_mixed" (lo0 t_mixed) []) (lm : km ≤ k) : CalD P w K mg base (k + 1) "_law_draw" (lo0 t_draw) [] := by
  obtain ⟨fm, fdm, psm, dsm, dvsm, Fm, gm, kpm, bm, vm, rm⟩ := cm.ex
  have ev : dvsm = [] := List.length_eq_zero_iff.mp ((rm (fun _ => none)).length)
  subst ev
  cases vm
  obtain ⟨f, fd, F, hm⟩ := F.ex
  refine ⟨f, fd, P__law_draw, [], [], F.ok sc__law_draw (fun vs H Q E h => ?_) (fun cdv A outer s H vs Q E hr h => ⟨_, (ps_draw T Fm gm kpm bm lm f cdv A outer s H E hr).nox, ?_⟩), hm, F.kp, F.bindsN fun _ _ _ _ _ _ us hl => match us, hl with | [_, _], _ => rfl, .nil, fun _ => .nil⟩
  · obtain ⟨z, G, ds, Wd, Qd, ok, r, h, _⟩ := h
    obtain ⟨a, rfl, _⟩ := pB1_of (show t_draw ds noX Qd from h)
    exact r.length
  · obtain ⟨z, G, ds, Wd, Qd, ok, r, h, q, _⟩ := h
    obtain ⟨a, rfl, n, rfl, hn, hq⟩ := pB1_of (show t_draw ds noX Qd from h)
    cases r with
    | cons r1 _ r =>
      cases r with
      | cons r2 _ r =>
        cases r
        obtain ⟨⟨b, c, g⟩, ht, rfl⟩ := r1
        obtain rfl := rp_int r2
        exact sem_draw (D := { nx := fun _ H' => Q .non H', rt := Q }) ok ht hn fun k h0 h1 G' H' ok' => q _ (hq k h0 h1) nown_d _ G' H' ok' (.int k)
end
end K

set_option Elab.async false
set_option linter.all false
set_option maxRecDepth 100000
set_option maxHeartbeats 4000000
namespace DL
open PySem PySem.Spec PyProof.Rows L2
/-! ### d.update(a dict) -/
def rUpd : V → List V → Hp → VK → Prop := fun x vs H Q => ∃ d o kvs more, x = .ref d ∧ vs = [.ref o] ∧ H d = some (.dK kvs) ∧ H o = some (.dK more) ∧ d ≠ o ∧ kvs.length + more.length ≤ sizeLine ∧ Q .non (upd H d (.dK (mergeK kvs more)))
theorem mt_upd {X : Cx} : MtM X "dict.update" rUpd := by
  intro pins s σ H x vs v us Q I rx rv h
  obtain ⟨d, o, kvs, more, rfl, rfl, hd, ho, hne, hz, q⟩ := h
  cases rx
  obtain ⟨u, rfl, ru⟩ := rv.one
  cases ru
  obtain ⟨z1, s1, vs1, r1, d1⟩ := dk_of I.hok hd
  obtain ⟨z2, s2, vs2, r2, d2⟩ := dk_of I.hok ho
  refine call_meetsIn PySem.F.slot_dict_update d1.typeIs PySem.F.entry_dict_update (PySem.F.args_dict_update_2 _ _) (meets_dict_update (mixKind X.prog X.w) d o hne s2)
    ⟨vs1, vs2, d1, d2, by rw [← r1.length, ← r2.length]; exact hz, fun h' hm _ hs => ⟨.non, _, ?_, rfl, q⟩⟩
  have he : ∃ q, h'.get? d = some q := let ⟨q, _, _, hq, _⟩ := hm; ⟨q, hq⟩
  exact d_write I (by rw [hd]; exact True.intro) hs he (dk_new (Nat.le_trans (length_mergeK more kvs) hz) s1 (KV.merge r2 r1) hm)
end DL
namespace K
open PySem PySem.Spec PyProof.Rows L2 DL
abbrev N__law_shapes : List Str := ["shapes", "kind", "kinds", "more"]
abbrev P__law_shapes : List Str := []
abbrev s__law_shapes : Stmt := top 44
theorem sc__law_shapes : FnScope N__law_shapes P__law_shapes (defScope s__law_shapes) := ⟨rfl, rfl, rfl, by decide +kernel, rfl, by decide +kernel, by decide +kernel⟩
abbrev tC2 (a b : Str) : TE × TE := (tC (.str a), tC (.str b))
def tCs : List Str → TA
  | [] => tNil
  | x :: r => tCons (tC (.str x)) (tCs r)
abbrev sh1 : List (Str × Str) := [("nothing", ""), ("number", "n"), ("text", "t"), ("name", "x"), ("list", "l"), ("op", "oee"), ("test", "cee"), ("fall", "")]
abbrev sh2 : List Str := ["or", "and", "to", "every", "while", "scan", "put", "at"]
abbrev sh3 : List Str := ["first", "no", "again", "items", "back", "out", "keep", "ask", "anew", "move", "tab", "find", "reach", "many"]
abbrev sh4 : List Str := ["match", "take", "size", "say"]
abbrev sh5 : List (Str × Str) := [("if", "eee"), ("place", "eee"), ("most", "me"), ("give", "xe"), ("lend", "xe"), ("do", "d"), ("call", "ea"), ("here", "")]
abbrev tD (l : List (Str × Str)) : TE := tDisp (l.map fun p => tC2 p.1 p.2)
abbrev tP (y : Str) : TS := sDPut (tVar 0) (tVar 1) (tC (.str y))
def ts_shapes (K : PySem.W.Frag) : TS :=
  tSeq (tAsg (tD sh1) (gName 0))
  (tSeq (tFor (iAny K (tLst (tCs sh2))) (gName 1) (tP "ee"))
  (tSeq (tAsg (tLst (tCs sh3)) (gName 2))
  (tSeq (tFor (iAny K (tOp rCatL (tVar 2) (tLst (tCs sh4)))) (gName 1) (tP "e"))
  (tSeq (tAsg (tD sh5) (gName 3))
  (tSeq (tDrop (tBM K "dict" rUpd (tVar 0) (tCons (tVar 3) tNil)))
  (tRet (tVar 0)))))))
section
variable {P : Program} {w : World} {K : PySem.W.Frag} {mg : Str → Option Value} {base : Heap} {k : Nat}
theorem ps_shapes (f : Addr) (cdv : Value) (A : Around) (outer : List Env) (s : Shared) (H : Hp) (E : XK) (hr : Room k (A.deeper (envOfC "_law_shapes" (defScope s__law_shapes) s.heap.objs.size f cdv))) :
    PSs (cxOf CX0 P w K mg base N__law_shapes "_law_shapes" (defScope s__law_shapes) f cdv A outer s H E).nox (defBody s__law_shapes) (ts_shapes K) :=
  have S := sc__law_shapes
  have hu : (A.deeper (envOfC "_law_shapes" (defScope s__law_shapes) s.heap.objs.size f cdv)).units + 1 < cLine := Nat.lt_of_le_of_lt (Nat.add_le_add_left (by decide) _) hr.units
  pss_cons (ps_set (i := 0) S.nd rfl (Or.inl rfl) (pe_disp (pps_cons pe_str pe_str (pps_cons pe_str pe_str (pps_cons pe_str pe_str (pps_cons pe_str pe_str (pps_cons pe_str pe_str (pps_cons pe_str pe_str (pps_cons pe_str pe_str (pps_cons pe_str pe_str pps_nil)))))))) rfl rfl (by simp) (by decide)))
  (pss_cons (ps_for PassesOwn.never rfl (pi_any (pe_lst (pa_cons pe_str (pa_cons pe_str (pa_cons pe_str (pa_cons pe_str (pa_cons pe_str (pa_cons pe_str (pa_cons pe_str (pa_cons pe_str pa_nil)))))))))) (pg_name (i := 1) S.nd rfl (Or.inl rfl)) (pss_one (ps_dput hu (pv 0) (pv 1) pe_str rfl)))
  (pss_cons (ps_set (i := 2) S.nd rfl (Or.inl rfl) (pe_lst (pa_cons pe_str (pa_cons pe_str (pa_cons pe_str (pa_cons pe_str (pa_cons pe_str (pa_cons pe_str (pa_cons pe_str (pa_cons pe_str (pa_cons pe_str (pa_cons pe_str (pa_cons pe_str (pa_cons pe_str (pa_cons pe_str (pa_cons pe_str pa_nil))))))))))))))))
  (pss_cons (ps_for PassesOwn.never rfl (pi_any (pe_op op_catL (pv 2) (pe_lst (pa_cons pe_str (pa_cons pe_str (pa_cons pe_str (pa_cons pe_str pa_nil))))))) (pg_name (i := 1) S.nd rfl (Or.inl rfl)) (pss_one (ps_dput hu (pv 0) (pv 1) pe_str rfl)))
  (pss_cons (ps_set (i := 3) S.nd rfl (Or.inl rfl) (pe_disp (pps_cons pe_str pe_str (pps_cons pe_str pe_str (pps_cons pe_str pe_str (pps_cons pe_str pe_str (pps_cons pe_str pe_str (pps_cons pe_str pe_str (pps_cons pe_str pe_str (pps_cons pe_str pe_str pps_nil)))))))) rfl rfl (by simp) (by decide)))
  (pss_cons (ps_expr (pe_bm PySem.F.plainAttrs_dict PySem.F.slot_dict_update PySem.F.type_dict_update mt_upd (pv 0) (pa_cons (pv 3) pa_nil)) rfl)
  (pss_one (ps_ret (pv 0))))))))
end
/-! ### what it does -/
section
variable {K : PySem.W.Frag} {z : Zn} {H0 G0 G H : Hp} {p q : Addr} {kvs : List (Key × V)} {o : HO}
/-- the dict that is being made -/
structure Mk (K : PySem.W.Frag) (z : Zn) (H0 G0 G H : Hp) (p : Addr) (kvs : List (Key × V)) : Prop where
  so : SO K z H0 G0 [] [] G H
  l : Lone z H0 [] [] G H p
  h : H p = some (.dK kvs)
theorem Mk.start (so : SO K z H0 G0 [] [] G H) (hp : H p = none) : Mk K z H0 G0 G (upd H p (.dK kvs)) p kvs := ⟨so.newOwn hp, (so.free hp).heap, upd_same⟩
theorem Mk.new (M : Mk K z H0 G0 G H p kvs) (hq : H q = none) : Mk K z H0 G0 G (upd H q o) p kvs := ⟨M.so.newOwn hq, M.l.heap, by rw [upd_ne (ne_of_none M.h hq)]; exact M.h⟩
theorem Mk.put (M : Mk K z H0 G0 G H p kvs) (kvs' : List (Key × V)) : Mk K z H0 G0 G (upd H p (.dK kvs')) p kvs' := ⟨M.so.putAt M.l, M.l.heap, upd_same⟩
/-- a key written for each of xs -/
def putAll (y : V) (xs : List Str) (kvs : List (Key × V)) : List (Key × V) := xs.foldl (fun acc x => putK acc (.inr x) y) kvs
theorem tCs_run {σ : L2.St} {Q : List V → Hp → Prop} : ∀ {xs : List Str}, Q (xs.map V.str) H → tCs xs σ H Q
  | [], h => h
  | x :: r, h => tCs_run (xs := r) (Q := fun vs H' => Q (.str x :: vs) H') h
theorem for_put {xs : List Str} {y : Str} {D : Ends} {s2 s3 : Option V} {ti : TI} (hi : ∀ R : It → Hp → Prop, (∀ q H', Mk K z H0 G0 G H' p kvs → H' q = some (.lst (xs.map V.str)) → R (Itl K q) H') → ti [some (.ref p), u, s2, s3] H R) (hz : kvs.length + xs.length < sizeLine)
    (hq : ∀ H' u', Mk K z H0 G0 G H' p (putAll (.str y) xs kvs) → D.nx [some (.ref p), u', s2, s3] H') : tFor ti (gName 1) (tP y) D [some (.ref p), u, s2, s3] H := by
  refine hi _ fun q H1 M1 hl => ?_
  refine ⟨fun i m σ H => m = xs.length - i ∧ i ≤ xs.length ∧ (∃ u', σ = [some (.ref p), u', s2, s3]) ∧ Mk K z H0 G0 G H p (putAll (.str y) (xs.take i) kvs) ∧ H q = some (.lst (xs.map V.str)), ⟨xs.length, rfl, Nat.zero_le _, ⟨_, rfl⟩, M1, hl⟩, ?_⟩
  rintro i m σ H2 ⟨rfl, hi, ⟨u', rfl⟩, M2, hl2⟩
  have hpq : q ≠ p := fun e => by
    subst e
    rw [M2.h] at hl2
    cases hl2
  by_cases hlt : i < xs.length
  · have ex : (xs.map V.str)[i]? = some (.str xs[i]) := by simp [hlt]
    refine .inr ⟨⟨_, _, SqL.of hl2, ex⟩, fun σ H => (∃ u', σ = [some (.ref p), u', s2, s3]) ∧ Mk K z H0 G0 G H p (putAll (.str y) (xs.take (i + 1)) kvs) ∧ H q = some (.lst (xs.map V.str)), fun σ' H' ⟨h1, h2, h3⟩ => ⟨_, by omega, rfl, hlt, h1, h2, h3⟩, fun x H3 hy => ?_⟩
    obtain ⟨rfl, hy⟩ := hy
    have hx := hy _ (SqL.of hl2)
    rw [ex] at hx
    cases hx
    have el : putAll (.str y) (xs.take (i + 1)) kvs = putK (putAll (.str y) (xs.take i) kvs) (.inr xs[i]) (.str y) := by
      unfold putAll
      rw [List.take_succ_eq_append_getElem hlt, List.foldl_append]
      rfl
    refine ⟨_, rfl, _, rfl, p, _, rfl, DPut.k (k := .inr xs[i]) M2.h ?_, ⟨_, rfl⟩, ?_, ?_⟩
    · have h1 : ∀ (l : List Str) (kvs : List (Key × V)), (putAll (.str y) l kvs).length ≤ kvs.length + l.length := fun l => by
        induction l with
        | nil => intro kvs; exact Nat.le_refl _
        | cons a r ih =>
          intro kvs
          have h2 := ih (putK kvs (.inr a) (.str y))
          have h3 := length_putK kvs (Sum.inr a : Key) (.str y)
          show (putAll (.str y) r (putK kvs (.inr a) (.str y))).length ≤ _
          rw [List.length_cons]
          omega
      have h2 := h1 (xs.take i) kvs
      have h3 : (xs.take i).length ≤ xs.length := by rw [List.length_take]; omega
      omega
    · rw [el]
      exact M2.put _
    · rw [upd_ne hpq]
      exact hl2
  · have e : i = xs.length := by omega
    subst e
    rw [List.take_length] at M2
    exact .inl ⟨⟨_, SqL.of hl2, by simp⟩, hq H2 u' M2⟩
/-- {..} with texts -/
theorem disp_run {σ : L2.St} {l : List (Str × Str)} {Q : VK} (hl : l.length ≤ 15) (hq : ∀ p, H p = none → Q (.ref p) (upd H p (.dK (mergeK [] (l.map fun x => ((.inr x.1 : Key), V.str x.2)))))) : tD l σ H Q := by
  intro p hp
  have go : ∀ (l : List (Str × Str)) (H : Hp) (Q : List (V × V) → Hp → Prop), Q (l.map fun x => (V.str x.1, V.str x.2)) H → tPairs (l.map fun p => tC2 p.1 p.2) σ H Q := fun l => by
    induction l with
    | nil => exact fun H Q h => h
    | cons x r ih => exact fun H Q h => ih H _ h
  refine go l _ _ ⟨upd_same, l.map fun x => ((.inr x.1 : Key), V.str x.2), ?_, by simpa using hl, ?_⟩
  · rw [List.map_map]
    rfl
  · have e : upd (upd H p (.dK [])) p (.dK (mergeK [] (l.map fun x => ((.inr x.1 : Key), V.str x.2)))) = upd H p (.dK (mergeK [] (l.map fun x => ((.inr x.1 : Key), V.str x.2)))) := upd_upd
    rw [e]
    exact hq p hp
theorem run_seq {t u : TS} {D : Ends} {σ : L2.St} (h : t { D with nx := u D } σ H) : tSeq t u D σ H := h
theorem run_set {te : TE} {D : Ends} {σ : L2.St} {i : Nat} (h : te σ H fun x H1 => D.nx (σ.set i (some x)) H1) : tAsg te (gName i) D σ H := h
theorem run_lst {t : TA} {σ : L2.St} {Q : VK} (h : t σ H fun xs H1 => xs.length ≤ sizeLine ∧ ∀ p, H1 p = none → Q (.ref p) (upd H1 p (.lst xs))) : tLst t σ H Q := h
def shK : List (Key × V) := mergeK (putAll (.str "e") (sh3 ++ sh4) (putAll (.str "ee") sh2 (mergeK [] (sh1.map fun x => ((.inr x.1 : Key), V.str x.2))))) (mergeK [] (sh5.map fun x => ((.inr x.1 : Key), V.str x.2)))
theorem shK_eq : shK = TBL.map fun p => ((.inr p.1 : Key), V.str (lettersOf p.2)) := by decide +kernel
theorem shK_rp (G : Hp) : RpKv K G shK SHP := by
  rw [shK_eq]
  have go : ∀ l : List (Str × List Lt), RpKv K G (l.map fun p => ((.inr p.1 : Key), V.str (lettersOf p.2))) (l.map fun p => (.str p.1, .str (lettersOf p.2))) := fun l => by
    induction l with
    | nil => exact .nil
    | cons x r ih => exact .cons (k := .inr x.1) (.str _) ih
  exact go TBL
theorem sem_shapes {D : Ends} (ok : Ok z H0 G0 G H) (q : ∀ p G' H', Ok z H0 G0 G' H' → Rp K G' (.ref p) (.dict SHP) → D.rt (.ref p) H') : ts_shapes K D [none, none, none, none] H := by
  have so : SO K z H0 G0 [] [] G H := ⟨ok, rfl, fun _ _ e => by simp at e, fun _ _ _ _ _ e => by simp at e⟩
  unfold ts_shapes
  refine run_seq (run_set (disp_run (l := sh1) (by decide) fun p hp => run_seq ?_))
  dsimp only [List.set_cons_zero]
  refine for_put (K := K) (z := z) (H0 := H0) (G0 := G0) (G := G) (xs := sh2) (kvs := mergeK [] (sh1.map fun x => ((.inr x.1 : Key), V.str x.2))) (fun R hR => ?_) (by decide +kernel) fun H1 u1 M1 => ?_
  · refine tCs_run ⟨by decide, fun l hl => .inl ⟨l, rfl, ⟨_, SqL.of upd_same⟩, hR l _ ((Mk.start so hp).new hl) upd_same⟩⟩
  refine run_seq (run_set (run_lst (tCs_run (xs := sh3) ⟨by decide, fun l hl => run_seq ?_⟩)))
  dsimp only [List.set_cons_zero, List.set_cons_succ]
  have M2 := M1.new (o := .lst (sh3.map V.str)) hl
  have hl2 : upd H1 l (.lst (sh3.map V.str)) l = some (.lst (sh3.map V.str)) := upd_same
  generalize upd H1 l (.lst (sh3.map V.str)) = H2 at M2 hl2
  refine for_put (K := K) (z := z) (H0 := H0) (G0 := G0) (G := G) (p := p) (xs := sh3 ++ sh4) (kvs := putAll (.str "ee") sh2 (mergeK [] (sh1.map fun x => ((.inr x.1 : Key), V.str x.2)))) (fun R hR => ?_) (by decide +kernel) fun H3 u2 M3 => ?_
  · refine ⟨_, rfl, tCs_run (xs := sh4) ⟨by decide, fun l4 hl4 => ⟨l, l4, sh3.map V.str, sh4.map V.str, rfl, rfl, .inl ?_, .inl upd_same, by decide, fun l5 hl5 => .inl ⟨l5, rfl, ⟨_, SqL.of upd_same⟩, hR l5 _ ((M2.new hl4).new hl5) ?_⟩⟩⟩⟩
    · rw [upd_ne (ne_of_none hl2 hl4)]
      exact hl2
    · rw [upd_same, List.map_append]
  refine run_seq (run_set (disp_run (l := sh5) (by decide) fun m hm => run_seq ?_))
  dsimp only [List.set_cons_zero, List.set_cons_succ]
  have M4 := M3.new (o := .dK (mergeK [] (sh5.map fun x => ((.inr x.1 : Key), V.str x.2)))) hm
  have hm2 : upd H3 m (.dK (mergeK [] (sh5.map fun x => ((.inr x.1 : Key), V.str x.2)))) m = some (.dK (mergeK [] (sh5.map fun x => ((.inr x.1 : Key), V.str x.2)))) := upd_same
  have hpm : p ≠ m := ne_of_none M3.h hm
  generalize upd H3 m (.dK (mergeK [] (sh5.map fun x => ((.inr x.1 : Key), V.str x.2)))) = H4 at M4 hm2
  refine ⟨_, rfl, .inr (.inr (.inl ⟨rfl, .inl ⟨_, M4.h⟩⟩)), _, rfl, p, m, _, _, rfl, rfl, M4.h, hm2, hpm, by decide +kernel, ?_⟩
  have M5 := M4.put shK
  refine ⟨_, rfl, q p _ _ (M5.so.tell M5.l M5.h).ok (.dic (.inl upd_same) (shK_rp _))⟩
end
section
variable {P : Program} {w : World} {K : PySem.W.Frag} {mg : Str → Option Value} {base : Heap} {k : Nat}
theorem cal_shapes (F : Df K mg "_law_shapes" s__law_shapes []) : CalD P w K mg base (k + 1) "_law_shapes" (lo0 t_shapes) [] := by
  obtain ⟨f, fd, F, hm⟩ := F.ex
  refine ⟨f, fd, P__law_shapes, [], [], F.ok sc__law_shapes (fun vs H Q E h => ?_) (fun cdv A outer s H vs Q E hr h => ⟨_, (ps_shapes f cdv A outer s H E hr).nox, ?_⟩), hm, F.kp, F.bindsN fun _ _ _ _ _ _ us hl => match us, hl with | [], _ => rfl, .nil, fun _ => .nil⟩
  · obtain ⟨z, G, ds, Wd, Qd, ok, r, h, _⟩ := h
    obtain ⟨rfl, _⟩ := p0_of (show t_shapes ds noX Qd from h)
    exact r.length
  · obtain ⟨z, G, ds, Wd, Qd, ok, r, h, q, _⟩ := h
    obtain ⟨rfl, hq⟩ := p0_of (show t_shapes ds noX Qd from h)
    cases r
    exact sem_shapes (D := { nx := fun _ H' => Q .non H', rt := Q }) ok fun p G' H' ok' rp => q _ hq nown_d _ G' H' ok' rp
end
end K

set_option Elab.async false
set_option linter.all false
set_option maxRecDepth 100000
set_option maxHeartbeats 4000000
namespace K
open PySem PySem.Spec PyProof.Rows L2 DL
abbrev N__law_bag : List Str := ["script", "cells", "cell"]
abbrev P__law_bag : List Str := ["script"]
abbrev s__law_bag : Stmt := top 37
theorem sc__law_bag : FnScope N__law_bag P__law_bag (defScope s__law_bag) := ⟨rfl, rfl, rfl, by decide +kernel, rfl, by decide +kernel, by decide +kernel⟩
abbrev rAbs1 : List V → Hp → VK → Prop := fun xs H Q => ∃ i, xs = [V.int i] ∧ Q (V.int (if i < 0 then -i else i)) H
def tCell1 : TE := tCB rAbs1 (tCons (tCB rInt1 (tCons (tVar 2) tNil)) tNil)
def tCell2 : TE := tOp (rI0 fun i j => V.bl (decide (j ≤ i))) (tVar 2) (tOp (rI CPow fun i j => V.int (i ^ j.toNat)) (tC (.int 10)) (tC (.int 18)))
def ts_bag (K : PySem.W.Frag) : TS :=
  tSeq (tAsg (tLc (iAny K (tSl (rSlL K) (tVar 0) tNoPart (tPart (tC (.int 63))))) (gName 2) tYes tCell1 [2]) (gName 1))
    (tRet (tLst (tCons (tVar 1) (tCons (tLc (iAny K (tVar 1)) (gName 2) tYes tCell2 [2]) (tCons (tC (.int 0)) (tCons (tC (.int 0)) tNil))))))
section
variable {P : Program} {w : World} {K : PySem.W.Frag} {mg : Str → Option Value} {base : Heap} {k : Nat}
theorem ps_bag (T : Tx mg K w) (f : Addr) (cdv : Value) (A : Around) (outer : List Env) (s : Shared) (H : Hp) (E : XK) (hr : Room k (A.deeper (envOfC "_law_bag" (defScope s__law_bag) s.heap.objs.size f cdv))) :
    PSs (cxOf CX0 P w K mg base N__law_bag "_law_bag" (defScope s__law_bag) f cdv A outer s H E).nox (defBody s__law_bag) (ts_bag K) :=
  have S := sc__law_bag
  pss_cons (ps_setLc (i := 1) (own := [("cell", 2)]) rfl S.nd rfl rfl (sw_true rfl rfl rfl (by decide +kernel)) (pi_any (pe_slice sl_list (pv 0) po_none (po_some pe_int))) (blkOk_by (N := N__law_bag) (sc := defScope s__law_bag) (own := [("cell", 2)]) (by decide +kernel))
    (fun _ _ _ _ _ => pg_name (i := 2) S.nd rfl (by first | exact .inl rfl | exact .inr rfl)) (fun _ _ _ _ _ => pts_nil) (fun _ _ _ _ _ => pe_callB call_abs (by rfl) T.n_abs (by decide +kernel) (pa_cons (pe_callTy call_int1 (by rfl) T.n_int (by decide +kernel) (pa_cons (pv 2) pa_nil)) pa_nil)))
  (pss_one (ps_ret (pe_lst (pa_cons (pv 1) (pa_cons (pe_lc (own := [("cell", 2)]) rfl S.nd (pi_any (pv 1)) (blkOk_by (N := N__law_bag) (sc := defScope s__law_bag) (own := [("cell", 2)]) (by decide +kernel))
    (fun _ _ _ _ _ => pg_name (i := 2) S.nd rfl (by first | exact .inl rfl | exact .inr rfl)) (fun _ _ _ _ _ => pts_nil) (fun _ _ _ _ _ => pe_cmpR op_ge (pv 2) (pe_op op_pow pe_int pe_int) (by with_unfolding_all rfl))) (pa_cons pe_int (pa_cons pe_int pa_nil)))))))
end
section
variable {K : PySem.W.Frag} {H : Hp}
/-- a comprehension over whole numbers -/
theorem lc_run {ti : TI} {te : TE} {f : Int → V} {σ : L2.St} {v : Nat} {Q : VK} {ns : List Int} (hi : ∀ R : It → Hp → Prop, (∀ a H1, DL.Ex H H1 → SqL K H1 a (ns.map V.int) → R (Itl K a) H1) → ti σ H R) (hz : ns.length < sizeLine) (hv : v < σ.length)
    (he : ∀ (σ' : L2.St) (H' : Hp) (n : Int) (Q' : VK), σ'[v]? = some (some (.int n)) → Q' (f n) H' → te σ' H' Q') (hq : ∀ (D : Addr) (H' : Hp), DL.Ex H H' → H D = none → H' D = some (.lst (ns.map f)) → Q (.ref D) H') : tLc ti (gName v) tYes te [v] σ H Q := by
  refine hi _ fun a H1 ex0 ha D hD => ?_
  refine ⟨fun i m H => m = ns.length - i ∧ i ≤ ns.length ∧ DL.Ex H1 H ∧ H D = some (.lst ((ns.take i).map f)), ⟨ns.length, rfl, Nat.zero_le _, DL.Ex.new hD, by rw [upd_same]; rfl⟩, ?_⟩
  rintro i m H2 ⟨rfl, hi, ex, hd⟩
  have ha2 := ex.sqL ha
  by_cases hlt : i < ns.length
  · have e1 : (ns.map V.int)[i]? = some (.int ns[i]) := by simp [hlt]
    refine .inr ⟨⟨_, _, ha2, e1⟩, fun H => DL.Ex H1 H ∧ H D = some (.lst ((ns.take (i + 1)).map f)), fun H' ⟨h1, h2⟩ => ⟨_, by omega, rfl, hlt, h1, h2⟩, fun x H3 hy => ?_⟩
    obtain ⟨rfl, hy⟩ := hy
    have hx := hy _ ha2
    rw [e1] at hx
    cases hx
    have hw : v < (wipe σ [v]).length := by rw [wipe_length]; exact hv
    refine ⟨?_, ?_⟩
    · show ((wipe σ [v]).set v (some (.int ns[i]))).set v none = (σ.set v none)
      show (((σ.set v none).set v (some (.int ns[i]))).set v none = σ.set v none)
      rw [List.set_set, List.set_set]
    · refine he _ _ ns[i] _ (by rw [List.getElem?_set_self hw]) ⟨_, hd, by simp; omega, ?_, ?_⟩
      · exact fun b o hb => by
          have hne : b ≠ D := fun e => by
            subst e
            rw [hD] at hb
            cases hb
          rw [upd_ne hne]
          exact ex b o hb
      · rw [upd_same, List.take_succ_eq_append_getElem hlt, List.map_append]
        rfl
  · have e : i = ns.length := by omega
    subst e
    rw [List.take_length] at hd
    exact .inl ⟨⟨_, ha2, by simp⟩, hq D H2 (ex0.trans ex) (ex0.free hD) hd⟩
/-- the bag is made -/
def spBag (K : PySem.W.Frag) : Sp := fun vs H Q _ => ∃ (a : Addr) (ns : List Int), vs = [.ref a] ∧ SqL K H a (ns.map V.int) ∧ ns.length < sizeLine ∧ ∀ (b c g : Addr) (H' : Hp), DL.Ex H H' → H b = none → H c = none → H g = none → BagOk H' b c g → Q (.ref b) H'
theorem sem_bag {D : L2.Ends} {a : Addr} {ns : List Int} (ha : SqL K H a (ns.map V.int)) (hz : ns.length < sizeLine) (q : ∀ (b c g : Addr) (H' : Hp), DL.Ex H H' → H b = none → H c = none → H g = none → BagOk H' b c g → D.rt (.ref b) H') : ts_bag K D [some (.ref a), none, none] H := by
  have ec : cutV (ns.map V.int) none (some 63) = (ns.take 63).map V.int := by
    unfold cutV
    rw [List.length_map, HT.sIx_none, show (some (63 : Int)) = some ((63 : Nat) : Int) from rfl, HT.sIx_nat, List.drop_zero, Nat.sub_zero, List.map_take]
    by_cases h : 63 ≤ ns.length
    · rw [Nat.min_eq_left h]
    · rw [Nat.min_eq_right (by omega), List.take_of_length_le (by simp), List.take_of_length_le (by simp; omega)]
  have l63 : (ns.take 63).length ≤ 63 := by rw [List.length_take]; omega
  unfold ts_bag
  refine run_seq (run_set ?_)
  refine lc_run (K := K) (ns := ns.take 63) (f := fun n => V.int (if n < 0 then -n else n)) (fun R hR => ?_) (Nat.lt_of_le_of_lt l63 (by decide)) (by simp) (fun σ' H' n Q' h q => ⟨_, h, .inl ⟨n, rfl, n, rfl, q⟩⟩) fun c H1 ex1 hc0 hc => ?_
  · refine ⟨_, rfl, _, rfl, a, _, rfl, ha, fun p hp => .inl ⟨p, rfl, ⟨_, SqL.of upd_same⟩, hR p _ (DL.Ex.new hp) (SqL.of ?_)⟩⟩
    rw [upd_same, ec]
  dsimp only [List.set_cons_zero, List.set_cons_succ]
  refine ⟨_, rfl, ?_⟩
  have hc' : H1 c = some (.lst (((ns.take 63).map fun n => if n < 0 then -n else n).map V.int)) := by
    rw [hc, List.map_map]
    rfl
  refine lc_run (K := K) (ns := (ns.take 63).map fun n => if n < 0 then -n else n) (f := fun n => V.bl (decide (10 ^ 18 ≤ n))) (fun R hR => ?_) (by rw [List.length_map]; exact Nat.lt_of_le_of_lt l63 (by decide)) (by simp) (fun σ' H' n Q' h q => ?_) fun g H2 ex2 hg0 hg => ?_
  · exact ⟨_, rfl, .inl ⟨c, rfl, ⟨_, SqL.of hc'⟩, hR c _ (DL.Ex.refl _) (SqL.of hc')⟩⟩
  · exact ⟨_, h, ⟨10, 18, rfl, rfl, ⟨by decide, by decide, by decide⟩, n, _, rfl, rfl, q⟩⟩
  refine ⟨(by decide : 4 ≤ sizeLine), fun b hb => ?_⟩
  have ex12 := ex1.trans ex2
  have hc2 := ex2 c _ hc'
  refine q b c g _ (ex12.trans (DL.Ex.new hb)) (ex12.free hb) hc0 (ex1.free hg0) ⟨⟨0, 0, (ns.take 63).map (fun n => if n < 0 then -n else n), ((ns.take 63).map fun n => if n < 0 then -n else n).map fun n => decide (10 ^ 18 ≤ n), upd_same, ?_, ?_, ?_, ?_⟩, ?_, ?_, ?_⟩
  · rw [upd_ne (ne_of_none hc2 hb)]
    exact hc2
  · rw [upd_ne (ne_of_none hg hb), hg, List.map_map (f := fun n : Int => decide (10 ^ 18 ≤ n))]
    rfl
  · rw [List.length_map, List.length_map, List.length_map]
  · rw [List.length_map]
    exact l63
  · exact (ne_of_none hc2 hb).symm
  · exact (ne_of_none hg hb).symm
  · exact ne_of_none hc' hg0
end
section
variable {P : Program} {w : World} {K : PySem.W.Frag} {mg : Str → Option Value} {base : Heap} {k : Nat}
/-- .. where it stands *-/
structure CalB (P : Program) (w : World) (K : PySem.W.Frag) (mg : Str → Option Value) (base : Heap) (k : Nat) (x : Str) (sp : Sp) : Prop where
  ex : ∃ (f : Addr) (fd : FuncData) (ps : List Str), FnOk P w K mg base CX0 k f fd ps sp ∧ mg x = some (.ref f) ∧ PySem.W.keepIn K (.ref f) = true ∧ Binds K fd ps []
theorem cal_bag (T : Tx mg K w) (F : Df K mg "_law_bag" s__law_bag []) : CalB P w K mg base (k + 1) "_law_bag" (spBag K) := by
  obtain ⟨f, fd, F, hm⟩ := F.ex
  refine ⟨f, fd, P__law_bag, F.ok sc__law_bag (fun vs H Q E h => ?_) (fun cdv A outer s H vs Q E hr h => ⟨_, (ps_bag T f cdv A outer s H E hr).nox, ?_⟩), hm, F.kp, F.bindsN fun _ _ _ _ _ _ us hl => match us, hl with | [_], _ => rfl⟩
  · obtain ⟨a, ns, rfl, _⟩ := h
    rfl
  · obtain ⟨a, ns, rfl, h1, h2, h3⟩ := h
    exact sem_bag (D := { nx := fun _ H' => Q .non H', rt := Q }) h1 h2 h3
end
end K

set_option Elab.async false
set_option linter.all false
set_option maxRecDepth 100000
set_option maxHeartbeats 4000000
namespace DL
open PySem PySem.Spec PyProof.Rows L2
/-- the promise that asks for nothing that is -/
def t_none : DSp := fun _ _ _ => False
section
variable {P : Program} {w : World} {K : PySem.W.Frag} {mg : Str → Option Value} {base : Heap} {x : Str} {st : Stmt} {N ps : List Str} {k : Nat} {t t' : DSp} {dd : List D}
theorem fn_none {f : Addr} {fd : FuncData} : FnOk P w K mg base CX0 k f fd ps (lSp K (lo0 t_none)) :=
  ⟨fun vs H Q E h => by
    obtain ⟨z, G, ds, Wd, Qd, _, _, h, _⟩ := h
    exact (show False from h).elim, fun A outer s H args us vs Q E _ _ _ _ h => by
    obtain ⟨z, G, ds, Wd, Qd, _, _, h, _⟩ := h
    exact (show False from h).elim⟩
theorem cal_none (F : Df K mg x st []) (S : FnScope N ps (defScope st)) (hb : ∀ (kV doc pm : Value) (an : Option Addr) (cdv ct : Value) (us : List Value), us.length = ps.length → bindArgs (PySem.W.fnOf x x (defArgs st) (defBody st) (defScope st) .none kV doc pm an cdv ct) ⟨us, []⟩ = pure (ps.zip us)) : CalD P w K mg base 0 x (lo0 t_none) [] := by
  obtain ⟨f, fd, F, hm⟩ := F.ex
  exact ⟨f, fd, ps, [], [], fn_none, hm, F.kp, F.bindsN hb, .nil, fun _ => .nil⟩
theorem CalD.imp (c : CalD P w K mg base k x (lo0 t) dd) (h : ∀ as Q, t' as noX Q → t as noX Q) : CalD P w K mg base k x (lo0 t') dd := by
  obtain ⟨f, fd, ps, ds, dvs, F, hm, kp, hb, hd, hdd⟩ := c.ex
  refine ⟨f, fd, ps, ds, dvs, F.imp fun vs H Q E q => ?_, hm, kp, hb, hd, hdd⟩
  obtain ⟨z, G, ds, Wd, Qd, ok, r, q, a, b⟩ := q
  exact ⟨z, G, ds, Wd, Qd, ok, r, h _ _ q, a, b⟩
end
end DL
namespace K
open PySem PySem.Spec PyProof.Rows L2 DL
theorem lp0 {f} {as : List DV} {Wd : XD → Prop} {Q : DV → Prop} (h : p0 f as Wd Q) : as.length = 0 := by
  have h := p0_of h
  obtain ⟨rfl, _⟩ := h
  rfl
theorem lp1 {f} {as : List DV} {Wd : XD → Prop} {Q : DV → Prop} (h : p1 f as Wd Q) : as.length = 1 := by
  have h := p1_of h
  obtain ⟨_, rfl, _⟩ := h
  rfl
theorem lp2 {f} {as : List DV} {Wd : XD → Prop} {Q : DV → Prop} (h : p2 f as Wd Q) : as.length = 2 := by
  have h := p2_of h
  obtain ⟨_, _, rfl, _⟩ := h
  rfl
theorem lp3 {f} {as : List DV} {Wd : XD → Prop} {Q : DV → Prop} (h : p3 f as Wd Q) : as.length = 3 := by
  have h := p3_of h
  obtain ⟨_, _, _, rfl, _⟩ := h
  rfl
theorem lp4 {f} {as : List DV} {Wd : XD → Prop} {Q : DV → Prop} (h : p4 f as Wd Q) : as.length = 4 := by
  have h := p4_of h
  obtain ⟨_, _, _, _, rfl, _⟩ := h
  rfl
theorem lpB {f} {as : List DV} {Wd : XD → Prop} {Q : DV → Prop} (h : pB f as Wd Q) : as.length = 1 := by
  have h := pB_of h
  obtain ⟨rfl, _⟩ := h
  rfl
theorem lpB1 {f} {as : List DV} {Wd : XD → Prop} {Q : DV → Prop} (h : pB1 f as Wd Q) : as.length = 2 := by
  have h := pB1_of h
  obtain ⟨_, rfl, _⟩ := h
  rfl
theorem lpBR {f} {as : List DV} {Wd : XD → Prop} {Q : DV → Prop} (h : pBR f as Wd Q) : as.length = 4 := by
  have h := pBR_of h
  obtain ⟨_, _, rfl, _⟩ := h
  rfl
theorem lpBLR {f} {as : List DV} {Wd : XD → Prop} {Q : DV → Prop} (h : pBLR f as Wd Q) : as.length = 5 := by
  have h := pBLR_of h
  obtain ⟨_, _, _, rfl, _⟩ := h
  rfl
theorem le_n {n a : Nat} (h : a ≤ 3) : a ≤ n + 3 := by omega
structure Dfs2 (mg : Str → Option Value) (K : PySem.W.Frag) : Prop where
  f__law_bag : Df K mg "_law_bag" s__law_bag []
  f_is_row : Df K mg "is_row" s_is_row []
  f_is_integer : Df K mg "is_integer" s_is_integer []
  f_is_letter : Df K mg "is_letter" s_is_letter []
  f_is_text_sign : Df K mg "is_text_sign" s_is_text_sign []
  f_is_name : Df K mg "is_name" s_is_name []
  f_is_text : Df K mg "is_text" s_is_text []
  f_field_fits : Df K mg "field_fits" s_field_fits []
  f_row_fits : Df K mg "row_fits" s_row_fits []
  f_has_shape : Df K mg "has_shape" s_has_shape []
  f_fits : Df K mg "fits" s_fits [.int 8, .bl false]
  f_is_expression : Df K mg "is_expression" s_is_expression []
  f__law_mixed : Df K mg "_law_mixed" s__law_mixed []
  f__law_words : Df K mg "_law_words" s__law_words []
  f__law_letters : Df K mg "_law_letters" s__law_letters []
  f__law_name : Df K mg "_law_name" s__law_name []
  f__law_written : Df K mg "_law_written" s__law_written []
  f__law_leaf : Df K mg "_law_leaf" s__law_leaf []
  f__law_item : Df K mg "_law_item" s__law_item []
  f__law_expression : Df K mg "_law_expression" s__law_expression []
  f__law_is_name : Df K mg "_law_is_name" s__law_is_name []
  f__law_is_text : Df K mg "_law_is_text" s__law_is_text []
  f__law_is_item : Df K mg "_law_is_item" s__law_is_item []
  f__law_is : Df K mg "_law_is" s__law_is []
  f__law_parts : Df K mg "_law_parts" s__law_parts []
  f__law_walk : Df K mg "_law_walk" s__law_walk []
  f__law_with : Df K mg "_law_with" s__law_with []
  f__law_odd : Df K mg "_law_odd" s__law_odd []
  f_kept : Df K mg "kept" s_kept [.int 20]
  f_frozen : Df K mg "frozen" s_frozen []
  f_parts_of : Df K mg "parts_of" s_parts_of []
  f_with_parts : Df K mg "with_parts" s_with_parts []
  f__law_frozen : Df K mg "_law_frozen" s__law_frozen []
  f__law_same : Df K mg "_law_same" s__law_same []
  f__law_reach : Df K mg "_law_reach" s__law_reach []
  f__law_way : Df K mg "_law_way" s__law_way []
  f__law_agrees : Df K mg "_law_agrees" s__law_agrees []
  f__law_draw : Df K mg "_law_draw" s__law_draw []
  f__law_shapes : Df K mg "_law_shapes" s__law_shapes []
  f__law_due : Df K mg "_law_due" s__law_due []
  f_rep : Df K mg "_replaced" s_rep []
  f_part_at : Df K mg "part_at" s_part_at []
  f_with_part : Df K mg "with_part" s_with_part []
  f_told2 : Df K mg "_law_told" s_told2 []
  f_parted : Df K mg "_law_parted" s_parted []
  f_law2 : Df K mg "law" s_law2 []
section
variable {P : Program} {w : World} {K : PySem.W.Frag} {mg : Str → Option Value} {base : Heap}
theorem c_fits_none (F : Dfs2 mg K) : CalD P w K mg base 0 "fits" (lo0 t_none) [] := by
  obtain ⟨f, fd, F, hm⟩ := F.f_fits.ex
  obtain ⟨ds, h1, h2⟩ := F.binds1 (ps := P_fits) 3 2 (by simp) rfl (fun T0 kV doc pm an cdv ct us its h1 h2 => match us, its, h1, h2 with | [_, _, _], [_, _], _, _ => ⟨_, rfl, rfl⟩)
  exact ⟨f, fd, P_fits, ds, [], fn_none, hm, F.kp, h2, h1, fun _ => .nil⟩
theorem c_is_row (T : Tx2 mg K w) (F : Dfs2 mg K) : CalD P w K mg base 1 "is_row" (lo0 t_is_row) [] := cal_d (t := t_is_row) F.f_is_row sc_is_row (fun _ _ _ _ _ _ us hl => match us, hl with | [_], _ => rfl) (fun _ _ _ h => lp1 h) (fun f cdv A outer s H E hr => d_is_row T.toTx   f cdv A outer s H E hr) m_is_row
theorem c_is_integer (T : Tx2 mg K w) (F : Dfs2 mg K) : CalD P w K mg base 1 "is_integer" (lo0 t_is_integer) [] := cal_d (t := t_is_integer) F.f_is_integer sc_is_integer (fun _ _ _ _ _ _ us hl => match us, hl with | [_], _ => rfl) (fun _ _ _ h => lp1 h) (fun f cdv A outer s H E hr => d_is_integer T.toTx   f cdv A outer s H E hr) m_is_integer
theorem c_is_letter (T : Tx2 mg K w) (F : Dfs2 mg K) : CalD P w K mg base 1 "is_letter" (lo0 t_is_letter) [] := cal_d (t := t_is_letter) F.f_is_letter sc_is_letter (fun _ _ _ _ _ _ us hl => match us, hl with | [_], _ => rfl) (fun _ _ _ h => lp1 h) (fun f cdv A outer s H E hr => d_is_letter T.toTx   f cdv A outer s H E hr) m_is_letter
theorem c_is_text_sign (T : Tx2 mg K w) (F : Dfs2 mg K) : CalD P w K mg base 1 "is_text_sign" (lo0 t_is_text_sign) [] := cal_d (t := t_is_text_sign) F.f_is_text_sign sc_is_text_sign (fun _ _ _ _ _ _ us hl => match us, hl with | [_], _ => rfl) (fun _ _ _ h => lp1 h) (fun f cdv A outer s H E hr => d_is_text_sign T.toTx   f cdv A outer s H E hr) m_is_text_sign
theorem c_is_name (T : Tx2 mg K w) (F : Dfs2 mg K) : CalD P w K mg base 2 "is_name" (lo0 t_is_name) [] := cal_d (t := t_is_name) F.f_is_name sc_is_name (fun _ _ _ _ _ _ us hl => match us, hl with | [_], _ => rfl) (fun _ _ _ h => lp1 h) (fun f cdv A outer s H E hr => d_is_name T.toTx (c_is_letter T F) (by decide) f cdv A outer s H E hr) m_is_name
theorem c_is_text (T : Tx2 mg K w) (F : Dfs2 mg K) : CalD P w K mg base 2 "is_text" (lo0 t_is_text) [] := cal_d (t := t_is_text) F.f_is_text sc_is_text (fun _ _ _ _ _ _ us hl => match us, hl with | [_], _ => rfl) (fun _ _ _ h => lp1 h) (fun f cdv A outer s H E hr => d_is_text T.toTx (c_is_text_sign T F) (by decide) f cdv A outer s H E hr) m_is_text
theorem c_field_fits (T : Tx2 mg K w) (F : Dfs2 mg K) : CalD P w K mg base 3 "field_fits" (lo0 t_field_fits) [] := cal_d (t := t_field_fits) F.f_field_fits sc_field_fits (fun _ _ _ _ _ _ us hl => match us, hl with | [_, _], _ => rfl) (fun _ _ _ h => lp2 h) (fun f cdv A outer s H E hr => d_field_fits T.toTx (c_is_integer T F) (c_is_text T F) (c_is_name T F) (by decide) (by decide) (by decide) f cdv A outer s H E hr) m_field_fits
theorem c_row_fits (T : Tx2 mg K w) (F : Dfs2 mg K) : CalD P w K mg base 2 "row_fits" (lo0 t_row_fits) [] := cal_d (t := t_row_fits) F.f_row_fits sc_row_fits (fun _ _ _ _ _ _ us hl => match us, hl with | [_, _], _ => rfl) (fun _ _ _ h => lp2 h) (fun f cdv A outer s H E hr => d_row_fits T.toTx (c_is_row T F) (by decide) f cdv A outer s H E hr) m_row_fits
theorem c_has_shape (T : Tx2 mg K w) (F : Dfs2 mg K) : CalD P w K mg base 2 "has_shape" (lo0 t_has_shape) [] := cal_d (t := t_has_shape) F.f_has_shape sc_has_shape (fun _ _ _ _ _ _ us hl => match us, hl with | [_], _ => rfl) (fun _ _ _ h => lp1 h) (fun f cdv A outer s H E hr => d_has_shape T.toTx (c_is_row T F) (by decide) f cdv A outer s H E hr) m_has_shape
theorem c_fits (T : Tx2 mg K w) (F : Dfs2 mg K) : ∀ n : Nat, CalD P w K mg base (n + 4) "fits" (lo0 (t_fits n)) []
  | 0 => cal_dd (t := t_fits 0) F.f_fits sc_fits 3 2 (by simp) rfl (fun _ => .nil) (fun T0 kV doc pm an cdv ct us its h1 h2 => match us, its, h1, h2 with | [_, _, _], [_, _], _, _ => ⟨_, rfl, rfl⟩) (fun _ _ _ h => lp3 h) (fun f cdv A outer s H E hr => d_fits T.toTx (c_has_shape T F) (c_fits_none F) (c_row_fits T F) (c_field_fits T F) (le_n (by decide)) (by omega) (le_n (by decide)) (le_n (by decide)) f cdv A outer s H E hr) (m_fits0 t_none)
  | n + 1 => cal_dd (t := t_fits (n + 1)) F.f_fits sc_fits 3 2 (by simp) rfl (fun _ => .nil) (fun T0 kV doc pm an cdv ct us its h1 h2 => match us, its, h1, h2 with | [_, _, _], [_, _], _, _ => ⟨_, rfl, rfl⟩) (fun _ _ _ h => lp3 h) (fun f cdv A outer s H E hr => d_fits T.toTx (c_has_shape T F) (c_fits T F n) (c_row_fits T F) (c_field_fits T F) (le_n (by decide)) (by omega) (le_n (by decide)) (le_n (by decide)) f cdv A outer s H E hr) (m_fits n)
theorem c_fits1 (T : Tx2 mg K w) (F : Dfs2 mg K) : CalD P w K mg base 12 "fits" (lo0 (t_fits 8)) [.int 8, .bool false] := cal_dd (t := t_fits 8) F.f_fits sc_fits 1 0 (by simp) rfl (fun _ => .cons (.int 8) (.cons (.bl false) .nil)) (fun T0 kV doc pm an cdv ct us its h1 h2 => match us, its, h1, h2 with | [_], [_, _], _, _ => ⟨_, rfl, rfl⟩) (fun _ _ _ h => lp3 h) (fun f cdv A outer s H E hr => d_fits T.toTx (c_has_shape T F) (c_fits T F 7) (c_row_fits T F) (c_field_fits T F) (by decide) (by decide) (by decide) (by decide) f cdv A outer s H E hr) (m_fits 7)
theorem c_is_expression (T : Tx2 mg K w) (F : Dfs2 mg K) : CalD P w K mg base 13 "is_expression" (lo0 t_is_expression) [] := cal_d (t := t_is_expression) F.f_is_expression sc_is_expression (fun _ _ _ _ _ _ us hl => match us, hl with | [_], _ => rfl) (fun _ _ _ h => lp1 h) (fun f cdv A outer s H E hr => d_is_expression T.toTx (c_fits1 T F) (by decide) f cdv A outer s H E hr) m_is_expression
theorem c__law_mixed (T : Tx2 mg K w) (F : Dfs2 mg K) : CalD P w K mg base 1 "_law_mixed" (lo0 t_mixed) [] := cal_d (t := t_mixed) F.f__law_mixed sc__law_mixed (fun _ _ _ _ _ _ us hl => match us, hl with | [_, _], _ => rfl) (fun _ _ _ h => lp2 h) (fun f cdv A outer s H E hr => d__law_mixed T.toTx   f cdv A outer s H E hr) m_mixed
theorem c__law_draw (T : Tx2 mg K w) (F : Dfs2 mg K) : CalD P w K mg base 2 "_law_draw" (lo0 t_draw) [] := cal_draw T.toTx F.f__law_draw (c__law_mixed T F) (by decide)
theorem c__law_shapes (F : Dfs2 mg K) : CalD P w K mg base 1 "_law_shapes" (lo0 t_shapes) [] := cal_shapes F.f__law_shapes
theorem c__law_words (T : Tx2 mg K w) (F : Dfs2 mg K) : CalD P w K mg base 1 "_law_words" (lo0 t_words) [] := cal_d (t := t_words) F.f__law_words sc__law_words (fun _ _ _ _ _ _ us hl => match us, hl with | [], _ => rfl) (fun _ _ _ h => lp0 h) (fun f cdv A outer s H E hr => d__law_words T.toTx   f cdv A outer s H E hr) m_words
theorem c__law_letters (T : Tx2 mg K w) (F : Dfs2 mg K) : CalD P w K mg base 3 "_law_letters" (lo0 t_letters) [] := cal_d (t := t_letters) F.f__law_letters sc__law_letters (fun _ _ _ _ _ _ us hl => match us, hl with | [_, _], _ => rfl) (fun _ _ _ h => lpB1 h) (fun f cdv A outer s H E hr => d__law_letters T.toTx (c__law_draw T F) (by decide) f cdv A outer s H E hr) m_letters
theorem c__law_name (T : Tx2 mg K w) (F : Dfs2 mg K) : CalD P w K mg base 4 "_law_name" (lo0 t_name) [] := cal_d (t := t_name) F.f__law_name sc__law_name (fun _ _ _ _ _ _ us hl => match us, hl with | [_], _ => rfl) (fun _ _ _ h => lpB h) (fun f cdv A outer s H E hr => d__law_name T.toTx (c__law_draw T F) (c__law_words T F) (c__law_letters T F) (by decide) (by decide) (by decide) f cdv A outer s H E hr) m_name
theorem c__law_written (T : Tx2 mg K w) (F : Dfs2 mg K) : CalD P w K mg base 3 "_law_written" (lo0 t_written) [] := cal_d (t := t_written) F.f__law_written sc__law_written (fun _ _ _ _ _ _ us hl => match us, hl with | [_], _ => rfl) (fun _ _ _ h => lpB h) (fun f cdv A outer s H E hr => d__law_written T.toTx (c__law_draw T F) (by decide) f cdv A outer s H E hr) m_written
theorem c__law_leaf (T : Tx2 mg K w) (F : Dfs2 mg K) : CalD P w K mg base 5 "_law_leaf" (lo0 t_leaf) [] := cal_d (t := t_leaf) F.f__law_leaf sc__law_leaf (fun _ _ _ _ _ _ us hl => match us, hl with | [_, _], _ => rfl) (fun _ _ _ h => lpB1 h) (fun f cdv A outer s H E hr => d__law_leaf T.toTx (c__law_draw T F) (c__law_name T F) (c__law_written T F) (by decide) (by decide) (by decide) f cdv A outer s H E hr) m_leaf
theorem c_item (T : Tx2 mg K w) (F : Dfs2 mg K) (n : Nat) (ce : CalD P w K mg base (2 * n + 5) "_law_expression" (lo0 (t_expr n)) []) : CalD P w K mg base (2 * n + 5 + 1) "_law_item" (lo0 (t_item n)) [] := cal_d (t := t_item n) F.f__law_item sc__law_item (fun _ _ _ _ _ _ us hl => match us, hl with | [_, _, _, _, _], _ => rfl) (fun _ _ _ h => lpBLR h) (fun f cdv A outer s H E hr => d__law_item T.toTx ce (c__law_draw T F) (c__law_name T F) (c__law_written T F) (Nat.le_refl _) (by omega) (by omega) (by omega) f cdv A outer s H E hr) (m_item n)
theorem c_expr (T : Tx2 mg K w) (F : Dfs2 mg K) : ∀ n : Nat, CalD P w K mg base (2 * n + 5) "_law_expression" (lo0 (t_expr n)) []
  | 0 => ((cal_none F.f__law_expression sc__law_expression (fun _ _ _ _ _ _ us hl => match us, hl with | [_, _, _, _], _ => rfl)).imp fun as Q h => by
    obtain ⟨_, _, _, k, i, _, hk, _⟩ := pBR_of (show t_expr 0 as noX Q from h)
    omega).mono (by decide)
  | n + 1 => cal_d (t := t_expr (n + 1)) F.f__law_expression sc__law_expression (fun _ _ _ _ _ _ us hl => match us, hl with | [_, _, _, _], _ => rfl) (fun _ _ _ h => lpBR h) (fun f cdv A outer s H E hr => d__law_expression T.toTx (c__law_leaf T F) (c__law_shapes F) (c__law_draw T F) (c_item T F n (c_expr T F n)) (by omega) (by omega) (by omega) (by omega) f cdv A outer s H E hr) (m_expr n)
theorem c__law_is_name (T : Tx2 mg K w) (F : Dfs2 mg K) : CalD P w K mg base 2 "_law_is_name" (lo0 t_is_name) [] := cal_d (t := t_is_name) F.f__law_is_name sc__law_is_name (fun _ _ _ _ _ _ us hl => match us, hl with | [_], _ => rfl) (fun _ _ _ h => lp1 h) (fun f cdv A outer s H E hr => d__law_is_name T.toTx (c__law_words T F) (by decide) f cdv A outer s H E hr) m_law_is_name
theorem c__law_is_text (T : Tx2 mg K w) (F : Dfs2 mg K) : CalD P w K mg base 1 "_law_is_text" (lo0 t_is_text) [] := cal_d (t := t_is_text) F.f__law_is_text sc__law_is_text (fun _ _ _ _ _ _ us hl => match us, hl with | [_], _ => rfl) (fun _ _ _ h => lp1 h) (fun f cdv A outer s H E hr => d__law_is_text T.toTx   f cdv A outer s H E hr) m_law_is_text
theorem c_is_item (T : Tx2 mg K w) (F : Dfs2 mg K) (n : Nat) (ce : CalD P w K mg base (2 * n + 2) "_law_is" (lo0 (t_fits n)) []) : CalD P w K mg base (2 * n + 2 + 1) "_law_is_item" (lo0 (t_is_item n)) [] := cal_d (t := t_is_item n) F.f__law_is_item sc__law_is_item (fun _ _ _ _ _ _ us hl => match us, hl with | [_, _, _, _], _ => rfl) (fun _ _ _ h => lp4 h) (fun f cdv A outer s H E hr => d__law_is_item T.toTx ce (c__law_is_name T F) (c__law_is_text T F) (Nat.le_refl _) (by omega) (by omega) f cdv A outer s H E hr) (m_is_item n)
theorem c__law_is (T : Tx2 mg K w) (F : Dfs2 mg K) : ∀ n : Nat, CalD P w K mg base (2 * n + 2) "_law_is" (lo0 (t_fits n)) []
  | 0 => cal_d (t := t_fits 0) F.f__law_is sc__law_is (fun _ _ _ _ _ _ us hl => match us, hl with | [_, _, _], _ => rfl) (fun _ _ _ h => lp3 h) (fun f cdv A outer s H E hr => d__law_is T.toTx (c__law_shapes F) (cal_none F.f__law_is_item sc__law_is_item (fun _ _ _ _ _ _ us hl => match us, hl with | [_, _, _, _], _ => rfl)) (by decide) (by decide) f cdv A outer s H E hr) (m_is0 t_none)
  | n + 1 => cal_d (t := t_fits (n + 1)) F.f__law_is sc__law_is (fun _ _ _ _ _ _ us hl => match us, hl with | [_, _, _], _ => rfl) (fun _ _ _ h => lp3 h) (fun f cdv A outer s H E hr => d__law_is T.toTx (c__law_shapes F) (c_is_item T F n (c__law_is T F n)) (by omega) (by omega) f cdv A outer s H E hr) (m_is n)
theorem c__law_parts (T : Tx2 mg K w) (F : Dfs2 mg K) : CalD P w K mg base 2 "_law_parts" (lo0 t_parts) [] := cal_d (t := t_parts) F.f__law_parts sc__law_parts (fun _ _ _ _ _ _ us hl => match us, hl with | [_], _ => rfl) (fun _ _ _ h => lp1 h) (fun f cdv A outer s H E hr => d__law_parts T.toTx (c__law_shapes F) (by decide) f cdv A outer s H E hr) m_parts
theorem c__law_walk (T : Tx2 mg K w) (F : Dfs2 mg K) : ∀ n : Nat, CalD P w K mg base (n + 2) "_law_walk" (lo0 (t_walk n)) []
  | 0 => ((cal_none F.f__law_walk sc__law_walk (fun _ _ _ _ _ _ us hl => match us, hl with | [_, _], _ => rfl)).imp fun as Q h => by
    obtain ⟨_, _, _, _, _, _, hg, _⟩ := p2_of (show t_walk 0 as noX Q from h)
    cases hg).mono (by decide)
  | n + 1 => cal_d (t := t_walk (n + 1)) F.f__law_walk sc__law_walk (fun _ _ _ _ _ _ us hl => match us, hl with | [_, _], _ => rfl) (fun _ _ _ h => lp2 h) (fun f cdv A outer s H E hr => d__law_walk T.toTx (c__law_parts T F) (c__law_walk T F n) (by omega) (by omega) f cdv A outer s H E hr) (m_walk n)
theorem c__law_with (T : Tx2 mg K w) (F : Dfs2 mg K) : ∀ n : Nat, CalD P w K mg base (n + 2) "_law_with" (lo0 (t_with n)) []
  | 0 => cal_d (t := t_with 0) F.f__law_with sc__law_with (fun _ _ _ _ _ _ us hl => match us, hl with | [_, _, _], _ => rfl) (fun _ _ _ h => lp3 h) (fun f cdv A outer s H E hr => d__law_with T.toTx (c__law_shapes F) (cal_none F.f__law_with sc__law_with (fun _ _ _ _ _ _ us hl => match us, hl with | [_, _, _], _ => rfl)) (by decide) (by decide) f cdv A outer s H E hr) (m_with0 t_none)
  | n + 1 => cal_d (t := t_with (n + 1)) F.f__law_with sc__law_with (fun _ _ _ _ _ _ us hl => match us, hl with | [_, _, _], _ => rfl) (fun _ _ _ h => lp3 h) (fun f cdv A outer s H E hr => d__law_with T.toTx (c__law_shapes F) (c__law_with T F n) (by omega) (by omega) f cdv A outer s H E hr) (m_with n)
theorem c__law_odd (T : Tx2 mg K w) (F : Dfs2 mg K) : CalD P w K mg base 4 "_law_odd" (lo0 t_odd) [] := cal_d (t := t_odd) F.f__law_odd sc__law_odd (fun _ _ _ _ _ _ us hl => match us, hl with | [_], _ => rfl) (fun _ _ _ h => lpB h) (fun f cdv A outer s H E hr => d__law_odd T.toTx (c__law_draw T F) (c__law_letters T F) (c__law_words T F) (by decide) (by decide) (by decide) f cdv A outer s H E hr) m_odd
theorem c_kept_none (F : Dfs2 mg K) : CalD P w K mg base 0 "kept" (lo0 t_none) [] := by
  obtain ⟨f, fd, F, hm⟩ := F.f_kept.ex
  obtain ⟨ds, h1, h2⟩ := F.binds1 (ps := P_kept) 2 1 (by simp) rfl (fun T0 kV doc pm an cdv ct us its h1 h2 => match us, its, h1, h2 with | [_, _], [_], _, _ => ⟨_, rfl, rfl⟩)
  exact ⟨f, fd, P_kept, ds, [], fn_none, hm, F.kp, h2, h1, fun _ => .nil⟩
theorem c_kept (T : Tx2 mg K w) (F : Dfs2 mg K) : ∀ n : Nat, CalD P w K mg base (n + 1) "kept" (lo0 (t_kept n)) []
  | 0 => cal_dd (t := t_kept 0) F.f_kept sc_kept 2 1 (by simp) rfl (fun _ => .nil) (fun T0 kV doc pm an cdv ct us its h1 h2 => match us, its, h1, h2 with | [_, _], [_], _, _ => ⟨_, rfl, rfl⟩) (fun _ _ _ h => lp2 h) (fun f cdv A outer s H E hr => d_kept T (c_kept_none F) (by omega) f cdv A outer s H E hr) (m_kept0 t_none)
  | n + 1 => cal_dd (t := t_kept (n + 1)) F.f_kept sc_kept 2 1 (by simp) rfl (fun _ => .nil) (fun T0 kV doc pm an cdv ct us its h1 h2 => match us, its, h1, h2 with | [_, _], [_], _, _ => ⟨_, rfl, rfl⟩) (fun _ _ _ h => lp2 h) (fun f cdv A outer s H E hr => d_kept T (c_kept T F n) (by omega) f cdv A outer s H E hr) (m_kept n)
theorem c_kept1 (T : Tx2 mg K w) (F : Dfs2 mg K) : CalD P w K mg base 21 "kept" (lo0 (t_kept 20)) [.int 20] := cal_dd (t := t_kept 20) F.f_kept sc_kept 1 0 (by simp) rfl (fun _ => .cons (.int 20) .nil) (fun T0 kV doc pm an cdv ct us its h1 h2 => match us, its, h1, h2 with | [_], [_], _, _ => ⟨_, rfl, rfl⟩) (fun _ _ _ h => lp2 h) (fun f cdv A outer s H E hr => d_kept T (c_kept T F 19) (by omega) f cdv A outer s H E hr) (m_kept 19)
theorem c_frozen (T : Tx2 mg K w) (F : Dfs2 mg K) : ∀ n : Nat, CalD P w K mg base (n + 2) "frozen" (lo0 (t_frz n)) []
  | 0 => cal_d (t := t_frz 0) F.f_frozen sc_frozen (fun _ _ _ _ _ _ us hl => match us, hl with | [_], _ => rfl) (fun _ _ _ h => lp1 h) (fun f cdv A outer s H E hr => d_frozen T.toTx (c_is_row T F) (cal_none F.f_frozen sc_frozen (fun _ _ _ _ _ _ us hl => match us, hl with | [_], _ => rfl)) (by omega) (by omega) f cdv A outer s H E hr) (m_frz_any (t := t_none) fun k e => by omega)
  | n + 1 => cal_d (t := t_frz (n + 1)) F.f_frozen sc_frozen (fun _ _ _ _ _ _ us hl => match us, hl with | [_], _ => rfl) (fun _ _ _ h => lp1 h) (fun f cdv A outer s H E hr => d_frozen T.toTx (c_is_row T F) (c_frozen T F n) (by omega) (by omega) f cdv A outer s H E hr) (m_frz_any fun k e => by rw [Nat.succ.inj e])
theorem c_parts_of (T : Tx2 mg K w) (F : Dfs2 mg K) : CalD P w K mg base 1 "parts_of" (lo0 t_partsOf) [] := cal_d (t := t_partsOf) F.f_parts_of sc_parts_of (fun _ _ _ _ _ _ us hl => match us, hl with | [_], _ => rfl) (fun _ _ _ h => lp1 h) (fun f cdv A outer s H E hr => d_parts_of T.toTx   f cdv A outer s H E hr) m_partsOf
theorem c_with_parts (T : Tx2 mg K w) (F : Dfs2 mg K) : CalD P w K mg base 1 "with_parts" (lo0 t_wp) [] := cal_d (t := t_wp) F.f_with_parts sc_with_parts (fun _ _ _ _ _ _ us hl => match us, hl with | [_, _], _ => rfl) (fun _ _ _ h => lp2 h) (fun f cdv A outer s H E hr => d_with_parts T.toTx   f cdv A outer s H E hr) m_wp
theorem c__law_frozen (T : Tx2 mg K w) (F : Dfs2 mg K) : ∀ n : Nat, CalD P w K mg base (n + 1) "_law_frozen" (lo0 (t_frz n)) []
  | 0 => cal_d (t := t_frz 0) F.f__law_frozen sc__law_frozen (fun _ _ _ _ _ _ us hl => match us, hl with | [_], _ => rfl) (fun _ _ _ h => lp1 h) (fun f cdv A outer s H E hr => d__law_frozen T.toTx (cal_none F.f__law_frozen sc__law_frozen (fun _ _ _ _ _ _ us hl => match us, hl with | [_], _ => rfl)) (by omega) f cdv A outer s H E hr) (m_lawfrz_any (t := t_none) fun k e => by omega)
  | n + 1 => cal_d (t := t_frz (n + 1)) F.f__law_frozen sc__law_frozen (fun _ _ _ _ _ _ us hl => match us, hl with | [_], _ => rfl) (fun _ _ _ h => lp1 h) (fun f cdv A outer s H E hr => d__law_frozen T.toTx (c__law_frozen T F n) (by omega) f cdv A outer s H E hr) (m_lawfrz_any fun k e => by rw [Nat.succ.inj e])
theorem c__law_same (T : Tx2 mg K w) (F : Dfs2 mg K) : ∀ n : Nat, CalD P w K mg base (n + 1) "_law_same" (lo0 (t_same n)) []
  | 0 => cal_d (t := t_same 0) F.f__law_same sc__law_same (fun _ _ _ _ _ _ us hl => match us, hl with | [_, _], _ => rfl) (fun _ _ _ h => lp2 h) (fun f cdv A outer s H E hr => d__law_same T.toTx (cal_none F.f__law_same sc__law_same (fun _ _ _ _ _ _ us hl => match us, hl with | [_, _], _ => rfl)) (by omega) f cdv A outer s H E hr) (m_same_any (t := t_none) fun k e => by omega)
  | n + 1 => cal_d (t := t_same (n + 1)) F.f__law_same sc__law_same (fun _ _ _ _ _ _ us hl => match us, hl with | [_, _], _ => rfl) (fun _ _ _ h => lp2 h) (fun f cdv A outer s H E hr => d__law_same T.toTx (c__law_same T F n) (by omega) f cdv A outer s H E hr) (m_same_any fun k e => by rw [Nat.succ.inj e])
theorem c__law_reach (T : Tx2 mg K w) (F : Dfs2 mg K) : CalD P w K mg base 3 "_law_reach" (lo0 t_reach) [] := cal_d (t := t_reach) F.f__law_reach sc__law_reach (fun _ _ _ _ _ _ us hl => match us, hl with | [_, _], _ => rfl) (fun _ _ _ h => lp2 h) (fun f cdv A outer s H E hr => d__law_reach T.toTx (c__law_parts T F) (by decide) f cdv A outer s H E hr) m_reach
theorem c__law_way (T : Tx2 mg K w) (F : Dfs2 mg K) : CalD P w K mg base 3 "_law_way" (lo0 t_way) [] := cal_d (t := t_way) F.f__law_way sc__law_way (fun _ _ _ _ _ _ us hl => match us, hl with | [_, _], _ => rfl) (fun _ _ _ h => lpB1 h) (fun f cdv A outer s H E hr => d__law_way T.toTx (c__law_draw T F) (by decide) f cdv A outer s H E hr) m_way
theorem c__law_agrees (T : Tx2 mg K w) (F : Dfs2 mg K) : CalD P w K mg base 34 "_law_agrees" (lo0 t_agrees) [] := cal_d (t := t_agrees) F.f__law_agrees sc__law_agrees (fun _ _ _ _ _ _ us hl => match us, hl with | [_, _], _ => rfl) (fun _ _ _ h => lp2 h) (fun f cdv A outer s H E hr => d__law_agrees T.toTx (c__law_same T F 32) (by decide) f cdv A outer s H E hr) m_agrees
end
end K

set_option Elab.async false
set_option linter.all false
set_option maxRecDepth 100000
set_option maxHeartbeats 4000000
namespace K
open PySem PySem.Spec PyProof.Rows L2 DL
section
variable {P : Program} {w : World} {K : PySem.W.Frag} {mg : Str → Option Value} {base : Heap} {CE CP CR : Addr}
theorem co_parts (T : Tx2 mg K w) (F : Dfs2 mg K) : CalO P w K mg base 1 "parts_of" (lo0 t_poO) := by
  obtain ⟨f, fd, FD, hm⟩ := F.f_parts_of.ex
  exact ⟨f, fd, P_parts_of, fn_o (k := 0) (t := t_poO) FD sc_parts_of (fun as Wd Qd h => lp1 h) (fun cdv A outer s H E hr => do_parts_of T.toTx f cdv A outer s H E hr) m_poO, hm, FD.kp, FD.bindsN fun _ _ _ _ _ _ us hl => match us, hl with | [_], _ => rfl⟩
theorem c_rep (T : Tx2 mg K w) (F : Dfs2 mg K) : ∀ n : Nat, CalD P w K mg base (n + 2) "_replaced" (lo0 (t_rep n)) []
  | 0 => cal_d (t := t_rep 0) F.f_rep sc_rep (fun _ _ _ _ _ _ us hl => match us, hl with | [_, _, _], _ => rfl) (fun _ _ _ h => lp3 h) (fun f cdv A outer s H E hr => d_rep T.toTx (co_parts T F) (cal_none F.f_rep sc_rep (fun _ _ _ _ _ _ us hl => match us, hl with | [_, _, _], _ => rfl)) (c_with_parts T F) (by decide) (by decide) (by decide) f cdv A outer s H E hr) (m_rep0 t_none)
  | n + 1 => cal_d (t := t_rep (n + 1)) F.f_rep sc_rep (fun _ _ _ _ _ _ us hl => match us, hl with | [_, _, _], _ => rfl) (fun _ _ _ h => lp3 h) (fun f cdv A outer s H E hr => d_rep T.toTx (co_parts T F) (c_rep T F n) (c_with_parts T F) (by omega) (by omega) (by omega) f cdv A outer s H E hr) (m_rep n)
theorem len_pa {as : List DV} {Wd : XD → Prop} {Q : DV → Prop} (h : t_pa CE CP as Wd Q) : as.length = 2 := by
  obtain ⟨_, _, rfl, _⟩ := t_pa_of h
  rfl
theorem len_wpart {as : List DV} {Wd : XD → Prop} {Q : DV → Prop} (h : t_wpart CE CP as Wd Q) : as.length = 3 := by
  obtain ⟨_, _, _, rfl, _⟩ := t_wpart_of h
  rfl
theorem cx_pa (T : Tx2 mg K w) (F : Dfs2 mg K) (C : Cx2 mg K CE CP CR) (I : OwnI P w mg K base 22 "NoPlace" "path" CP (lo0 t_k1)) : CalX P w K mg base 24 "part_at" (t_pa CE CP) := by
  obtain ⟨f, fd, FD, hm⟩ := F.f_part_at.ex
  exact ⟨f, fd, P_part_at, fn_x (k := 23) FD sc_part_at (fun as Wd Qd h => len_pa h) (fun cdv A outer s H E hr => d_part_at T.toTx C.ownE I (by decide) (c_is_expression T F) (c_is_row T F) (c_frozen T F 17) (c_parts_of T F) (c_is_integer T F) (by decide) (by decide) (by decide) (by decide) (by decide) f cdv A outer s H E hr) (m_pa CE CP), hm, FD.kp, FD.bindsN fun _ _ _ _ _ _ us hl => match us, hl with | [_, _], _ => rfl⟩
theorem ck_wpart (T : Tx2 mg K w) (F : Dfs2 mg K) (C : Cx2 mg K CE CP CR) (I : OwnI P w mg K base 22 "NoPlace" "path" CP (lo0 t_k1)) : CalK0 P w K mg base 25 "with_part" ["expression", "path", "part"] (t_wpart CE CP) := by
  obtain ⟨f, fd, FD, hm⟩ := F.f_with_part.ex
  exact ⟨f, fd, P_with_part, fn_x (k := 24) FD sc_with_part (fun as Wd Qd h => len_wpart h) (fun cdv A outer s H E hr => d_with_part T.toTx C.ownE (cx_pa T F C I) (c_is_expression T F) (c_frozen T F 17) (c_rep T F 8) (by decide) (by decide) (by decide) (by decide) f cdv A outer s H E hr) (m_wpart CE CP), hm, FD.kp, kb0_of FD fun kV doc pm an cdv ct ws hl => match ws, hl with | [_, _, _], _ => rfl⟩
theorem room_ru {A : Around} {e : Env} (hr : Room 60 (A.deeper e)) : A.units + 3 + 1001 < cLine := by
  have h1 := hr.un
  have h2 : A.units ≤ (A.deeper e).units := by
    show A.units ≤ _
    simp [Around.deeper]
  omega
theorem cg_told (T : Tx2 mg K w) (F : Dfs2 mg K) (C : Cx2 mg K CE CP CR) (I : OwnI P w mg K base 22 "NoPlace" "path" CP (lo0 t_k1)) (hrb : base.get? sysModules ≠ none) : CalG P w K mg base 61 "_law_told" t_told2 := by
  obtain ⟨f, fd, FD, hm⟩ := F.f_told2.ex
  exact ⟨f, fd, P_told2, fn_g (k := 60) (t := t_told2) FD sc_told2 (fun as Wd Qd h => lp3 h) (fun cdv A outer s H E hgd hr => d_told2 T.toTx C (ck_wpart T F C I) (by decide) f cdv A outer s H E hgd (room_ru hr) hrb hr) (m_told2 C.xf), hm, FD.kp, FD.bindsN fun _ _ _ _ _ _ us hl => match us, hl with | [_, _, _], _ => rfl⟩
theorem cg_parted (T : Tx2 mg K w) (F : Dfs2 mg K) (C : Cx2 mg K CE CP CR) (I : OwnI P w mg K base 22 "NoPlace" "path" CP (lo0 t_k1)) (hrb : base.get? sysModules ≠ none) : CalG P w K mg base 61 "_law_parted" t_parted := by
  obtain ⟨f, fd, FD, hm⟩ := F.f_parted.ex
  exact ⟨f, fd, P_parted, fn_g (k := 60) (t := t_parted) FD sc_parted (fun as Wd Qd h => lp2 h) (fun cdv A outer s H E hgd hr => d_parted T.toTx C (cx_pa T F C I) (by decide) f cdv A outer s H E hgd (room_ru hr) hrb hr) (m_parted C.xf), hm, FD.kp, FD.bindsN fun _ _ _ _ _ _ us hl => match us, hl with | [_, _], _ => rfl⟩
theorem cg_due (T : Tx2 mg K w) (F : Dfs2 mg K) (hrb : base.get? sysModules ≠ none) : CalG P w K mg base 61 "_law_due" t_due := by
  obtain ⟨f, fd, FD, hm⟩ := F.f__law_due.ex
  exact ⟨f, fd, P__law_due, fn_g (k := 60) (t := t_due) FD sc__law_due (fun as Wd Qd h => lp3 h) (fun cdv A outer s H E hgd hr => d__law_due T.toTx (c__law_is T F 8) (c__law_reach T F) (c__law_frozen T F 32) (c__law_with T F 8) (by decide) (by decide) (by decide) (by decide) f cdv A outer s H E hr hgd (room_ru hr) hrb) m_due, hm, FD.kp, FD.bindsN fun _ _ _ _ _ _ us hl => match us, hl with | [_, _, _], _ => rfl⟩
end
end K

set_option Elab.async false
set_option linter.all false
set_option maxRecDepth 100000
set_option maxHeartbeats 4000000
namespace DL
open PySem PySem.Spec PyProof.Rows L2
/-! ### a constant of the module, looked at -/
mutual
def rpB (K : PySem.W.Frag) : D → Value → Bool
  | .none, u => He.relB .non u
  | .bool b, u => He.relB (.bl b) u
  | .int i, u => He.relB (.int i) u
  | .str x, u => He.relB (.str x) u
  | .tuple ds, u => match u with
    | .ref a => (match K.lookup a with
      | some ⟨.type c, _, .seq its _, _⟩ => decide (c = "tuple") && (decide (its.size ≤ sizeLine) && rpAllB K ds its.toList)
      | _ => false)
    | _ => false
  | _, _ => false
def rpAllB (K : PySem.W.Frag) : List D → List Value → Bool
  | [], us => us.isEmpty
  | d :: ds, us => match us with
    | u :: us => rpB K d u && rpAllB K ds us
    | [] => false
end
mutual
theorem rpB_ok {K : PySem.W.Frag} : ∀ {d : D} {u : Value}, rpB K d u = true → ∃ v : V, RelV v u ∧ ∀ G : Hp, Rp K G v d
  | .none, u, h => ⟨.non, He.relB_ok h, fun _ => .non⟩
  | .bool b, u, h => ⟨.bl b, He.relB_ok h, fun _ => .bl b⟩
  | .int i, u, h => ⟨.int i, He.relB_ok h, fun _ => .int i⟩
  | .str x, u, h => ⟨.str x, He.relB_ok h, fun _ => .str x⟩
  | .tuple ds, u, h => by
    cases u with
    | ref a =>
      have h1 : (match K.lookup a with
        | some ⟨.type c, _, .seq its _, _⟩ => decide (c = "tuple") && (decide (its.size ≤ sizeLine) && rpAllB K ds its.toList)
        | _ => false) = true := h
      cases q : K.lookup a with
      | none =>
        rw [q] at h1
        cases h1
      | some o =>
        obtain ⟨oc, od, dt, osl⟩ := o
        rw [q] at h1
        cases oc with
        | type c =>
          cases dt with
          | seq its n =>
            obtain ⟨h2, h3⟩ := He.ba (show (decide (c = "tuple") && (decide (its.size ≤ sizeLine) && rpAllB K ds its.toList)) = true from h1)
            obtain ⟨h4, h5⟩ := He.ba h3
            obtain ⟨vs, r, hr⟩ := rpAllB_ok h5
            exact ⟨.ref a, rfl, fun G => .tup (.inr ⟨_, its, n, q, congrArg Value.type (of_decide_eq_true h2), rfl, of_decide_eq_true h4, r⟩) (hr G)⟩
          | _ => cases h1
        | _ => cases dt <;> cases h1
    | _ => cases h
  | .list ds, u, h => by cases h
  | .dict ds, u, h => by cases h
theorem rpAllB_ok {K : PySem.W.Frag} : ∀ {ds : List D} {us : List Value}, rpAllB K ds us = true → ∃ vs : List V, Vals vs us ∧ ∀ G : Hp, Rps K G vs ds
  | [], us, h => by
    obtain rfl : us = [] := List.isEmpty_iff.mp h
    exact ⟨[], .nil, fun _ => .nil⟩
  | d :: ds, us, h => by
    cases us with
    | nil => cases h
    | cons u us =>
      obtain ⟨h1, h2⟩ := He.ba (show (rpB K d u && rpAllB K ds us) = true from h)
      obtain ⟨v, r1, p1⟩ := rpB_ok h1
      obtain ⟨vs, r2, p2⟩ := rpAllB_ok h2
      exact ⟨v :: vs, .cons r1 r2, fun G => .cons (p1 G) (p2 G)⟩
end
def gloB (K : PySem.W.Frag) (x : Str) (d : D) : Bool := match PySem.W.nsIn K mainGlobals x with
  | some (some u) => rpB K d u
  | _ => false
theorem gloB_ok {K : PySem.W.Frag} {h : Heap} {mg : Str → Option Value} {x : Str} {d : D} (X : K.In h) (G : h.Ns mainGlobals mg) (c : gloB K x d = true) : GlD mg K x d := by
  unfold gloB at c
  cases e : PySem.W.nsIn K mainGlobals x with
  | none =>
    rw [e] at c
    cases c
  | some r =>
    rw [e] at c
    cases r with
    | none => cases c
    | some u =>
      obtain ⟨v, r, p⟩ := rpB_ok (K := K) (show rpB K d u = true from c)
      exact ⟨u, v, PySem.W.mg_of X G e, r, p⟩
/-- the entries of a table, in their order -/
def entB (K : PySem.W.Frag) : List DictEntry → List (Str × D) → Bool
  | [], [] => true
  | e :: es, (k, d) :: r => (match e.key with
    | .str x _ => decide (x = k)
    | _ => false) && (rpB K d e.val && entB K es r)
  | _, _ => false
theorem entB_ok {K : PySem.W.Frag} (z : Str) : ∀ {es : List DictEntry} {tbl : List (Str × D)}, entB K es tbl = true →
    es.any (·.refKey) = false ∧ match tbl.lookup z with
      | none => es.find? (·.key.isStr z) = none
      | some y => ∃ (e : DictEntry) (v : V), es.find? (·.key.isStr z) = some e ∧ RelV v e.val ∧ ∀ G : Hp, Rp K G v y
  | [], [], _ => ⟨rfl, rfl⟩
  | [], _ :: _, h => by cases h
  | _ :: _, [], h => by cases h
  | e :: es, (k, d) :: r, h => by
    obtain ⟨h1, h2⟩ := He.ba (show ((match e.key with
      | .str x _ => decide (x = k)
      | _ => false) && (rpB K d e.val && entB K es r)) = true from h)
    obtain ⟨h3, h4⟩ := He.ba h2
    obtain ⟨i1, i2⟩ := entB_ok z h4
    cases q : e.key with
    | str x t =>
      rw [q] at h1
      have hx : x = k := of_decide_eq_true h1
      subst hx
      refine ⟨?_, ?_⟩
      · rw [List.any_cons, i1]
        unfold DictEntry.refKey
        rw [q]
        rfl
      · rw [List.lookup_cons, List.find?_cons, q]
        show match (match z == x with
          | true => some d
          | false => r.lookup z) with
        | none => (match x == z with
          | true => some e
          | false => es.find? _) = none
        | some y => ∃ (e' : DictEntry) (v : V), (match x == z with
          | true => some e
          | false => es.find? _) = some e' ∧ RelV v e'.val ∧ ∀ G : Hp, Rp K G v y
        cases hz : z == x with
        | true =>
          have : (x == z) = true := by
            rw [eq_of_beq hz]
            exact beq_self_eq_true x
          rw [this]
          obtain ⟨v, r1, p1⟩ := rpB_ok h3
          exact ⟨e, v, rfl, r1, p1⟩
        | false =>
          have : (x == z) = false := beq_eq_false_iff_ne.mpr fun y => by
            rw [y, beq_self_eq_true] at hz
            cases hz
          rw [this]
          exact i2
    | _ =>
      rw [q] at h1
      cases h1
def tabB (K : PySem.W.Frag) (x : Str) (tbl : List (Str × D)) : Bool := match K.lookup (He.ga K x) with
  | some ⟨_, _, .dict es _, _⟩ => entB K es.toList tbl
  | _ => false
theorem tabB_ok {K : PySem.W.Frag} {w : World} {mg : Str → Option Value} {x : Str} {tbl : List (Str × D)} {es : Array DictEntry} {n : Nat} (c : tabB K x tbl = true) (D : KDict K w (He.ga K x) es n) (hm : mg x = some (.ref (He.ga K x))) : KTab mg K w x tbl := by
  unfold tabB at c
  rw [D.at_] at c
  refine ⟨He.ga K x, es, n, hm, D, fun z => ?_⟩
  obtain ⟨h1, h2⟩ := entB_ok z (show entB K es.toList tbl = true from c)
  have hn : PySem.W.nsIn K (He.ga K x) z = match es.toList.find? (·.key.isStr z) with
    | some e => some (some e.val)
    | none => if es.toList.any (·.refKey) then none else some none := by
    unfold PySem.W.nsIn
    rw [D.at_]
    rfl
  cases e : tbl.lookup z with
  | none =>
    rw [e] at h2
    show PySem.W.nsIn K (He.ga K x) z = some none
    rw [hn, show es.toList.find? (·.key.isStr z) = none from h2, h1]
    rfl
  | some y =>
    rw [e] at h2
    obtain ⟨en, v, g1, g2, g3⟩ := h2
    refine ⟨en.val, v, ?_, g2, g3⟩
    rw [hn, g1]
/-! ### the Hook -/
def exB (gl : List (Str × D)) (tb : List (Str × List (Str × D))) (K : PySem.W.Frag) : Bool := (K.lookup sysModules).isSome && ((gl.all fun q => gloB K q.1 q.2) && tb.all fun q => tabB K q.1 q.2)
abbrev AlX : Type := He.AlT × Bool
def obsX (fa : List He.Fa) (fn : List He.DefD) (ts : List He.Tab) (gl : List (Str × D)) (tb : List (Str × List (Str × D))) (xb : PySem.W.Frag → Bool) (K : PySem.W.Frag) : AlX := (He.obsT fa fn ts K, exB gl tb K && xb K)
def obsXG (n : Nat) (fa : List He.Fa) (fn : List He.DefD) (ts : List He.Tab) (gl : List (Str × D)) (tb : List (Str × List (Str × D))) (xb : PySem.W.Frag → Bool) (g : Addr → Option Obj) : AlX := obsX fa fn ts gl tb xb (He.frG g (sysModules :: He.asD g n))
def SaysX (fa : List He.Fa) (fn : List He.DefD) (ts : List He.Tab) (gl : List (Str × D)) (tb : List (Str × List (Str × D))) (xb : PySem.W.Frag → Bool) (w : World) (K : PySem.W.Frag) : Prop := obsX fa fn ts gl tb xb K = (He.valT fn ts w, true)
def hookX (n : Nat) (fa : List He.Fa) (fn : List He.DefD) (ts : List He.Tab) (gl : List (Str × D)) (tb : List (Str × List (Str × D))) (xb : PySem.W.Frag → Bool) : PySem.W.Hook where
  α := AlX
  obs := fun s => obsXG n fa fn ts gl tb xb s.heap.get?
  val := fun w => (He.valT fn ts w, true)
  says := fun w h => ∃ K : PySem.W.Frag, K.In h ∧ SaysX fa fn ts gl tb xb w K
  of := fun _ _ e => ⟨_, He.frG_in, e⟩
  keeps := fun _ _ _ ⟨K, hK, c⟩ k => ⟨K, PySem.W.Frag.In.keeps hK k, c⟩
theorem obsXG_eq {n : Nat} {fa : List He.Fa} {fn : List He.DefD} {ts : List He.Tab} {gl : List (Str × D)} {tb : List (Str × List (Str × D))} {xb : PySem.W.Frag → Bool} {g : Addr → Option Obj} {s : Shared} (h : ∀ a, g a = s.heap.get? a) : obsXG n fa fn ts gl tb xb g = (hookX n fa fn ts gl tb xb).obs s := by
  have e : g = s.heap.get? := funext h
  rw [e] <;> rfl
section
variable {fa : List He.Fa} {fn : List He.DefD} {ts : List He.Tab} {gl : List (Str × D)} {tb : List (Str × List (Str × D))} {xb : PySem.W.Frag → Bool} {w : World} {K : PySem.W.Frag} {h : Heap} {mg : Str → Option Value}
theorem SaysX.t (c : SaysX fa fn ts gl tb xb w K) : He.SaysT fa fn ts w K := congrArg (fun z : AlX => z.1) c
theorem SaysX.d (c : SaysX fa fn ts gl tb xb w K) : He.SaysD fa fn K := c.t.d
theorem SaysX.x (c : SaysX fa fn ts gl tb xb w K) : exB gl tb K = true := (He.ba (congrArg (fun z : AlX => z.2) c)).1
theorem SaysX.xx (c : SaysX fa fn ts gl tb xb w K) : xb K = true := (He.ba (congrArg (fun z : AlX => z.2) c)).2
theorem SaysX.sys (c : SaysX fa fn ts gl tb xb w K) (base : Heap) (hK : K.In base) : base.get? sysModules ≠ none := by
  obtain ⟨o, e⟩ := Option.isSome_iff_exists.mp (He.ba c.x).1
  rw [hK _ _ e]
  simp
theorem SaysX.glo (c : SaysX fa fn ts gl tb xb w K) (X : K.In h) (G : h.Ns mainGlobals mg) (i : Nat) {x : Str} {d : D} (e : gl[i]? = some (x, d)) : GlD mg K x d :=
  gloB_ok X G (List.all_eq_true.mp (He.ba (He.ba c.x).2).1 _ (List.mem_of_getElem? e))
theorem SaysX.tab (c : SaysX fa fn ts gl tb xb w K) (X : K.In h) (G : h.Ns mainGlobals mg) (i : Nat) {x : Str} {tbl : List (Str × D)} {ks : List Str} (e : tb[i]? = some (x, tbl)) (e2 : ts[i]? = some (fun K => He.ga K x, ks)) (hm : mg x = some (.ref (He.ga K x))) : KTab mg K w x tbl := by
  obtain ⟨es, n, D⟩ := c.t.tab i e2
  exact tabB_ok (List.all_eq_true.mp (He.ba (He.ba c.x).2).2 _ (List.mem_of_getElem? e)) D hm
theorem df_of {x : Str} {st : Stmt} {d : He.DefD} {dvs : List V} (F : ∃ fd, FunD K d.name d.qual d.params d.body d.scope (d.dvs K) (d.kws K) (He.fAd K d.at_) fd) (hm : mg x = some (.ref (He.ga K x)))
    (e : (d.at_, d.name, d.qual, d.params, d.body, d.scope) = ((x, none), x, x, defArgs st, defBody st, defScope st) := by rfl) (e2 : d.dvs K = dvs := by rfl) (e3 : d.kws K = [] := by rfl) : Df K mg x st dvs := by
  obtain ⟨fd, F⟩ := F
  obtain ⟨a, n, q, p, b, s, df, kd⟩ := d
  simp only [Prod.mk.injEq] at e
  obtain ⟨rfl, rfl, rfl, rfl, rfl, rfl⟩ := e
  rw [e2, e3] at F
  exact ⟨_, fd, F, hm⟩
end
/-! ### what a class must say, as a test -/
def excB (K : PySem.W.Frag) (C : Addr) : Bool :=
  He.eqO (PySem.W.findIn K (.ref C) "__getattribute__") (some (some (.builtin "BaseException.__getattribute__"))) && (He.eqO (PySem.W.findIn K (.ref C) "__getattr__") (some none) &&
  (decide (PySem.W.subIn K (.ref C) (.type "BaseException") = some true) && (PySem.W.hasDictIn K C && (He.eqO (PySem.W.findIn K (.ref C) "__class__") (some (some (.builtin "object.__class__"))) &&
  (He.eqO (PySem.W.specialIn K (.builtin "object.__class__") "__get__") (some (some (.builtin "getset_descriptor.__get__"))) && (decide (PySem.W.takesIn K (.builtin "object.__class__") = some true) &&
  decide (PySem.W.mroIn K C (.type "object") = some true)))))))
theorem excB_ok {K : PySem.W.Frag} {C : Addr} (h : excB K C = true) : ExcC K C := by
  unfold excB at h
  obtain ⟨h1, h⟩ := He.ba h
  obtain ⟨h2, h⟩ := He.ba h
  obtain ⟨h3, h⟩ := He.ba h
  obtain ⟨h4, h⟩ := He.ba h
  obtain ⟨h5, h⟩ := He.ba h
  obtain ⟨h6, h⟩ := He.ba h
  obtain ⟨h7, h8⟩ := He.ba h
  exact ⟨He.eqO_ok h1, He.eqO_ok h2, of_decide_eq_true h3, h4, He.eqO_ok h5, He.eqO_ok h6, of_decide_eq_true h7, of_decide_eq_true h8⟩
def kitB (K : PySem.W.Frag) (C : Addr) (v : Value) : Bool := decide (PySem.W.kitOne K (.ref C) v = some true)
end DL

set_option Elab.async false
set_option linter.all false
set_option maxRecDepth 100000
set_option maxHeartbeats 4000000
/-! OX: what a class with an own __init__ must say, as a test. -/
namespace DL
open PySem PySem.Spec PyProof.Rows L2
def oexB (K : PySem.W.Frag) (C : Addr) : Bool := (match K.lookup C with
  | some ⟨.type "type", _, .cls cd, sl⟩ => (match cd.mro, sl.toList with
    | .ref C' :: bm, [_, _, _, _, some (.builtin n), _] => C' == C && (n == "ValueError.__new__" && (!cd.hasDel && (cd.hasDict && PySem.HandSPX.refsVE bm)))
    | _, _ => false)
  | _ => false) && (He.eqO (PySem.W.findIn K (.ref C) "__setattr__") (some (some (.builtin "object.__setattr__"))) && (decide (PySem.W.subIn K (.ref C) (.type "BaseException") = some true) &&
  (decide (PySem.W.typeIn K (.ref C) = some (.type "type")) && PySem.W.keepIn K (.ref C))))
theorem oexB_ok {K : PySem.W.Frag} {C : Addr} (h : oexB K C = true) : OexC K C := by
  unfold oexB at h
  obtain ⟨q, h⟩ := He.ba h
  obtain ⟨h2, h⟩ := He.ba h
  obtain ⟨h3, h⟩ := He.ba h
  obtain ⟨h4, h5⟩ := He.ba h
  refine ⟨?_, He.eqO_ok h2, of_decide_eq_true h3, of_decide_eq_true h4, h5⟩
  split at q
  · rename_i dd cd sl ho
    split at q
    · rename_i C' bm k0 k1 k2 k3 n k5 hm hs
      simp only [Bool.and_eq_true, beq_iff_eq, Bool.not_eq_true'] at q
      obtain ⟨rfl, rfl, hdel, hdct, ht⟩ := q
      obtain ⟨nm, bs, mro, ns, qn, hd, sn, sub, ab, col, del⟩ := cd
      dsimp only at hm hdel hdct
      subst hm hdel hdct
      have hsl : sl = #[k0, k1, k2, k3, some (.builtin "ValueError.__new__"), k5] := by
        obtain ⟨l⟩ := sl
        simp only at hs
        rw [hs]
      subst hsl
      exact ⟨nm, qn, ns, bs, bm, sn, sub, ab, col, dd, k0, k1, k2, k3, k5, ho, ht⟩
    · cases q
  · cases q
theorem fn_ofT {K : PySem.W.Frag} {f : Addr} (h : PySem.W.isFn K (.ref f) = true) : PySem.W.typeIn K (.ref f) = some (.type "function") := by
  unfold PySem.W.isFn at h
  exact eq_of_beq h
/-- an __init__, among what the module laid -/
structure DfI (K : PySem.W.Frag) (C : Addr) (qual : Str) (st : Stmt) : Prop where
  ex : ∃ (f : Addr) (fd : FuncData), FunD K "__init__" qual (defArgs st) (defBody st) (defScope st) [] [] f fd ∧ PySem.W.findIn K (.ref C) "__init__" = some (some (.ref f)) ∧ PySem.W.typeIn K (.ref f) = some (.type "function")
theorem dfi_of {K : PySem.W.Frag} {x qual : Str} {st : Stmt} {d : He.DefD} (F : ∃ fd, FunD K d.name d.qual d.params d.body d.scope (d.dvs K) (d.kws K) (He.fAd K d.at_) fd) (M : Meth K (He.ga K x) "__init__" (He.ma K (He.ga K x) "__init__"))
    (e : (d.at_, d.name, d.qual, d.params, d.body, d.scope) = ((x, some ("__init__" : Str)), ("__init__" : Str), qual, defArgs st, defBody st, defScope st) := by rfl) (e2 : d.dvs K = [] := by rfl) (e3 : d.kws K = [] := by rfl) : DfI K (He.ga K x) qual st := by
  obtain ⟨fd, F⟩ := F
  obtain ⟨a, n, q, p, b, s, df, kd⟩ := d
  simp only [Prod.mk.injEq] at e
  obtain ⟨rfl, rfl, rfl, rfl, rfl, rfl⟩ := e
  rw [e2, e3] at F
  exact ⟨_, fd, F, M.at_, fn_ofT M.fn⟩
end DL

set_option Elab.async false
set_option linter.all false
set_option maxRecDepth 100000
set_option maxHeartbeats 4000000
/-! GZ: the law k02 over its callees, at its own place. -/
namespace K
open PySem PySem.Spec PyProof.Rows L2 DL
section
variable {P : Program} {w : World} {K : PySem.W.Frag} {mg : Str → Option Value} {base : Heap} {CE CP CR : Addr}
theorem own_init (T : Tx2 mg K w) (F : Dfs2 mg K) (C : Cx2 mg K CE CP CR) (O : OexC K CP) (I : DfI K CP "NoPlace.__init__" s_init) : OwnI P w mg K base 22 "NoPlace" "path" CP (lo0 t_k1) := by
  obtain ⟨f, fd, FD, hi, ht⟩ := I.ex
  exact ⟨O, C.xf.no, C.gP, f, fd, N_init, hi, ht, fn_init (k := 21) FD sc_init fun cdv A outer s H E hr => d_init "NoPlace.__init__" (c_kept1 T F) (by decide) f cdv A outer s H E hr, FD.bindsN fun _ _ _ _ _ _ us hl => match us, hl with | [_, _], _ => rfl⟩
def zB (b c g : Addr) : Zn := ⟨[(b, c, g)], [], fun r hr => (nomatch hr), fun t ht u hu => by
  rw [List.mem_singleton.mp ht, List.mem_singleton.mp hu]⟩
def spLaw (K : PySem.W.Frag) : Sp := fun vs H Q _ => ∃ (a : Addr) (ns : List Int), vs = [.ref a] ∧ SqL K H a (ns.map V.int) ∧ ns.length < sizeLine ∧ ∀ H', Q (.bl true) H'
abbrev LB2 : DS := b_law2 t_draw (t_expr 8) (t_walk 9) (t_with 9) t_odd t_way t_due (t_fits 8) t_reach (t_frz 32) t_agrees t_told2 t_parted
def ts_law (K : PySem.W.Frag) (W : WX) : TS := tSeq (tAsg (tCall (spBag K) [] E0 (tCons (tVar 0) tNil)) (gName 1)) (lS K W LB2)
theorem sem_law {W : WX} {vs : List V} {H : Hp} {Q : VK} {E : XK} (h : spLaw K vs H Q E) : ts_law K W { nx := fun _ H' => Q .non H', rt := Q } (start N_law2 vs) H := by
  obtain ⟨a, ns, rfl, hS, hz, q⟩ := h
  refine ⟨_, rfl, a, ns, rfl, hS, hz, fun b c g H' ex hb hc hg ok => ?_⟩
  have okz : Ok (zB b c g) H' (fun _ => none) (fun _ => none) H' := ⟨fun _ _ e => (nomatch e), fun t ht => by
    rw [List.mem_singleton.mp ht]
    exact ok, fun r hr => (nomatch hr), fun _ _ => rfl, fun _ _ _ e => e, fun _ _ _ _ => rfl, DL.Ex.refl _⟩
  have so : SO K (zB b c g) H' (fun _ => none) (none :: some .bag :: List.replicate 10 none) (some (.ref a) :: some (.ref b) :: List.replicate 10 none) (fun _ => none) H' := by
    refine ⟨okz, rfl, fun i x e => ?_, fun i j xs ys p e1 e2 e3 e4 => ?_⟩
    · match i, e with
      | 0, e => cases e
      | 1, e =>
        cases e
        exact ⟨_, rfl, (b, c, g), List.mem_singleton.mpr rfl, rfl⟩
      | n + 2, e =>
        have : ∀ m : Nat, (List.replicate 10 (none : Option DV))[m]? ≠ some (some x) := fun m h => by
          rw [List.getElem?_replicate] at h
          split at h <;> cases h
        exact (this n e).elim
    · match i, e1 with
      | 0, e => cases e
      | 1, e => cases e
      | n + 2, e =>
        have : ∀ m : Nat, (List.replicate 10 (none : Option DV))[m]? ≠ some (some (.own xs)) := fun m h => by
          rw [List.getElem?_replicate] at h
          split at h <;> cases h
        exact (this n e).elim
  refine ⟨zB b c g, H', _, _, _, { nx := fun _ => False, rt := fun x => x = .d (.bool true), bk := fun _ => False, ct := fun _ => False, ex := fun _ _ => False }, so, m_law2 rfl, fun _ h => h.elim, fun x hx v ρ' σ' G2 H2 _ _ r => ?_, fun _ h => h.elim, fun _ h => h.elim, fun _ _ h => h.elim⟩
  subst hx
  obtain rfl := rp_bool r
  exact q H2
theorem at_law {fa : Addr} (T : Tx2 mg K w) (F : Dfs2 mg K) (C : Cx2 mg K CE CP CR) (O : OexC K CP) (I : DfI K CP "NoPlace.__init__" s_init) (hm : mg "law" = some (.ref fa)) (hs : ∀ base : Heap, K.In base → base.get? sysModules ≠ none) :
    ∃ fd : FuncData, (∀ (s : Shared) (u : Value), BindsTo s fd ⟨[u], []⟩ [("script", u)]) ∧ ∀ base : Heap, K.In base → base.Ns mainGlobals mg → AtA callerA P w K mg base fa fd ["script"] (spLaw K) := by
  obtain ⟨f, fd, FD, hf⟩ := F.f_law2.ex
  have e : fa = f := by
    rw [hm] at hf
    cases hf
    rfl
  subst e
  have hb := FunD.bindsA (ps := ["script"]) FD fun _ _ _ _ _ _ us hl => match us, hl with | [_], _ => rfl
  refine ⟨fd, fun s u => hb s [u] rfl, fun base Kb _ => at_of (k := 61) FD sc_law2 ⟨rfl, by decide, by decide⟩ (fun vs H Q E h => ?_) fun cdv outer s H vs Q E hr h => ?_⟩
  · obtain ⟨a, ns, rfl, _⟩ := h
    rfl
  · obtain ⟨fb, fdb, psb, Fb, mb, kb, bb⟩ := (cal_bag (P := P) (base := base) (k := 0) T.toTx F.f__law_bag).ex
    have OI : OwnI P w mg K base 22 "NoPlace" "path" CP (lo0 t_k1) := own_init T F C O I
    have hrb := hs base Kb
    obtain ⟨W, hd⟩ := d_law2 (P := P) (base := base) T.toTx (c__law_draw T F) (c_expr T F 8) (c__law_walk T F 9) (c__law_with T F 9) (c__law_odd T F) (c__law_way T F) (cg_due T F hrb) (c__law_is T F 8) (c__law_reach T F) (c__law_frozen T F 32) (c__law_agrees T F) (cg_told T F C OI hrb) (cg_parted T F C OI hrb)
      (by decide) (by decide) (by decide) (by decide) (by decide) (by decide) (by decide) (by decide) (by decide) (by decide) (by decide) (by decide) (by decide) hrb fa cdv outer s H E hr
    have h1 : PSs (cxOf CX0 P w K mg base N_law2 "law" (defScope s_law2) fa cdv callerA outer s H E).nox (defBody s_law2) (ts_law K W) := pss_cons (ps_set (i := 1) sc_law2.nd rfl (Or.inl rfl) (pe_call (X := (cxOf CX0 P w K mg base N_law2 "law" (defScope s_law2) fa cdv callerA outer s H E).nox) Fb (hr.mono (by decide)) (by rfl) mb kb bb .nil pass0 (pa_cons (pv 0) pa_nil))) hd
    exact ⟨ts_law K W, PSs.nox h1, sem_law h⟩
end
end K

set_option Elab.async false
set_option linter.all false
set_option maxRecDepth 100000
set_option maxHeartbeats 0

namespace K
open PySem PySem.Spec PyProof.Rows L2 DL
def e__law_bag : He.DefD := ⟨("_law_bag", none), "_law_bag", "_law_bag", defArgs s__law_bag, defBody s__law_bag, defScope s__law_bag, [], []⟩
def e_is_row : He.DefD := ⟨("is_row", none), "is_row", "is_row", defArgs s_is_row, defBody s_is_row, defScope s_is_row, [], []⟩
def e_is_integer : He.DefD := ⟨("is_integer", none), "is_integer", "is_integer", defArgs s_is_integer, defBody s_is_integer, defScope s_is_integer, [], []⟩
def e_is_letter : He.DefD := ⟨("is_letter", none), "is_letter", "is_letter", defArgs s_is_letter, defBody s_is_letter, defScope s_is_letter, [], []⟩
def e_is_text_sign : He.DefD := ⟨("is_text_sign", none), "is_text_sign", "is_text_sign", defArgs s_is_text_sign, defBody s_is_text_sign, defScope s_is_text_sign, [], []⟩
def e_is_name : He.DefD := ⟨("is_name", none), "is_name", "is_name", defArgs s_is_name, defBody s_is_name, defScope s_is_name, [], []⟩
def e_is_text : He.DefD := ⟨("is_text", none), "is_text", "is_text", defArgs s_is_text, defBody s_is_text, defScope s_is_text, [], []⟩
def e_field_fits : He.DefD := ⟨("field_fits", none), "field_fits", "field_fits", defArgs s_field_fits, defBody s_field_fits, defScope s_field_fits, [], []⟩
def e_row_fits : He.DefD := ⟨("row_fits", none), "row_fits", "row_fits", defArgs s_row_fits, defBody s_row_fits, defScope s_row_fits, [], []⟩
def e_has_shape : He.DefD := ⟨("has_shape", none), "has_shape", "has_shape", defArgs s_has_shape, defBody s_has_shape, defScope s_has_shape, [], []⟩
def e_fits : He.DefD := ⟨("fits", none), "fits", "fits", defArgs s_fits, defBody s_fits, defScope s_fits, [.int 8, .bl false], []⟩
def e_is_expression : He.DefD := ⟨("is_expression", none), "is_expression", "is_expression", defArgs s_is_expression, defBody s_is_expression, defScope s_is_expression, [], []⟩
def e__law_mixed : He.DefD := ⟨("_law_mixed", none), "_law_mixed", "_law_mixed", defArgs s__law_mixed, defBody s__law_mixed, defScope s__law_mixed, [], []⟩
def e__law_words : He.DefD := ⟨("_law_words", none), "_law_words", "_law_words", defArgs s__law_words, defBody s__law_words, defScope s__law_words, [], []⟩
def e__law_letters : He.DefD := ⟨("_law_letters", none), "_law_letters", "_law_letters", defArgs s__law_letters, defBody s__law_letters, defScope s__law_letters, [], []⟩
def e__law_name : He.DefD := ⟨("_law_name", none), "_law_name", "_law_name", defArgs s__law_name, defBody s__law_name, defScope s__law_name, [], []⟩
def e__law_written : He.DefD := ⟨("_law_written", none), "_law_written", "_law_written", defArgs s__law_written, defBody s__law_written, defScope s__law_written, [], []⟩
def e__law_leaf : He.DefD := ⟨("_law_leaf", none), "_law_leaf", "_law_leaf", defArgs s__law_leaf, defBody s__law_leaf, defScope s__law_leaf, [], []⟩
def e__law_item : He.DefD := ⟨("_law_item", none), "_law_item", "_law_item", defArgs s__law_item, defBody s__law_item, defScope s__law_item, [], []⟩
def e__law_expression : He.DefD := ⟨("_law_expression", none), "_law_expression", "_law_expression", defArgs s__law_expression, defBody s__law_expression, defScope s__law_expression, [], []⟩
def e__law_is_name : He.DefD := ⟨("_law_is_name", none), "_law_is_name", "_law_is_name", defArgs s__law_is_name, defBody s__law_is_name, defScope s__law_is_name, [], []⟩
def e__law_is_text : He.DefD := ⟨("_law_is_text", none), "_law_is_text", "_law_is_text", defArgs s__law_is_text, defBody s__law_is_text, defScope s__law_is_text, [], []⟩
def e__law_is_item : He.DefD := ⟨("_law_is_item", none), "_law_is_item", "_law_is_item", defArgs s__law_is_item, defBody s__law_is_item, defScope s__law_is_item, [], []⟩
def e__law_is : He.DefD := ⟨("_law_is", none), "_law_is", "_law_is", defArgs s__law_is, defBody s__law_is, defScope s__law_is, [], []⟩
def e__law_parts : He.DefD := ⟨("_law_parts", none), "_law_parts", "_law_parts", defArgs s__law_parts, defBody s__law_parts, defScope s__law_parts, [], []⟩
def e__law_walk : He.DefD := ⟨("_law_walk", none), "_law_walk", "_law_walk", defArgs s__law_walk, defBody s__law_walk, defScope s__law_walk, [], []⟩
def e__law_with : He.DefD := ⟨("_law_with", none), "_law_with", "_law_with", defArgs s__law_with, defBody s__law_with, defScope s__law_with, [], []⟩
def e__law_odd : He.DefD := ⟨("_law_odd", none), "_law_odd", "_law_odd", defArgs s__law_odd, defBody s__law_odd, defScope s__law_odd, [], []⟩
def e_kept : He.DefD := ⟨("kept", none), "kept", "kept", defArgs s_kept, defBody s_kept, defScope s_kept, [.int 20], []⟩
def e_frozen : He.DefD := ⟨("frozen", none), "frozen", "frozen", defArgs s_frozen, defBody s_frozen, defScope s_frozen, [], []⟩
def e_parts_of : He.DefD := ⟨("parts_of", none), "parts_of", "parts_of", defArgs s_parts_of, defBody s_parts_of, defScope s_parts_of, [], []⟩
def e_with_parts : He.DefD := ⟨("with_parts", none), "with_parts", "with_parts", defArgs s_with_parts, defBody s_with_parts, defScope s_with_parts, [], []⟩
def e__law_frozen : He.DefD := ⟨("_law_frozen", none), "_law_frozen", "_law_frozen", defArgs s__law_frozen, defBody s__law_frozen, defScope s__law_frozen, [], []⟩
def e__law_same : He.DefD := ⟨("_law_same", none), "_law_same", "_law_same", defArgs s__law_same, defBody s__law_same, defScope s__law_same, [], []⟩
def e__law_reach : He.DefD := ⟨("_law_reach", none), "_law_reach", "_law_reach", defArgs s__law_reach, defBody s__law_reach, defScope s__law_reach, [], []⟩
def e__law_way : He.DefD := ⟨("_law_way", none), "_law_way", "_law_way", defArgs s__law_way, defBody s__law_way, defScope s__law_way, [], []⟩
def e__law_agrees : He.DefD := ⟨("_law_agrees", none), "_law_agrees", "_law_agrees", defArgs s__law_agrees, defBody s__law_agrees, defScope s__law_agrees, [], []⟩
def e__law_draw : He.DefD := ⟨("_law_draw", none), "_law_draw", "_law_draw", defArgs s__law_draw, defBody s__law_draw, defScope s__law_draw, [], []⟩
def e__law_shapes : He.DefD := ⟨("_law_shapes", none), "_law_shapes", "_law_shapes", defArgs s__law_shapes, defBody s__law_shapes, defScope s__law_shapes, [], []⟩
def e__law_due : He.DefD := ⟨("_law_due", none), "_law_due", "_law_due", defArgs s__law_due, defBody s__law_due, defScope s__law_due, [], []⟩
def e_rep : He.DefD := ⟨("_replaced", none), "_replaced", "_replaced", defArgs s_rep, defBody s_rep, defScope s_rep, [], []⟩
def e_part_at : He.DefD := ⟨("part_at", none), "part_at", "part_at", defArgs s_part_at, defBody s_part_at, defScope s_part_at, [], []⟩
def e_with_part : He.DefD := ⟨("with_part", none), "with_part", "with_part", defArgs s_with_part, defBody s_with_part, defScope s_with_part, [], []⟩
def e_told2 : He.DefD := ⟨("_law_told", none), "_law_told", "_law_told", defArgs s_told2, defBody s_told2, defScope s_told2, [], []⟩
def e_parted : He.DefD := ⟨("_law_parted", none), "_law_parted", "_law_parted", defArgs s_parted, defBody s_parted, defScope s_parted, [], []⟩
def e_law2 : He.DefD := ⟨("law", none), "law", "law", defArgs s_law2, defBody s_law2, defScope s_law2, [], []⟩
def e_init : He.DefD := ⟨("NoPlace", some "__init__"), "__init__", "NoPlace.__init__", defArgs s_init, defBody s_init, defScope s_init, [], []⟩
def fn : List He.DefD := ([e__law_bag, e_is_row, e_is_integer, e_is_letter, e_is_text_sign, e_is_name, e_is_text, e_field_fits, e_row_fits, e_has_shape, e_fits, e_is_expression, e__law_mixed, e__law_words, e__law_letters, e__law_name] : List He.DefD) ++ ([e__law_written, e__law_leaf, e__law_item, e__law_expression, e__law_is_name, e__law_is_text, e__law_is_item, e__law_is, e__law_parts, e__law_walk, e__law_with, e__law_odd, e_kept, e_frozen, e_parts_of, e_with_parts] : List He.DefD) ++ ([e__law_frozen, e__law_same, e__law_reach, e__law_way, e__law_agrees, e__law_draw, e__law_shapes, e__law_due, e_rep, e_part_at, e_with_part, e_told2, e_parted, e_law2, e_init] : List He.DefD)
def fa : List He.Fa := ([.glo "_law_bag", .glo "is_row", .glo "is_integer", .glo "is_letter", .glo "is_text_sign", .glo "is_name", .glo "is_text", .glo "field_fits", .glo "row_fits", .glo "has_shape", .glo "fits", .glo "is_expression", .glo "_law_mixed", .glo "_law_words", .glo "_law_letters", .glo "_law_name"] : List He.Fa) ++ ([.glo "_law_written", .glo "_law_leaf", .glo "_law_item", .glo "_law_expression", .glo "_law_is_name", .glo "_law_is_text", .glo "_law_is_item", .glo "_law_is", .glo "_law_parts", .glo "_law_walk", .glo "_law_with", .glo "_law_odd", .glo "kept", .glo "frozen", .glo "parts_of", .glo "with_parts"] : List He.Fa) ++ ([.glo "_law_frozen", .glo "_law_same", .glo "_law_reach", .glo "_law_way", .glo "_law_agrees", .glo "_law_draw", .glo "_law_shapes", .glo "_law_due", .glo "_replaced", .glo "part_at", .glo "with_part", .glo "_law_told", .glo "_law_parted", .glo "law", .glo "SHAPES", .glo "ROW_SIZES"] : List He.Fa) ++ ([.free "len", .free "isinstance", .free "list", .free "tuple", .free "str", .free "int", .free "abs", .free "ord", .free "all", .free "max", .free "min", .free "range", .free "zip", .free "repr", .free "bool", .free "dict"] : List He.Fa) ++ ([.exc "NoExpression", .exm "NoPlace" "NoPlace" true, .exm "NoExpression" "NoPlace" false, .exm "NoExpression" "NoExpression" true, .exm "NoPlace" "NoExpression" false, .glo "NoExpression", .glo "NoPlace", .glo "TriedError", .free "ValueError", .noat "NoPlace" "path", .meth "NoPlace" "__init__"] : List He.Fa)
def ts : List He.Tab := [(fun K => He.ga K "SHAPES", tSHAPES.map (·.1)), (fun K => He.ga K "ROW_SIZES", tROW_SIZES.map (·.1))]
def gl : List (Str × D) := [("WORDS", cWORDS), ("OP_WORDS", cOP_WORDS), ("TEST_WORDS", cTEST_WORDS), ("LEAVING", cLEAVING), ("DEPTH", cDEPTH), ("LONGEST_NAME", cLONGEST_NAME), ("LONGEST_TEXT", cLONGEST_TEXT), ("GREATEST_NUMBER", cGREATEST_NUMBER), ("GREATEST_MOST", cGREATEST_MOST)]
def tb : List (Str × List (Str × D)) := [("SHAPES", tSHAPES), ("ROW_SIZES", tROW_SIZES)]
def xb2 (K : PySem.W.Frag) : Bool := excB K (He.ga K "NoExpression") && (excB K (He.ga K "NoPlace") && (xfB K (He.ga K "NoPlace") && (kitB K (He.ga K "NoExpression") (.ref (He.ga K "TriedError")) && (kitB K (He.ga K "NoExpression") (.type "ValueError") && (kitB K (He.ga K "NoPlace") (.ref (He.ga K "TriedError")) && (kitB K (He.ga K "NoPlace") (.type "ValueError") && (oexB K (He.ga K "NoPlace"))))))))
abbrev hk : PySem.W.Hook := hookX 4 fa fn ts gl tb xb2
def ob (s : PySem.W.SharedT) : AlX := obsXG 4 fa fn ts gl tb xb2 (HandSHeadRun.getT s)
theorem ob_eq (s : PySem.W.SharedT) : ob s = hk.obs s.abs := obsXG_eq (HandSHeadRun.getT_eq s)
abbrev R : PySem.W.OpenRow := PySem.W.OpenLaw.row PySem.Challenge.rw_triedagain_k02_parts_exchanged
def loose : List Str := (["DEEPEST", "kept", "TriedError", "NoExpression", "NoPlace", "WORDS", "OP_WORDS", "TEST_WORDS", "LEAVING", "DEPTH", "SHAPES", "ROW_SIZES", "LONGEST_NAME", "LONGEST_TEXT", "GREATEST_NUMBER", "GREATEST_MOST"] : List Str) ++ (["is_row", "is_integer", "is_letter", "is_text_sign", "is_name", "is_text", "field_fits", "row_fits", "has_shape", "fits", "frozen", "parts_of", "with_parts", "is_expression", "part_at", "with_part"] : List Str) ++ (["_replaced", "_law_bag", "_law_mixed", "_law_draw", "_law_words", "_law_letters", "_law_name", "_law_written", "_law_shapes", "_law_leaf", "_law_item", "_law_expression", "_law_frozen", "_law_same", "_law_is_name", "_law_is_text"] : List Str) ++ (["_law_is_item", "_law_is", "_law_parts", "_law_walk", "_law_with", "_law_odd", "_law_reach", "_law_way", "_law_told", "_law_parted", "_law_due", "_law_agrees"] : List Str)
theorem facts {w : World} {K : PySem.W.Frag} {h : Heap} {mg : Str → Option Value} (X : K.In h) (G : h.Ns mainGlobals mg) (c : SaysX fa fn ts gl tb xb2 w K) : Tx2 mg K w ∧ Dfs2 mg K ∧ Cx2 mg K (He.ga K "NoExpression") (He.ga K "NoPlace") (He.ga K "TriedError") ∧ OexC K (He.ga K "NoPlace") ∧ DfI K (He.ga K "NoPlace") "NoPlace.__init__" s_init ∧ ∀ base : Heap, K.In base → base.get? sysModules ≠ none :=
  have D := c.d
  have gd : ∀ i x, fa[i]? = some (He.Fa.glo x) → mg x = some (.ref (He.ga K x)) := fun i x e => He.glo_ok X G (D.fact i e)
  have fr : ∀ i x, fa[i]? = some (He.Fa.free x) → mg x = none := fun i x e => He.free_ok X G (D.fact i e)
  ⟨⟨⟨fr 48 "len" rfl, fr 49 "isinstance" rfl, fr 50 "list" rfl, fr 51 "tuple" rfl, fr 52 "str" rfl, fr 53 "int" rfl, fr 54 "abs" rfl, fr 55 "ord" rfl, fr 56 "all" rfl, fr 57 "max" rfl, fr 58 "min" rfl, fr 59 "range" rfl, fr 60 "zip" rfl, fr 61 "repr" rfl, fr 62 "bool" rfl, c.glo X G 0 rfl, c.glo X G 1 rfl, c.glo X G 2 rfl, c.glo X G 3 rfl, c.glo X G 4 rfl, c.glo X G 5 rfl, c.glo X G 6 rfl, c.glo X G 7 rfl, c.glo X G 8 rfl, c.tab X G 0 rfl rfl (gd 46 "SHAPES" rfl), c.tab X G 1 rfl rfl (gd 47 "ROW_SIZES" rfl)⟩, fr 63 "dict" rfl⟩,
  ⟨df_of (D.def_ 0 (d := e__law_bag) rfl) (gd 0 "_law_bag" rfl),
  df_of (D.def_ 1 (d := e_is_row) rfl) (gd 1 "is_row" rfl),
  df_of (D.def_ 2 (d := e_is_integer) rfl) (gd 2 "is_integer" rfl),
  df_of (D.def_ 3 (d := e_is_letter) rfl) (gd 3 "is_letter" rfl),
  df_of (D.def_ 4 (d := e_is_text_sign) rfl) (gd 4 "is_text_sign" rfl),
  df_of (D.def_ 5 (d := e_is_name) rfl) (gd 5 "is_name" rfl),
  df_of (D.def_ 6 (d := e_is_text) rfl) (gd 6 "is_text" rfl),
  df_of (D.def_ 7 (d := e_field_fits) rfl) (gd 7 "field_fits" rfl),
  df_of (D.def_ 8 (d := e_row_fits) rfl) (gd 8 "row_fits" rfl),
  df_of (D.def_ 9 (d := e_has_shape) rfl) (gd 9 "has_shape" rfl),
  df_of (D.def_ 10 (d := e_fits) rfl) (gd 10 "fits" rfl),
  df_of (D.def_ 11 (d := e_is_expression) rfl) (gd 11 "is_expression" rfl),
  df_of (D.def_ 12 (d := e__law_mixed) rfl) (gd 12 "_law_mixed" rfl),
  df_of (D.def_ 13 (d := e__law_words) rfl) (gd 13 "_law_words" rfl),
  df_of (D.def_ 14 (d := e__law_letters) rfl) (gd 14 "_law_letters" rfl),
  df_of (D.def_ 15 (d := e__law_name) rfl) (gd 15 "_law_name" rfl),
  df_of (D.def_ 16 (d := e__law_written) rfl) (gd 16 "_law_written" rfl),
  df_of (D.def_ 17 (d := e__law_leaf) rfl) (gd 17 "_law_leaf" rfl),
  df_of (D.def_ 18 (d := e__law_item) rfl) (gd 18 "_law_item" rfl),
  df_of (D.def_ 19 (d := e__law_expression) rfl) (gd 19 "_law_expression" rfl),
  df_of (D.def_ 20 (d := e__law_is_name) rfl) (gd 20 "_law_is_name" rfl),
  df_of (D.def_ 21 (d := e__law_is_text) rfl) (gd 21 "_law_is_text" rfl),
  df_of (D.def_ 22 (d := e__law_is_item) rfl) (gd 22 "_law_is_item" rfl),
  df_of (D.def_ 23 (d := e__law_is) rfl) (gd 23 "_law_is" rfl),
  df_of (D.def_ 24 (d := e__law_parts) rfl) (gd 24 "_law_parts" rfl),
  df_of (D.def_ 25 (d := e__law_walk) rfl) (gd 25 "_law_walk" rfl),
  df_of (D.def_ 26 (d := e__law_with) rfl) (gd 26 "_law_with" rfl),
  df_of (D.def_ 27 (d := e__law_odd) rfl) (gd 27 "_law_odd" rfl),
  df_of (D.def_ 28 (d := e_kept) rfl) (gd 28 "kept" rfl),
  df_of (D.def_ 29 (d := e_frozen) rfl) (gd 29 "frozen" rfl),
  df_of (D.def_ 30 (d := e_parts_of) rfl) (gd 30 "parts_of" rfl),
  df_of (D.def_ 31 (d := e_with_parts) rfl) (gd 31 "with_parts" rfl),
  df_of (D.def_ 32 (d := e__law_frozen) rfl) (gd 32 "_law_frozen" rfl),
  df_of (D.def_ 33 (d := e__law_same) rfl) (gd 33 "_law_same" rfl),
  df_of (D.def_ 34 (d := e__law_reach) rfl) (gd 34 "_law_reach" rfl),
  df_of (D.def_ 35 (d := e__law_way) rfl) (gd 35 "_law_way" rfl),
  df_of (D.def_ 36 (d := e__law_agrees) rfl) (gd 36 "_law_agrees" rfl),
  df_of (D.def_ 37 (d := e__law_draw) rfl) (gd 37 "_law_draw" rfl),
  df_of (D.def_ 38 (d := e__law_shapes) rfl) (gd 38 "_law_shapes" rfl),
  df_of (D.def_ 39 (d := e__law_due) rfl) (gd 39 "_law_due" rfl),
  df_of (D.def_ 40 (d := e_rep) rfl) (gd 40 "_replaced" rfl),
  df_of (D.def_ 41 (d := e_part_at) rfl) (gd 41 "part_at" rfl),
  df_of (D.def_ 42 (d := e_with_part) rfl) (gd 42 "with_part" rfl),
  df_of (D.def_ 43 (d := e_told2) rfl) (gd 43 "_law_told" rfl),
  df_of (D.def_ 44 (d := e_parted) rfl) (gd 44 "_law_parted" rfl),
  df_of (D.def_ 45 (d := e_law2) rfl) (gd 45 "law" rfl)⟩,
  ⟨⟨(He.exc_ok (D.fact 64 rfl)).1, (He.exc_ok (D.fact 64 rfl)).2.1, (He.exc_ok (D.fact 64 rfl)).2.2.1, (He.exc_ok (D.fact 64 rfl)).2.2.2, gd 69 "NoExpression" rfl⟩, gd 70 "NoPlace" rfl, gd 71 "TriedError" rfl, fr 72 "ValueError" rfl,
    ⟨He.exm_ok (D.fact 65 rfl), He.exm_ok (D.fact 66 rfl), He.exm_ok (D.fact 67 rfl), He.exm_ok (D.fact 68 rfl), excB_ok (He.ba c.xx).1, excB_ok (He.ba (He.ba c.xx).2).1, xfB_ok (He.ba (He.ba (He.ba c.xx).2).2).1, He.noat_ok (D.fact 73 rfl), of_decide_eq_true (He.ba (He.ba (He.ba (He.ba c.xx).2).2).2).1, of_decide_eq_true (He.ba (He.ba (He.ba (He.ba (He.ba c.xx).2).2).2).2).1, of_decide_eq_true (He.ba (He.ba (He.ba (He.ba (He.ba (He.ba c.xx).2).2).2).2).2).1, of_decide_eq_true (He.ba (He.ba (He.ba (He.ba (He.ba (He.ba (He.ba c.xx).2).2).2).2).2).2).1⟩⟩,
  oexB_ok (He.ba (He.ba (He.ba (He.ba (He.ba (He.ba (He.ba c.xx).2).2).2).2).2).2).2, dfi_of (D.def_ 46 (d := e_init) rfl) (He.meth_ok (D.fact 74 rfl)), c.sys⟩
end K

set_option Elab.async false
set_option linter.all false
set_option maxRecDepth 100000
set_option maxHeartbeats 0
namespace K
abbrev RunP (w : PySem.World) : Prop := HandSHeadRun.RunEq R (PySem.W.view R.prog [64]) hk ob 60000 loose w
theorem run_f (w : PySem.World) : RunP (w.withFollow "special-get-raises" false) := by
  intro os
  kernel_rfl
theorem run_t (w : PySem.World) : RunP (w.withFollow "special-get-raises" true) := by
  intro os
  kernel_rfl
theorem run (w : PySem.World) : HandSHeadRun.RunEq R (PySem.W.view R.prog [64]) hk ob 60000 loose w := PySem.W.byRow2 "special-get-raises" (P := RunP) run_f run_t w
end K
open PySem PySem.W PySem.Calls PyProof.Rows
theorem PySem.Challenge.cw_triedagain_k02_parts_exchanged_holds : PySem.Challenge.rw_triedagain_k02_parts_exchanged.Holds := by
  w_on; o_law
  refine HandSHeadRun.head_any (r := OpenLaw.row PySem.Challenge.rw_triedagain_k02_parts_exchanged) (q := view (OpenLaw.row PySem.Challenge.rw_triedagain_k02_parts_exchanged).prog [64]) (H := K.hk) (ob := K.ob) (M := 60000) (loose := K.loose) (d := HandSHeadRun.topDef (OpenLaw.row PySem.Challenge.rw_triedagain_k02_parts_exchanged).prog 64) (kwd := []) K.ob_eq
    (by kernel_rfl) (fun s => by kernel_rfl) K.run (by kernel_rfl) (by kernel_rfl) (by kernel_rfl) (by rfl) (by first | assumption | decide +kernel) (by decide +kernel) ⟨rfl, rfl, rfl, rfl, rfl, by decide +kernel⟩ ?hw ?hc
  case hw => w_witness2
  case hc =>
    refine DL.walk_at (l := PySem.Challenge.rw_triedagain_k02_parts_exchanged) (n := 63) (x := "script") rfl (by decide) (by kernel_rfl) ?F
    intro w mg fa h Y G hmg0
    obtain ⟨Kf, KX, c⟩ := Y
    have hmg : mg ("law" : PySem.Str) = some (.ref fa) := by
      have e : (HandSHeadRun.topDef (OpenLaw.row PySem.Challenge.rw_triedagain_k02_parts_exchanged).prog 64).name = ("law" : PySem.Str) := by kernel_rfl
      rw [← e]
      exact hmg0
    obtain ⟨T, F, C5, O, I, S⟩ := K.facts KX G c
    obtain ⟨fd, hb, hF⟩ := K.at_law (P := (PySem.Challenge.rw_triedagain_k02_parts_exchanged).prog) (w := w) T F C5 O I hmg S
    exact ⟨Kf, fd, K.spLaw Kf, KX, hb, fun H a ns hl _ hS => ⟨a, ns, rfl, hS, Nat.lt_of_le_of_lt hl (by decide), fun _ => rfl⟩, hF⟩

