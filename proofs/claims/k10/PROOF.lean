import PyProof.Rows.All
import Wide.All
import OpenK.AllK
import Wide.FinOn
import HandS.ForMost
import HandS.ForExc
import HandS.Walk
import HandS.TupAny
import HandS.Wide
import HandS.DictComp
import HandS.IsInst
import HandS.SortRule
import HandS.Flow
import KE.SortData
import HandS.EndBits
import PySem.Challenge.RW_twowaysigns_k10_fillings_composed
set_option Elab.async false
set_option linter.all false
set_option maxRecDepth 100000
set_option maxHeartbeats 2000000
/-! Values as data: what a def of plain data does, told by a function from data to data. -/
namespace Dl
open PySem PySem.Spec PyProof.Rows L2

/-- plain data -/
inductive D where
  | non | bl (b : Bool) | int (i : Int) | str (s : Str)
  | tup (ds : List D) | lst (ds : List D)
  /-- a list that is only read (the script) -/
  | scr (ds : List D)
  | dic (ks : List Key) (ds : List D)
  /-- an instance whose fields stay as they are: its class, their names, their values -/
  | obj (c : Addr) (xs : List Str) (ds : List D)

mutual
inductive Is (K : PySem.W.Frag) (H : Hp) : V → D → Prop
  | non : Is K H .non .non
  | bl (b : Bool) : Is K H (.bl b) (.bl b)
  | int (i : Int) : Is K H (.int i) (.int i)
  | str (s : Str) : Is K H (.str s) (.str s)
  | tup {a : Addr} {vs : List V} {ds : List D} : SqT K H a vs → IsL K H vs ds → Is K H (.ref a) (.tup ds)
  | lst {a : Addr} {vs : List V} {ds : List D} : H a = some (.lst vs) → IsL K H vs ds → Is K H (.ref a) (.lst ds)
  | scr {a : Addr} {vs : List V} {ds : List D} : SqL K H a vs → IsL K H vs ds → Is K H (.ref a) (.scr ds)
  | dic {a : Addr} {kvs : List (Key × V)} {ks : List Key} {ds : List D} : H a = some (.dK kvs) → kvs.map (·.1) = ks → IsL K H (kvs.map (·.2)) ds → Is K H (.ref a) (.dic ks ds)
  | obj {a c dx : Addr} {fs : List (Str × V)} {xs : List Str} {ds : List D} : H a = some (.ins c dx fs) → fs.map (·.1) = xs → IsL K H (fs.map (·.2)) ds → Is K H (.ref a) (.obj c xs ds)
inductive IsL (K : PySem.W.Frag) (H : Hp) : List V → List D → Prop
  | nil : IsL K H [] []
  | cons {v : V} {vs : List V} {d : D} {ds : List D} : Is K H v d → IsL K H vs ds → IsL K H (v :: vs) (d :: ds)
end

theorem same_rd {H H' : Hp} {a : Addr} {u : HO} (e : Same H H') (h : Rd H a u) : Rd H' a u := by
  rcases h with h | ⟨o, h⟩
  · exact .inl (e _ _ h)
  · exact .inr ⟨o, e _ _ h⟩
theorem same_l {K : PySem.W.Frag} {H H' : Hp} {a : Addr} {xs : List V} (e : Same H H') (h : SqL K H a xs) : SqL K H' a xs := e.seq h
theorem same_t {K : PySem.W.Frag} {H H' : Hp} {a : Addr} {xs : List V} (e : Same H H') (h : SqT K H a xs) : SqT K H' a xs := by
  rcases h with h | h
  · exact .inl (same_rd e h)
  · exact .inr h
mutual
theorem Is.mono {K : PySem.W.Frag} {H H' : Hp} (e : Same H H') {v : V} {d : D} : Is K H v d → Is K H' v d
  | .non => .non
  | .bl b => .bl b
  | .int i => .int i
  | .str s => .str s
  | .tup h r => .tup (same_t e h) (r.mono e)
  | .lst h r => .lst (e _ _ h) (r.mono e)
  | .scr h r => .scr (same_l e h) (r.mono e)
  | .dic h k r => .dic (e _ _ h) k (r.mono e)
  | .obj h k r => .obj (e _ _ h) k (r.mono e)
theorem IsL.mono {K : PySem.W.Frag} {H H' : Hp} (e : Same H H') {vs : List V} {ds : List D} : IsL K H vs ds → IsL K H' vs ds
  | .nil => .nil
  | .cons h r => .cons (h.mono e) (r.mono e)
end
theorem IsL.len {K : PySem.W.Frag} {H : Hp} : ∀ {vs : List V} {ds : List D}, IsL K H vs ds → vs.length = ds.length
  | _, _, .nil => rfl
  | _, _, .cons _ r => congrArg (· + 1) r.len
theorem IsL.get {K : PySem.W.Frag} {H : Hp} : ∀ {vs : List V} {ds : List D} {i : Nat} {d : D}, IsL K H vs ds → ds[i]? = some d → ∃ v, vs[i]? = some v ∧ Is K H v d
  | _, _, _, _, .nil, e => by simp at e
  | _, _, 0, _, .cons h _, e => by simp at e; subst e; exact ⟨_, rfl, h⟩
  | _, _, i + 1, d, .cons _ r, e => by
    obtain ⟨v, h1, h2⟩ := r.get (i := i) (d := d) (by simpa using e)
    exact ⟨v, by simpa using h1, h2⟩
theorem IsL.getv {K : PySem.W.Frag} {H : Hp} : ∀ {vs : List V} {ds : List D} {i : Nat} {v : V}, IsL K H vs ds → vs[i]? = some v → ∃ d, ds[i]? = some d ∧ Is K H v d
  | _, _, _, _, .nil, e => by simp at e
  | _, _, 0, _, .cons h _, e => by simp at e; subst e; exact ⟨_, rfl, h⟩
  | _, _, i + 1, d, .cons _ r, e => by
    obtain ⟨v, h1, h2⟩ := r.getv (i := i) (v := d) (by simpa using e)
    exact ⟨v, by simpa using h1, h2⟩
theorem IsL.append {K : PySem.W.Frag} {H : Hp} : ∀ {vs ws : List V} {ds es : List D}, IsL K H vs ds → IsL K H ws es → IsL K H (vs ++ ws) (ds ++ es)
  | _, _, _, _, .nil, s => s
  | _, _, _, _, .cons h r, s => .cons h (r.append s)
theorem IsL.take {K : PySem.W.Frag} {H : Hp} : ∀ {vs : List V} {ds : List D} (n : Nat), IsL K H vs ds → IsL K H (vs.take n) (ds.take n)
  | _, _, 0, _ => .nil
  | _, _, _ + 1, .nil => .nil
  | _, _, n + 1, .cons h r => .cons h (r.take n)
theorem IsL.drop {K : PySem.W.Frag} {H : Hp} : ∀ {vs : List V} {ds : List D} (n : Nat), IsL K H vs ds → IsL K H (vs.drop n) (ds.drop n)
  | _, _, 0, r => r
  | _, _, _ + 1, .nil => .nil
  | _, _, n + 1, .cons _ r => r.drop n
theorem IsL.set {K : PySem.W.Frag} {H : Hp} {v : V} {d : D} (h0 : Is K H v d) : ∀ {vs : List V} {ds : List D} (i : Nat), IsL K H vs ds → IsL K H (vs.set i v) (ds.set i d)
  | _, _, _, .nil => .nil
  | _, _, 0, .cons _ r => .cons h0 r
  | _, _, i + 1, .cons h r => .cons h (r.set h0 i)
theorem IsL.reverse {K : PySem.W.Frag} {H : Hp} : ∀ {vs : List V} {ds : List D}, IsL K H vs ds → IsL K H vs.reverse ds.reverse
  | _, _, .nil => .nil
  | _, _, .cons h r => by
    rw [List.reverse_cons, List.reverse_cons]
    exact r.reverse.append (.cons h .nil)
theorem IsL.eraseIdx {K : PySem.W.Frag} {H : Hp} : ∀ {vs : List V} {ds : List D} (i : Nat), IsL K H vs ds → IsL K H (vs.eraseIdx i) (ds.eraseIdx i)
  | _, _, _, .nil => .nil
  | _, _, 0, .cons _ r => r
  | _, _, i + 1, .cons h r => .cons h (r.eraseIdx i)

/-! ### heaps: G what stands still, H all that is tracked -/
structure Go (G H G' H' : Hp) : Prop where
  s : Same G H
  g : Same G G'
  gh : Same G' H'
  out : ∀ a o, G a = none → H a = some o → G' a = none ∧ H' a = some o
theorem Go.refl {G H : Hp} (h : Same G H) : Go G H G H := ⟨h, Same.refl G, h, fun _ _ n e => ⟨n, e⟩⟩
theorem Go.trans {G H G1 H1 G2 H2 : Hp} (a : Go G H G1 H1) (b : Go G1 H1 G2 H2) : Go G H G2 H2 :=
  ⟨a.s, a.g.trans b.g, b.gh, fun x o n e => let ⟨n1, e1⟩ := a.out x o n e; b.out x o n1 e1⟩
theorem Go.same {G H G' H' : Hp} (a : Go G H G' H') : Same H H' := fun x o e => by
  cases q : G x with
  | none => exact (a.out x o q e).2
  | some u =>
    have e1 := a.s x u q
    rw [e] at e1
    cases e1
    exact a.gh x o (a.g x o q)
theorem same_upd {H : Hp} {p : Addr} {o : HO} (h : H p = none) : Same H (upd H p o) := fun b x e => by
  rw [upd_ne (ne_of_none e h)]
  exact e
theorem Go.new {G H : Hp} {p : Addr} {o : HO} (gh : Same G H) (hp : H p = none) : Go G H (upd G p o) (upd H p o) := by
  have gp : G p = none := gh.free hp
  refine ⟨gh, same_upd gp, fun a u e => ?_, fun a u n e => ?_⟩
  · by_cases h : a = p
    · subst h
      rw [upd_same] at e ⊢
      exact e
    · rw [upd_ne h] at e ⊢
      exact gh a u e
  · have ne : a ≠ p := ne_of_none e hp
    rw [upd_ne ne, upd_ne ne]
    exact ⟨n, e⟩

/-! ### slots -/
inductive Sl where
  | val (d : D) | own (ds : List D) | ownd (ks : List Key) (ds : List D)
  /-- an instance that its __init__ is making -/
  | owni (p c : Addr) (xs : List Str) (ds : List D)
abbrev En := List (Option Sl)
def Sl.isOwn : Sl → Bool
  | .val _ => false
  | _ => true
def SlOk (K : PySem.W.Frag) (G H0 H : Hp) (v : V) : Sl → Prop
  | .val d => Is K G v d
  | .own ds => ∃ p vs, v = .ref p ∧ H0 p = none ∧ G p = none ∧ H p = some (.lst vs) ∧ IsL K G vs ds
  | .ownd ks ds => ∃ p kvs, v = .ref p ∧ H0 p = none ∧ G p = none ∧ H p = some (.dK kvs) ∧ kvs.map (·.1) = ks ∧ IsL K G (kvs.map (·.2)) ds
  | .owni p c xs ds => ∃ dx fs, v = .ref p ∧ H0 p = none ∧ G p = none ∧ H p = some (.ins c dx fs) ∧ fs.map (·.1) = xs ∧ IsL K G (fs.map (·.2)) ds
structure Rp (K : PySem.W.Frag) (H0 G : Hp) (env : En) (σ : L2.St) (H : Hp) : Prop where
  gh : Same G H
  len : σ.length = env.length
  sl : ∀ (i : Nat) (s : Sl), env[i]? = some (some s) → ∃ v, σ[i]? = some (some v) ∧ SlOk K G H0 H v s
  dis : ∀ (i j : Nat) (s t : Sl) (v : V), i ≠ j → env[i]? = some (some s) → env[j]? = some (some t) → s.isOwn = true → t.isOwn = true → σ[i]? = some (some v) → σ[j]? ≠ some (some v)
section
variable {K : PySem.W.Frag} {H0 G H G' H' : Hp} {env : En} {σ : L2.St} {v : V} {s : Sl}
theorem SlOk.go (e : Go G H G' H') (h : SlOk K G H0 H v s) : SlOk K G' H0 H' v s := by
  cases s with
  | val d => exact Is.mono e.g h
  | own ds =>
    obtain ⟨p, vs, e1, e2, e3, e4, e5⟩ := h
    obtain ⟨n, q⟩ := e.out p _ e3 e4
    exact ⟨p, vs, e1, e2, n, q, e5.mono e.g⟩
  | ownd ks ds =>
    obtain ⟨p, kvs, e1, e2, e3, e4, e5, e6⟩ := h
    obtain ⟨n, q⟩ := e.out p _ e3 e4
    exact ⟨p, kvs, e1, e2, n, q, e5, e6.mono e.g⟩
  | owni p c xs ds =>
    obtain ⟨dx, fs, e1, e2, e3, e4, e5, e6⟩ := h
    obtain ⟨n, q⟩ := e.out p _ e3 e4
    exact ⟨dx, fs, e1, e2, n, q, e5, e6.mono e.g⟩
theorem Rp.go (r : Rp K H0 G env σ H) (e : Go G H G' H') : Rp K H0 G' env σ H' :=
  ⟨e.gh, r.len, fun i s h => let ⟨v, h1, h2⟩ := r.sl i s h; ⟨v, h1, h2.go e⟩, r.dis⟩
end

/-- v reads as d: data that stands still, or an own list, an own dict -/
inductive IsR (K : PySem.W.Frag) (G H : Hp) : V → D → Prop
  | is {v : V} {d : D} : Is K G v d → IsR K G H v d
  | own {p : Addr} {vs : List V} {ds : List D} : G p = none → H p = some (.lst vs) → IsL K G vs ds → IsR K G H (.ref p) (.lst ds)
  | ownd {p : Addr} {kvs : List (Key × V)} {ks : List Key} {ds : List D} : G p = none → H p = some (.dK kvs) → kvs.map (·.1) = ks → IsL K G (kvs.map (·.2)) ds → IsR K G H (.ref p) (.dic ks ds)
inductive IsRL (K : PySem.W.Frag) (G H : Hp) : List V → List D → Prop
  | nil : IsRL K G H [] []
  | cons {v : V} {vs : List V} {d : D} {ds : List D} : IsR K G H v d → IsRL K G H vs ds → IsRL K G H (v :: vs) (d :: ds)
section
variable {K : PySem.W.Frag} {G H G' H' : Hp} {v : V} {d : D}
theorem IsR.go (e : Go G H G' H') (h : IsR K G H v d) : IsR K G' H' v d := by
  cases h with
  | is h => exact .is (h.mono e.g)
  | own n q r => obtain ⟨n', q'⟩ := e.out _ _ n q; exact .own n' q' (r.mono e.g)
  | ownd n q k r => obtain ⟨n', q'⟩ := e.out _ _ n q; exact .ownd n' q' k (r.mono e.g)
theorem IsRL.go (e : Go G H G' H') : ∀ {vs : List V} {ds : List D}, IsRL K G H vs ds → IsRL K G' H' vs ds
  | _, _, .nil => .nil
  | _, _, .cons h r => .cons (h.go e) (IsRL.go e r)
theorem IsR.non (h : IsR K G H v .non) : v = .non := by cases h with | is h => cases h; rfl
theorem IsR.bl {b : Bool} (h : IsR K G H v (.bl b)) : v = .bl b := by cases h with | is h => cases h; rfl
theorem IsR.int {i : Int} (h : IsR K G H v (.int i)) : v = .int i := by cases h with | is h => cases h; rfl
theorem IsR.str {s : Str} (h : IsR K G H v (.str s)) : v = .str s := by cases h with | is h => cases h; rfl
theorem IsR.tup {ds : List D} (gh : Same G H) (h : IsR K G H v (.tup ds)) : ∃ p vs, v = .ref p ∧ SqT K G p vs ∧ SqT K H p vs ∧ IsL K G vs ds := by
  cases h with
  | is h => cases h with | tup q r => exact ⟨_, _, rfl, q, same_t gh q, r⟩
theorem IsR.lst {ds : List D} (gh : Same G H) (h : IsR K G H v (.lst ds)) : ∃ p vs, v = .ref p ∧ H p = some (.lst vs) ∧ IsL K G vs ds := by
  cases h with
  | is h => cases h with | lst q r => exact ⟨_, _, rfl, gh _ _ q, r⟩
  | own n q r => exact ⟨_, _, rfl, q, r⟩
theorem IsR.scr {ds : List D} (gh : Same G H) (h : IsR K G H v (.scr ds)) : ∃ p vs, v = .ref p ∧ SqL K H p vs ∧ IsL K G vs ds := by
  cases h with
  | is h => cases h with | scr q r => exact ⟨_, _, rfl, same_l gh q, r⟩
theorem IsR.dic {ks : List Key} {ds : List D} (gh : Same G H) (h : IsR K G H v (.dic ks ds)) : ∃ p kvs, v = .ref p ∧ H p = some (.dK kvs) ∧ kvs.map (·.1) = ks ∧ IsL K G (kvs.map (·.2)) ds := by
  cases h with
  | is h => cases h with | dic q k r => exact ⟨_, _, rfl, gh _ _ q, k, r⟩
  | ownd n q k r => exact ⟨_, _, rfl, q, k, r⟩
theorem IsRL.one {vs : List V} (h : IsRL K G H vs [d]) : ∃ v, vs = [v] ∧ IsR K G H v d := by
  cases h with
  | cons a r => cases r; exact ⟨_, rfl, a⟩
theorem IsRL.two {vs : List V} {e : D} (h : IsRL K G H vs [d, e]) : ∃ v w, vs = [v, w] ∧ IsR K G H v d ∧ IsR K G H w e := by
  cases h with
  | cons a r =>
    cases r with
    | cons b r => cases r; exact ⟨_, _, rfl, a, b⟩
end

/-! ### the judgements -/
/-- an expression's reading gives the data m env, new or standing still -/
def TD (K : PySem.W.Frag) (t : TE) (m : En → Option D) : Prop := ∀ (H0 : Hp) (env : En) (σ : L2.St) (H G : Hp) (d : D) (Q : VK), Rp K H0 G env σ H → m env = some d → (∀ v G' H', Go G H G' H' → Is K G' v d → Q v H') → t σ H Q
/-- .. it may be an own list too: for those who only read it -/
def TR (K : PySem.W.Frag) (t : TE) (m : En → Option D) : Prop := ∀ (H0 : Hp) (env : En) (σ : L2.St) (H G : Hp) (d : D) (Q : VK), Rp K H0 G env σ H → m env = some d → (∀ v G' H', Go G H G' H' → IsR K G' H' v d → Q v H') → t σ H Q
def TB (K : PySem.W.Frag) (t : TT) (m : En → Option Bool) : Prop := ∀ (H0 : Hp) (env : En) (σ : L2.St) (H G : Hp) (b : Bool) (Q : Bool → Hp → Prop), Rp K H0 G env σ H → m env = some b → (∀ G' H', Go G H G' H' → Q b H') → t σ H Q
def TAd (K : PySem.W.Frag) (t : TA) (m : En → Option (List D)) : Prop := ∀ (H0 : Hp) (env : En) (σ : L2.St) (H G : Hp) (ds : List D) (Q : List V → Hp → Prop), Rp K H0 G env σ H → m env = some ds → (∀ vs G' H', Go G H G' H' → IsL K G' vs ds → Q vs H') → t σ H Q
def TAr (K : PySem.W.Frag) (t : TA) (m : En → Option (List D)) : Prop := ∀ (H0 : Hp) (env : En) (σ : L2.St) (H G : Hp) (ds : List D) (Q : List V → Hp → Prop), Rp K H0 G env σ H → m env = some ds → (∀ vs G' H', Go G H G' H' → IsRL K G' H' vs ds → Q vs H') → t σ H Q
structure DE (X : Cx) (K : PySem.W.Frag) (e : Expr) (t : TE) (m : En → Option D) : Prop where
  p : PE X e t
  d : TD K t m
structure DR (X : Cx) (K : PySem.W.Frag) (e : Expr) (t : TE) (m : En → Option D) : Prop where
  p : PE X e t
  d : TR K t m
structure DT (X : Cx) (K : PySem.W.Frag) (e : Expr) (t : TT) (m : En → Option Bool) : Prop where
  p : PT X e t
  d : TB K t m
structure DW (X : Cx) (K : PySem.W.Frag) (e : Expr) (t : TT) (m : En → Option Bool) : Prop where
  p : PW X e t
  d : TB K t m
structure DA (X : Cx) (K : PySem.W.Frag) (es : List Expr) (t : TA) (m : En → Option (List D)) : Prop where
  p : PA X es t
  d : TAd K t m
structure DAr (X : Cx) (K : PySem.W.Frag) (es : List Expr) (t : TA) (m : En → Option (List D)) : Prop where
  p : PA X es t
  d : TAr K t m

theorem bind_some_of {α β : Type} {o : Option α} {f : α → Option β} {z : β} (h : o.bind f = some z) : ∃ x, o = some x ∧ f x = some z := by
  cases o with
  | none => cases h
  | some x => exact ⟨x, rfl, h⟩
section
variable {X : Cx} {K : PySem.W.Frag} {e : Expr} {es : List Expr} {pos : Pos} {t : TE} {ta tb : TE} {tt tu : TT}
def nameV (i : Nat) (env : En) : Option D := match env[i]? with
  | some (some (.val d)) => some d
  | _ => none
def nameR (i : Nat) (env : En) : Option D := match env[i]? with
  | some (some (.val d)) => some d
  | some (some (.own ds)) => some (.lst ds)
  | some (some (.ownd ks ds)) => some (.dic ks ds)
  | _ => none
theorem nameV_some {i : Nat} {env : En} {d : D} (h : nameV i env = some d) : env[i]? = some (some (.val d)) := by
  unfold nameV at h
  split at h
  · cases h; assumption
  · cases h
theorem td_name (i : Nat) : TD K (tVar i) (nameV i) := fun H0 env σ H G d Q r h q => by
  obtain ⟨v, h1, h2⟩ := r.sl i _ (nameV_some h)
  exact ⟨v, h1, q v G H (Go.refl r.gh) h2⟩
theorem tr_name (i : Nat) : TR K (tVar i) (nameR i) := fun H0 env σ H G d Q r h q => by
  unfold nameR at h
  split at h
  · rename_i e1
    cases h
    obtain ⟨v, h1, h2⟩ := r.sl i _ e1
    exact ⟨v, h1, q v G H (Go.refl r.gh) (.is h2)⟩
  · rename_i e1
    cases h
    obtain ⟨v, h1, p, vs, e2, e3, e4, e5, e6⟩ := r.sl i _ e1
    subst e2
    exact ⟨_, h1, q _ G H (Go.refl r.gh) (.own e4 e5 e6)⟩
  · rename_i e1
    cases h
    obtain ⟨v, h1, p, kvs, e2, e3, e4, e5, e6, e7⟩ := r.sl i _ e1
    subst e2
    exact ⟨_, h1, q _ G H (Go.refl r.gh) (.ownd e4 e5 e6 e7)⟩
  · cases h
theorem de_name (i : Nat) {x : Str} (hN : X.N[i]? = some x := by rfl) (hv : Vis X.env.scope x := by first | exact Or.inl rfl | exact Or.inr (Or.inl rfl) | exact Or.inr (Or.inr rfl)) (hd : (x == ("__debug__" : Str)) = false := by decide)
    (hcd : (x == ("__classdict__" : Str)) = false := by decide) : DE X K (.Name x pos) (tVar i) (nameV i) := ⟨pe_var hN hv hd hcd, td_name i⟩
theorem dr_name (i : Nat) {x : Str} (hN : X.N[i]? = some x := by rfl) (hv : Vis X.env.scope x := by first | exact Or.inl rfl | exact Or.inr (Or.inl rfl) | exact Or.inr (Or.inr rfl)) (hd : (x == ("__debug__" : Str)) = false := by decide)
    (hcd : (x == ("__classdict__" : Str)) = false := by decide) : DR X K (.Name x pos) (tVar i) (nameR i) := ⟨pe_var hN hv hd hcd, tr_name i⟩
theorem TD.r {m : En → Option D} (h : TD K t m) : TR K t m := fun H0 env σ H G d Q r e q => h H0 env σ H G d Q r e fun v G' H' g i => q v G' H' g (.is i)
theorem dr_of {m : En → Option D} (h : DE X K e t m) : DR X K e t m := ⟨h.p, h.d.r⟩
/-- constants -/
theorem td_c {v : V} {d : D} (h : ∀ G, Is K G v d) : TD K (tC v) (fun _ => some d) := fun H0 env σ H G d' Q r e q => by
  cases e
  exact q v G H (Go.refl r.gh) (h G)
theorem de_int {i : Int} {j} : DE X K (.Constant (.int i) j pos) (tC (.int i)) (fun _ => some (.int i)) := ⟨pe_int, td_c fun _ => .int i⟩
theorem de_bl {b : Bool} {j} : DE X K (.Constant (.bool b) j pos) (tC (.bl b)) (fun _ => some (.bl b)) := ⟨pe_bl, td_c fun _ => .bl b⟩
theorem de_str {x : Str} {j} : DE X K (.Constant (.str x) j pos) (tC (.str x)) (fun _ => some (.str x)) := ⟨pe_str, td_c fun _ => .str x⟩
theorem de_non {j} : DE X K (.Constant .none j pos) (tC .non) (fun _ => some .non) := ⟨pe_non, td_c fun _ => .non⟩
/-- a global of the module that holds an int, a text -/
theorem de_glob {x : Str} {v : V} {u : Value} {d : D} (hg : Gl X x) (hm : X.mg x = some u) (r : RelV v u) (h : ∀ G, Is K G v d) (hd : (x == ("__debug__" : Str)) = false := by decide) : DE X K (.Name x pos) (tC v) (fun _ => some d) := ⟨pe_glob hg hm r hd, td_c h⟩
/-- argument lists -/
theorem tad_nil : TAd K tNil (fun _ => some []) := fun H0 env σ H G ds Q r e q => by cases e; exact q [] G H (Go.refl r.gh) .nil
theorem tar_nil : TAr K tNil (fun _ => some []) := fun H0 env σ H G ds Q r e q => by cases e; exact q [] G H (Go.refl r.gh) .nil
theorem da_nil : DA X K [] tNil (fun _ => some []) := ⟨pa_nil, tad_nil⟩
theorem dar_nil : DAr X K [] tNil (fun _ => some []) := ⟨pa_nil, tar_nil⟩
def consM (m : En → Option D) (ms : En → Option (List D)) (env : En) : Option (List D) := (m env).bind fun d => (ms env).bind fun ds => some (d :: ds)
theorem consM_some {m : En → Option D} {ms : En → Option (List D)} {env : En} {ds : List D} (h : consM m ms env = some ds) : ∃ d r, m env = some d ∧ ms env = some r ∧ ds = d :: r := by
  obtain ⟨d, h1, h⟩ := bind_some_of h
  obtain ⟨r, h2, h⟩ := bind_some_of h
  cases h
  exact ⟨d, r, h1, h2, rfl⟩
variable {ta' : TA} {tk : TA}
theorem da_cons {m : En → Option D} {ms : En → Option (List D)} (h1 : DE X K e t m) (h2 : DA X K es ta' ms) (hs : starEach (e :: es) X.env = (false, eval e X.env) :: starEach es X.env := by rfl) : DA X K (e :: es) (tCons t ta') (consM m ms) := by
  refine ⟨pa_cons h1.p h2.p hs, fun H0 env σ H G ds Q r e q => ?_⟩
  obtain ⟨d, ds', e1, e2, rfl⟩ := consM_some e
  refine h1.d H0 env σ H G d _ r e1 fun v G1 H1 g1 i1 => ?_
  exact h2.d H0 env σ H1 G1 ds' _ (r.go g1) e2 fun vs G2 H2 g2 i2 => q _ G2 H2 (g1.trans g2) (.cons (i1.mono g2.g) i2)
theorem dar_cons {m : En → Option D} {ms : En → Option (List D)} (h1 : DR X K e t m) (h2 : DAr X K es ta' ms) (hs : starEach (e :: es) X.env = (false, eval e X.env) :: starEach es X.env := by rfl) : DAr X K (e :: es) (tCons t ta') (consM m ms) := by
  refine ⟨pa_cons h1.p h2.p hs, fun H0 env σ H G ds Q r e q => ?_⟩
  obtain ⟨d, ds', e1, e2, rfl⟩ := consM_some e
  refine h1.d H0 env σ H G d _ r e1 fun v G1 H1 g1 i1 => ?_
  exact h2.d H0 env σ H1 G1 ds' _ (r.go g1) e2 fun vs G2 H2 g2 i2 => q _ G2 H2 (g1.trans g2) (.cons (i1.go g2) i2)
/-- displays -/
def tupM (ms : En → Option (List D)) (env : En) : Option D := (ms env).bind fun ds => if ds.length ≤ 100000 then some (.tup ds) else none
def lstM (ms : En → Option (List D)) (env : En) : Option D := (ms env).bind fun ds => if ds.length ≤ 100000 then some (.lst ds) else none
theorem de_tup {x1} {ms : En → Option (List D)} (h : DA X K es ta' ms) : DE X K (.Tuple es x1 pos) (tTup ta') (tupM ms) := by
  refine ⟨pe_tup h.p, fun H0 env σ H G d Q r e q => ?_⟩
  obtain ⟨ds, e1, e⟩ := bind_some_of e
  split at e
  · cases e
    rename_i hz
    refine h.d H0 env σ H G ds _ r e1 fun vs G1 H1 g1 i1 => ⟨?_, fun p hp => ?_⟩
    · rw [i1.len]; exact Nat.le_trans hz (by decide)
    · have g2 : Go G1 H1 (upd G1 p (.tup vs)) (upd H1 p (.tup vs)) := Go.new g1.gh hp
      exact q _ _ _ (g1.trans g2) (.tup (SqT.of upd_same) (i1.mono g2.g))
  · cases e
theorem de_lst {ms : En → Option (List D)} (h : DA X K es ta' ms) : DE X K (.List es pos) (tLst ta') (lstM ms) := by
  refine ⟨pe_lst h.p, fun H0 env σ H G d Q r e q => ?_⟩
  obtain ⟨ds, e1, e⟩ := bind_some_of e
  split at e
  · cases e
    rename_i hz
    refine h.d H0 env σ H G ds _ r e1 fun vs G1 H1 g1 i1 => ⟨?_, fun p hp => ?_⟩
    · rw [i1.len]; exact Nat.le_trans hz (by decide)
    · have g2 : Go G1 H1 (upd G1 p (.lst vs)) (upd H1 p (.lst vs)) := Go.new g1.gh hp
      exact q _ _ _ (g1.trans g2) (.lst upd_same (i1.mono g2.g))
  · cases e
/-! operators, by their rule on values -/
def RO (K : PySem.W.Frag) (r : R2) (f : D → D → Option D) : Prop := ∀ (G H : Hp) (x y : V) (d e z : D) (Q : VK), Same G H → IsR K G H x d → IsR K G H y e → f d e = some z → (∀ v G' H', Go G H G' H' → Is K G' v z → Q v H') → r x y H Q
def RU1 (K : PySem.W.Frag) (r : V → Hp → VK → Prop) (f : D → Option D) : Prop := ∀ (G H : Hp) (x : V) (d z : D) (Q : VK), Same G H → IsR K G H x d → f d = some z → (∀ v G' H', Go G H G' H' → Is K G' v z → Q v H') → r x H Q
def RCl (K : PySem.W.Frag) (r : List V → Hp → VK → Prop) (f : List D → Option D) : Prop := ∀ (G H : Hp) (vs : List V) (ds : List D) (z : D) (Q : VK), Same G H → IsRL K G H vs ds → f ds = some z → (∀ v G' H', Go G H G' H' → Is K G' v z → Q v H') → r vs H Q
def bind2 (ma mb : En → Option D) (f : D → D → Option D) (env : En) : Option D := (ma env).bind fun d => (mb env).bind fun e => f d e
theorem bind2_some {ma mb : En → Option D} {f : D → D → Option D} {env : En} {z : D} (h : bind2 ma mb f env = some z) : ∃ d e, ma env = some d ∧ mb env = some e ∧ f d e = some z := by
  obtain ⟨d, h1, h⟩ := bind_some_of h
  obtain ⟨r, h2, h⟩ := bind_some_of h
  exact ⟨d, r, h1, h2, h⟩
theorem td_op {r : R2} {f : D → D → Option D} {ma mb : En → Option D} (hr : RO K r f) (ha : TR K ta ma) (hb : TR K tb mb) : TD K (tOp r ta tb) (bind2 ma mb f) := fun H0 env σ H G z Q rp e q => by
  obtain ⟨d, e', e1, e2, e3⟩ := bind2_some e
  refine ha H0 env σ H G d _ rp e1 fun v G1 H1 g1 i1 => ?_
  refine hb H0 env σ H1 G1 e' _ (rp.go g1) e2 fun w G2 H2 g2 i2 => ?_
  exact hr G2 H2 v w d e' z Q g2.gh (i1.go g2) i2 e3 fun u G3 H3 g3 i3 => q u G3 H3 ((g1.trans g2).trans g3) i3
theorem td_un {r : V → Hp → VK → Prop} {f : D → Option D} {ma : En → Option D} (hr : RU1 K r f) (ha : TR K ta ma) : TD K (tUn r ta) (fun env => (ma env).bind f) := fun H0 env σ H G z Q rp e q => by
  obtain ⟨d, e1, e3⟩ := bind_some_of e
  refine ha H0 env σ H G d _ rp e1 fun v G1 H1 g1 i1 => ?_
  exact hr G1 H1 v d z Q g1.gh i1 e3 fun u G3 H3 g3 i3 => q u G3 H3 (g1.trans g3) i3
variable {a b : Expr}
theorem de_op {op : Operator} {r : R2} {f : D → D → Option D} {ma mb : En → Option D} (ho : OpR X (binaryOp op) r) (hr : RO K r f) (ha : DR X K a ta ma) (hb : DR X K b tb mb) : DE X K (.BinOp a op b pos) (tOp r ta tb) (bind2 ma mb f) := ⟨pe_op ho ha.p hb.p, td_op hr ha.d hb.d⟩
theorem de_un {op : UnaryOp} {r : V → Hp → VK → Prop} {f : D → Option D} {ma : En → Option D} (ho : UnR X (unaryOp op) r) (hr : RU1 K r f) (ha : DR X K a ta ma) : DE X K (.UnaryOp op a pos) (tUn r ta) (fun env => (ma env).bind f) := ⟨pe_un ho ha.p, td_un hr ha.d⟩
theorem de_cmp {op : CmpOp} {r : R2} {f : D → D → Option D} {ma mb : En → Option D} (ho : OpR X (compareOp op) r) (hr : RO K r f) (ha : DR X K a ta ma) (hb : DR X K b tb mb) (hm : behindInMarks op b = false) : DE X K (.Compare a [op] [b] pos) (tOp r ta tb) (bind2 ma mb f) := ⟨pe_cmpR ho ha.p hb.p hm, td_op hr ha.d hb.d⟩
def boolM (m : En → Option D) (env : En) : Option Bool := match m env with
  | some (.bl b) => some b
  | _ => none
theorem boolM_some {m : En → Option D} {env : En} {b : Bool} (h : boolM m env = some b) : m env = some (.bl b) := by
  unfold boolM at h
  split at h
  · cases h; assumption
  · cases h
theorem tb_test {m : En → Option D} (h : TD K t m) : TB K (tTest t) (boolM m) := fun H0 env σ H G b Q r e q =>
  h H0 env σ H G _ _ r (boolM_some e) fun v G1 H1 g1 i1 => by cases i1; exact ⟨b, rfl, q G1 H1 g1⟩
theorem tb_B {m : En → Option D} (h : TD K t m) : TB K (tB t) (boolM m) := fun H0 env σ H G b Q r e q =>
  h H0 env σ H G _ _ r (boolM_some e) fun v G1 H1 g1 i1 => by cases i1; exact ⟨b, rfl, q G1 H1 g1⟩
theorem dt_cmp {op : CmpOp} {r : R2} {f : D → D → Option D} {ma mb : En → Option D} (ho : OpR X (compareOp op) r) (hr : RO K r f) (ha : DR X K a ta ma) (hb : DR X K b tb mb) (hm : behindInMarks op b = false) : DT X K (.Compare a [op] [b] pos) (tTest (tOp r ta tb)) (boolM (bind2 ma mb f)) := ⟨pt_cmpR ho ha.p hb.p hm, tb_test (td_op hr ha.d hb.d)⟩
theorem dt_val {m : En → Option D} (h : DE X K e t m) (he : ∀ whole, isTrue e X.env whole = (do let v ← whole; standAt e.pos; holding [v] (truthy v)) := by intro _; rfl) : DT X K e (tB t) (boolM m) := ⟨pt_val h.p he, tb_B h.d⟩
/-- and, or, not -/
def andM (m n : En → Option Bool) (env : En) : Option Bool := (m env).bind fun b => if b = true then n env else some false
def orM (m n : En → Option Bool) (env : En) : Option Bool := (m env).bind fun b => if b = true then some true else n env
def notM (m : En → Option Bool) (env : En) : Option Bool := (m env).bind fun b => some (!b)
variable {rest : List Expr} {mt nt : En → Option Bool}
theorem dw_and1 (h : DT X K a tt mt) : DW X K (.BoolOp .And [a] pos) tt mt := ⟨pw_and1 h.p, h.d⟩
theorem dw_or1 (h : DT X K a tt mt) : DW X K (.BoolOp .Or [a] pos) tt mt := ⟨pw_or1 h.p, h.d⟩
theorem dw_and (h1 : DT X K a tt mt) (h2 : DW X K (.BoolOp .And (b :: rest) pos) tu nt) : DW X K (.BoolOp .And (a :: b :: rest) pos) (tAnd tt tu) (andM mt nt) := by
  refine ⟨pw_and h1.p h2.p, fun H0 env σ H G c Q r e q => ?_⟩
  obtain ⟨x, e1, e2⟩ := bind_some_of e
  refine h1.d H0 env σ H G x _ r e1 fun G1 H1 g1 => ?_
  cases x with
  | true => exact iteT (h2.d H0 env σ H1 G1 c Q (r.go g1) (by simpa using e2) fun G2 H2 g2 => q G2 H2 (g1.trans g2))
  | false => 
    have e3 : c = false := by simpa using e2.symm
    subst e3
    exact iteF (q G1 H1 g1)
theorem dw_or (h1 : DT X K a tt mt) (h2 : DW X K (.BoolOp .Or (b :: rest) pos) tu nt) : DW X K (.BoolOp .Or (a :: b :: rest) pos) (tOr tt tu) (orM mt nt) := by
  refine ⟨pw_or h1.p h2.p, fun H0 env σ H G c Q r e q => ?_⟩
  obtain ⟨x, e1, e2⟩ := bind_some_of e
  refine h1.d H0 env σ H G x _ r e1 fun G1 H1 g1 => ?_
  cases x with
  | false => exact iteF (h2.d H0 env σ H1 G1 c Q (r.go g1) (by simpa using e2) fun G2 H2 g2 => q G2 H2 (g1.trans g2))
  | true => 
    have e3 : c = true := by simpa using e2.symm
    subst e3
    exact iteT (q G1 H1 g1)
theorem dt_w (h : DW X K e tt mt) : DT X K e tt mt := ⟨h.p.pt, h.d⟩
theorem dt_not (h : DT X K a tt mt) : DT X K (.UnaryOp .Not a pos) (tNot tt) (notM mt) := by
  refine ⟨pt_not h.p, fun H0 env σ H G c Q r e q => ?_⟩
  obtain ⟨x, e1, e2⟩ := bind_some_of e
  cases e2
  exact h.d H0 env σ H G x _ r e1 fun G1 H1 g1 => q G1 H1 g1
/-- .. as values -/
def bl1 : D → Option Bool
  | .bl b => some b
  | _ => none
theorem bl1_some {d : D} {b : Bool} (h : bl1 d = some b) : d = .bl b := by cases d <;> simp [bl1] at h; rw [h]
def andV (ma mb : En → Option D) (env : En) : Option D := (ma env).bind fun d => (bl1 d).bind fun b => if b = true then mb env else some (.bl false)
def orV (ma mb : En → Option D) (env : En) : Option D := (ma env).bind fun d => (bl1 d).bind fun b => if b = true then some (.bl true) else mb env
variable {ma mb : En → Option D}
theorem de_one {op} (h : DE X K a ta ma) : DE X K (.BoolOp op [a] pos) ta ma := ⟨pe_one h.p, h.d⟩
theorem de_and (h1 : DE X K a ta ma) (h2 : DE X K (.BoolOp .And (b :: rest) pos) tb mb) : DE X K (.BoolOp .And (a :: b :: rest) pos) (tAndV ta tb) (andV ma mb) := by
  refine ⟨pe_and h1.p h2.p, fun H0 env σ H G c Q r e q => ?_⟩
  obtain ⟨x, e1, e2⟩ := bind_some_of e
  obtain ⟨y, e3, e4⟩ := bind_some_of e2
  cases bl1_some e3
  refine h1.d H0 env σ H G _ _ r e1 fun v G1 H1 g1 i1 => ?_
  cases i1
  refine ⟨y, rfl, ?_⟩
  cases y with
  | true => exact iteT (h2.d H0 env σ H1 G1 c Q (r.go g1) (by simpa using e4) fun w G2 H2 g2 => q w G2 H2 (g1.trans g2))
  | false => 
    have e5 : c = .bl false := by simpa using e4.symm
    subst e5
    exact iteF (q _ G1 H1 g1 (.bl false))
theorem de_or (h1 : DE X K a ta ma) (h2 : DE X K (.BoolOp .Or (b :: rest) pos) tb mb) : DE X K (.BoolOp .Or (a :: b :: rest) pos) (tOrV ta tb) (orV ma mb) := by
  refine ⟨pe_or h1.p h2.p, fun H0 env σ H G c Q r e q => ?_⟩
  obtain ⟨x, e1, e2⟩ := bind_some_of e
  obtain ⟨y, e3, e4⟩ := bind_some_of e2
  cases bl1_some e3
  refine h1.d H0 env σ H G _ _ r e1 fun v G1 H1 g1 i1 => ?_
  cases i1
  refine ⟨y, rfl, ?_⟩
  cases y with
  | false => exact iteF (h2.d H0 env σ H1 G1 c Q (r.go g1) (by simpa using e4) fun w G2 H2 g2 => q w G2 H2 (g1.trans g2))
  | true => 
    have e5 : c = .bl true := by simpa using e4.symm
    subst e5
    exact iteT (q _ G1 H1 g1 (.bl true))
def notV (ma : En → Option D) (env : En) : Option D := (ma env).bind fun d => (bl1 d).bind fun b => some (.bl (!b))
theorem de_not (h : DE X K a ta ma) : DE X K (.UnaryOp .Not a pos) (tNotV ta) (notV ma) := by
  refine ⟨pe_not h.p, fun H0 env σ H G c Q r e q => ?_⟩
  obtain ⟨x, e1, e2⟩ := bind_some_of e
  obtain ⟨y, e3, e4⟩ := bind_some_of e2
  cases e4
  cases bl1_some e3
  refine h.d H0 env σ H G _ _ r e1 fun v G1 H1 g1 i1 => ?_
  cases i1
  exact ⟨y, rfl, q _ G1 H1 g1 (.bl _)⟩
def ifV (mc : En → Option Bool) (ma mb : En → Option D) (env : En) : Option D := (mc env).bind fun b => if b = true then ma env else mb env
theorem de_if {c : Expr} (hc : DT X K c tt mt) (h1 : DE X K a ta ma) (h2 : DE X K b tb mb) : DE X K (.IfExp c a b pos) (tIf tt ta tb) (ifV mt ma mb) := by
  refine ⟨pe_ifExp hc.p h1.p h2.p, fun H0 env σ H G z Q r e q => ?_⟩
  obtain ⟨x, e1, e2⟩ := bind_some_of e
  refine hc.d H0 env σ H G x _ r e1 fun G1 H1 g1 => ?_
  cases x with
  | true => exact iteT (h1.d H0 env σ H1 G1 z Q (r.go g1) (by simpa using e2) fun w G2 H2 g2 => q w G2 H2 (g1.trans g2))
  | false => exact iteF (h2.d H0 env σ H1 G1 z Q (r.go g1) (by simpa using e2) fun w G2 H2 g2 => q w G2 H2 (g1.trans g2))
/-- built-ins called -/
def callM (f : List D → Option D) (ms : En → Option (List D)) (env : En) : Option D := (ms env).bind f
theorem td_cb {r : List V → Hp → VK → Prop} {f : List D → Option D} {ms : En → Option (List D)} (hr : RCl K r f) (h : TAr K ta' ms) : TD K (tCB r ta') (callM f ms) := fun H0 env σ H G z Q rp e q => by
  obtain ⟨ds, e1, e2⟩ := bind_some_of e
  exact h H0 env σ H G ds _ rp e1 fun vs G1 H1 g1 i1 => hr G1 H1 vs ds z Q g1.gh i1 e2 fun v G2 H2 g2 i2 => q v G2 H2 (g1.trans g2) i2
theorem de_callB {id : String} {x : Str} {p : Pos} {r : List V → Hp → VK → Prop} {f : List D → Option D} {ms : En → Option (List D)} (hc : CallR X (.builtin id) r) (hr : RCl K r f) (hg : Gl X x) (hm : X.mg x = none) (hv : bootBuiltins x = some (.builtin id)) (ha : DAr X K (e :: es) ta' ms)
    (hn : x ≠ "__name__" := by decide) (hdb : (x == ("__debug__" : Str)) = false := by decide)
    (he : starEach (e :: es) X.env = (false, eval e X.env) :: starEach es X.env := by rfl) (hpl : (backTo pos (starEach es X.env)).any (·.1) = false := by rfl) : DE X K (.Call (.Name x p) (e :: es) [] pos) (tCB r ta') (callM f ms) :=
  ⟨pe_callB hc hg hm hv ha.p hn hdb he hpl, td_cb hr ha.d⟩
theorem de_callTy {T : String} {x : Str} {p : Pos} {r : List V → Hp → VK → Prop} {f : List D → Option D} {ms : En → Option (List D)} (hc : CallR X (.type T) r) (hr : RCl K r f) (hg : Gl X x) (hm : X.mg x = none) (hv : bootBuiltins x = some (.type T)) (ha : DAr X K (e :: es) ta' ms)
    (hn : x ≠ "__name__" := by decide) (hdb : (x == ("__debug__" : Str)) = false := by decide)
    (he : starEach (e :: es) X.env = (false, eval e X.env) :: starEach es X.env := by rfl) (hpl : (backTo pos (starEach es X.env)).any (·.1) = false := by rfl) : DE X K (.Call (.Name x p) (e :: es) [] pos) (tCB r ta') (callM f ms) :=
  ⟨pe_callTy hc hg hm hv ha.p hn hdb he hpl, td_cb hr ha.d⟩

/-! ### defs -/
/-- the promise of a def of plain data -/
def spD (K : PySem.W.Frag) (f : List D → Option D) : Sp := fun vs H Q _ => ∃ (G : Hp) (ds : List D) (d : D), Same G H ∧ IsL K G vs ds ∧ f ds = some d ∧ ∀ v G' H', Go G H G' H' → Is K G' v d → Q v H'
/-- the def x stands in the module and keeps f's promise -/
structure DF (P : Program) (w : World) (K : PySem.W.Frag) (mg : Str → Option Value) (base : Heap) (x : Str) (k : Nat) (ps : List Str) (f : List D → Option D) : Prop where
  ex : ∃ (fa : Addr) (fd : FuncData), mg x = some (.ref fa) ∧ PySem.W.keepIn K (.ref fa) = true ∧ Binds K fd ps [] ∧ FnOk P w K mg base CX0 k fa fd ps (spD K f)
theorem td_call {f : List D → Option D} {ms : En → Option (List D)} {dvs : List V} (hd : dvs = []) (h : TAd K ta' ms) : TD K (tCall (spD K f) dvs E0 ta') (callM f ms) := fun H0 env σ H G z Q rp e q => by
  obtain ⟨ds, e1, e2⟩ := bind_some_of e
  subst hd
  refine h H0 env σ H G ds _ rp e1 fun vs G1 H1 g1 i1 => ⟨G1, ds, z, g1.gh, by rw [List.append_nil]; exact i1, e2, fun v G2 H2 g2 i2 => q v G2 H2 (g1.trans g2) i2⟩
theorem de_call {x : Str} {p : Pos} {k j : Nat} {ps : List Str} {f : List D → Option D} {ms : En → Option (List D)} (F : DF X.prog X.w K X.mg X.base x k ps f) (hr : Room j X.A) (hg : Gl X x) (ha : DA X K (e :: es) ta' ms) (hkj : k ≤ j) (hK : X.K = K := by rfl)
    (hdb : (x == ("__debug__" : Str)) = false := by decide) (he : starEach (e :: es) X.env = (false, eval e X.env) :: starEach es X.env := by rfl) (hpl : (backTo pos (starEach es X.env)).any (·.1) = false := by rfl) :
    DE X K (.Call (.Name x p) (e :: es) [] pos) (tCall (spD K f) [] E0 ta') (callM f ms) := by
  subst hK
  obtain ⟨fa, fd, hm, hk, hb, F⟩ := F.ex
  exact ⟨pe_call F (hr.mono hkj) hg hm hk hb .nil pass0 ha.p hdb he hpl, td_call rfl ha.d⟩
end

/-! ### statements -/
inductive Out where
  | nx (env : En) | rt (d : D) | bk (env : En) | ct (env : En)
def Fin (K : PySem.W.Frag) (G0 H0 G : Hp) (Dn : Ends) : Out → Prop
  | .nx env => ∀ σ' G' H', Rp K H0 G' env σ' H' → Go G0 H0 G' H' → Same G G' → Dn.nx σ' H'
  | .rt d => ∀ v G' H', Go G0 H0 G' H' → Same G G' → Is K G' v d → Dn.rt v H'
  | .bk env => ∀ σ' G' H', Rp K H0 G' env σ' H' → Go G0 H0 G' H' → Same G G' → Dn.bk σ' H'
  | .ct env => ∀ σ' G' H', Rp K H0 G' env σ' H' → Go G0 H0 G' H' → Same G G' → Dn.ct σ' H'
def TSm (K : PySem.W.Frag) (t : TS) (m : En → Option Out) : Prop := ∀ (G0 H0 : Hp) (env : En) (σ : L2.St) (H G : Hp) (o : Out) (Dn : Ends), Rp K H0 G env σ H → Go G0 H0 G H → m env = some o → Fin K G0 H0 G Dn o → t Dn σ H
structure DS (X : Cx) (K : PySem.W.Frag) (st : Stmt) (t : TS) (m : En → Option Out) : Prop where
  p : PS X st t
  d : TSm K t m
structure DSs (X : Cx) (K : PySem.W.Frag) (sts : List Stmt) (t : TS) (m : En → Option Out) : Prop where
  p : PSs X sts t
  d : TSm K t m
theorem Fin.mono {K : PySem.W.Frag} {G0 H0 G G1 : Hp} {Dn : Ends} {o : Out} (h : Fin K G0 H0 G Dn o) (e : Same G G1) : Fin K G0 H0 G1 Dn o := by
  cases o with
  | nx env => exact fun σ' G' H' r g s => h σ' G' H' r g (e.trans s)
  | rt d => exact fun v G' H' g s i => h v G' H' g (e.trans s) i
  | bk env => exact fun σ' G' H' r g s => h σ' G' H' r g (e.trans s)
  | ct env => exact fun σ' G' H' r g s => h σ' G' H' r g (e.trans s)
section
variable {X : Cx} {K : PySem.W.Frag} {st : Stmt} {rest : List Stmt} {t u : TS} {te : TE} {tt : TT} {e : Expr} {pos : Pos} {ms ns : En → Option Out} {m : En → Option D}
def seqM (m n : En → Option Out) (env : En) : Option Out := (m env).bind fun
  | .nx env' => n env'
  | o => some o
theorem tsm_next : TSm K tNext (fun env => some (.nx env)) := fun G0 H0 env σ H G o Dn r g e f => by
  cases e
  exact f σ G H r g (Same.refl G)
theorem tsm_seq (h1 : TSm K t ms) (h2 : TSm K u ns) : TSm K (tSeq t u) (seqM ms ns) := fun G0 H0 env σ H G o Dn r g e f => by
  obtain ⟨o1, e1, e2⟩ := bind_some_of e
  refine h1 G0 H0 env σ H G o1 { Dn with nx := u Dn } r g e1 ?_
  cases o1 with
  | nx env' => exact fun σ' G' H' r' g' s => h2 G0 H0 env' σ' H' G' o Dn r' g' e2 (f.mono s)
  | rt d => cases e2; exact f
  | bk env' => cases e2; exact f
  | ct env' => cases e2; exact f
theorem dss_nil : DSs X K [] tNext (fun env => some (.nx env)) := ⟨pss_nil, tsm_next⟩
theorem dss_cons (h1 : DS X K st t ms) (h2 : DSs X K rest u ns) : DSs X K (st :: rest) (tSeq t u) (seqM ms ns) := ⟨pss_cons h1.p h2.p, tsm_seq h1.d h2.d⟩
theorem dss_one (h1 : DS X K st t ms) : DSs X K [st] t ms := ⟨pss_one h1.p, h1.d⟩
theorem ds_pass : DS X K (.Pass pos) tNext (fun env => some (.nx env)) := ⟨ps_pass, tsm_next⟩
theorem ds_break : DS X K (.Break pos) tBreak (fun env => some (.bk env)) := ⟨ps_break, fun G0 H0 env σ H G o Dn r g e f => by cases e; exact f σ G H r g (Same.refl G)⟩
theorem ds_cont : DS X K (.Continue pos) tCont (fun env => some (.ct env)) := ⟨ps_continue, fun G0 H0 env σ H G o Dn r g e f => by cases e; exact f σ G H r g (Same.refl G)⟩
def ifM (mc : En → Option Bool) (m n : En → Option Out) (env : En) : Option Out := (mc env).bind fun b => if b = true then m env else n env
theorem ds_if {c : Expr} {a b : List Stmt} {mc : En → Option Bool} (hc : DT X K c tt mc) (ha : DSs X K a t ms) (hb : DSs X K b u ns) : DS X K (.If c a b pos) (tIfS tt t u) (ifM mc ms ns) := by
  refine ⟨ps_if hc.p ha.p hb.p, fun G0 H0 env σ H G o Dn r g e f => ?_⟩
  obtain ⟨x, e1, e2⟩ := bind_some_of e
  refine hc.d H0 env σ H G x _ r e1 fun G1 H1 g1 => ?_
  cases x with
  | true => exact iteT (ha.d G0 H0 env σ H1 G1 o Dn (r.go g1) (g.trans g1) (by simpa using e2) (f.mono g1.g))
  | false => exact iteF (hb.d G0 H0 env σ H1 G1 o Dn (r.go g1) (g.trans g1) (by simpa using e2) (f.mono g1.g))

/-! #### an own list becomes a thing that stands still: nothing happens in the heap -/
def frz : Option Sl → Option Sl
  | some (.own ds) => some (.val (.lst ds))
  | some (.ownd ks ds) => some (.val (.dic ks ds))
  | some (.owni _ c xs ds) => some (.val (.obj c xs ds))
  | s => s
def frzAt (i : Nat) (env : En) : En := env.set i (frz (env[i]?.getD none))
theorem Rp.fz {H0 G G0 H : Hp} {env : En} {σ : L2.St} (i : Nat) (r : Rp K H0 G env σ H) (g : Go G0 H0 G H) : ∃ G', Rp K H0 G' (frzAt i env) σ H ∧ Go G0 H0 G' H ∧ Same G G' := by
  have keep : frzAt i env = env → ∃ G', Rp K H0 G' (frzAt i env) σ H ∧ Go G0 H0 G' H ∧ Same G G' := fun h => ⟨G, by rw [h]; exact r, g, Same.refl G⟩
  have hset : ∀ s, env[i]? = some s → frz s = s → frzAt i env = env := fun s h1 h2 => by
    unfold frzAt
    rw [h1]
    show env.set i (frz s) = env
    rw [h2]
    obtain ⟨hi, he⟩ := List.getElem?_eq_some_iff.mp h1
    rw [← he]
    exact List.set_getElem_self hi
  cases h1 : env[i]? with
  | none =>
    refine keep ?_
    unfold frzAt
    exact List.set_eq_of_length_le (List.getElem?_eq_none_iff.mp h1)
  | some s =>
    cases s with
    | none => exact keep (hset _ h1 rfl)
    | some s =>
      -- the own object at p turns to what stands still
      have main : ∀ (p : Addr) (o : HO) (d : D), σ[i]? = some (some (.ref p)) → H0 p = none → G p = none → H p = some o → s.isOwn = true → frz (some s) = some (.val d) → (∀ G' : Hp, Same G G' → G' p = some o → Is K G' (.ref p) d) → ∃ G', Rp K H0 G' (frzAt i env) σ H ∧ Go G0 H0 G' H ∧ Same G G' := fun p o d hσ h0 hG hH hown hfr his => by
        have hs : Same G (upd G p o) := Dl.same_upd hG
        have hgh : Same (upd G p o) H := fun x u e => by
          by_cases hx : x = p
          · subst hx; rw [upd_same] at e; cases e; exact hH
          · rw [upd_ne hx] at e; exact r.gh x u e
        refine ⟨upd G p o, ⟨hgh, ?_, ?_, ?_⟩, ⟨g.s, g.g.trans hs, hgh, fun a u n e => ?_⟩, hs⟩
        · rw [r.len]; unfold frzAt; rw [List.length_set]
        · intro j s' hj
          unfold frzAt at hj
          rw [h1] at hj
          by_cases hji : j = i
          · subst hji
            obtain ⟨hlt, _⟩ := List.getElem?_eq_some_iff.mp h1
            rw [List.getElem?_set_self hlt] at hj
            have hj' : frz (some s) = some s' := Option.some.inj hj
            rw [hfr] at hj'
            cases hj'
            exact ⟨_, hσ, his _ hs upd_same⟩
          · rw [List.getElem?_set_ne (Ne.symm hji)] at hj
            obtain ⟨v, h2, h3⟩ := r.sl j s' hj
            refine ⟨v, h2, ?_⟩
            have hne : s'.isOwn = true → v ≠ .ref p := fun ho hv => by
              subst hv
              exact r.dis i j s s' (.ref p) (Ne.symm hji) h1 hj hown ho hσ h2
            cases s' with
            | val d' => exact Is.mono hs h3
            | own ds =>
              obtain ⟨q, vs, e2, e3, e4, e5, e6⟩ := h3
              have hq : q ≠ p := fun z => hne rfl (by rw [e2, z])
              exact ⟨q, vs, e2, e3, by rw [upd_ne hq]; exact e4, e5, e6.mono hs⟩
            | ownd ks ds =>
              obtain ⟨q, kvs, e2, e3, e4, e5, e6, e7⟩ := h3
              have hq : q ≠ p := fun z => hne rfl (by rw [e2, z])
              exact ⟨q, kvs, e2, e3, by rw [upd_ne hq]; exact e4, e5, e6, e7.mono hs⟩
            | owni q c xs ds =>
              obtain ⟨dx, fs, e2, e3, e4, e5, e6, e7⟩ := h3
              have hq : q ≠ p := fun z => hne rfl (by rw [e2, z])
              exact ⟨dx, fs, e2, e3, by rw [upd_ne hq]; exact e4, e5, e6, e7.mono hs⟩
        · have back : ∀ (k : Nat) (s1 : Sl), (frzAt i env)[k]? = some (some s1) → s1.isOwn = true → env[k]? = some (some s1) := fun k s1 e o1 => by
            unfold frzAt at e
            rw [h1] at e
            by_cases hk : k = i
            · subst hk
              obtain ⟨hlt, _⟩ := List.getElem?_eq_some_iff.mp h1
              rw [List.getElem?_set_self hlt] at e
              have e' : frz (some s) = some s1 := Option.some.inj e
              rw [hfr] at e'
              cases e'
              cases o1
            · rw [List.getElem?_set_ne (Ne.symm hk)] at e
              exact e
          exact fun a b s1 s2 v hab ha hb o1 o2 => r.dis a b s1 s2 v hab (back a s1 ha o1) (back b s2 hb o2) o1 o2
        · obtain ⟨n1, e1⟩ := g.out a u n e
          have hne : a ≠ p := fun z => by rw [z, h0] at e; cases e
          exact ⟨by rw [upd_ne hne]; exact n1, e1⟩
      cases s with
      | val d => exact keep (hset _ h1 rfl)
      | own ds =>
        obtain ⟨v, h2, p, vs, e2, e3, e4, e5, e6⟩ := r.sl i _ h1
        subst e2
        exact main p _ _ h2 e3 e4 e5 rfl rfl fun G' s q => .lst q (e6.mono s)
      | ownd ks ds =>
        obtain ⟨v, h2, p, kvs, e2, e3, e4, e5, e6, e7⟩ := r.sl i _ h1
        subst e2
        exact main p _ _ h2 e3 e4 e5 rfl rfl fun G' s q => .dic q e6 (e7.mono s)
      | owni p c xs ds =>
        obtain ⟨v, h2, dx, fs, e2, e3, e4, e5, e6, e7⟩ := r.sl i _ h1
        subst e2
        exact main p _ _ h2 e3 e4 e5 rfl rfl fun G' s q => .obj q e6 (e7.mono s)
def frzL (is : List Nat) (env : En) : En := is.foldl (fun env i => frzAt i env) env
theorem Rp.fzL {H0 G0 H : Hp} {σ : L2.St} : ∀ (is : List Nat) {G : Hp} {env : En}, Rp K H0 G env σ H → Go G0 H0 G H → ∃ G', Rp K H0 G' (frzL is env) σ H ∧ Go G0 H0 G' H ∧ Same G G'
  | [], G, env, r, g => ⟨G, r, g, Same.refl G⟩
  | i :: is, G, env, r, g => by
    obtain ⟨G1, r1, g1, s1⟩ := r.fz i g
    obtain ⟨G2, r2, g2, s2⟩ := Rp.fzL is r1 g1
    exact ⟨G2, r2, g2, s1.trans s2⟩
theorem tsm_frz (is : List Nat) (h : TSm K t ms) : TSm K t (fun env => ms (frzL is env)) := fun G0 H0 env σ H G o Dn r g e f => by
  obtain ⟨G1, r1, g1, s1⟩ := r.fzL is g
  exact h G0 H0 _ σ H G1 o Dn r1 g1 e (f.mono s1)
theorem ds_frz (is : List Nat) (h : DS X K st t ms) : DS X K st t (fun env => ms (frzL is env)) := ⟨h.p, tsm_frz is h.d⟩
/-- all own things -/
def frzAll (env : En) : En := frzL (List.range env.length) env
theorem tsm_frzAll (h : TSm K t ms) : TSm K t (fun env => ms (frzAll env)) := fun G0 H0 env σ H G o Dn r g e f => by
  obtain ⟨G1, r1, g1, s1⟩ := r.fzL (List.range env.length) g
  exact h G0 H0 _ σ H G1 o Dn r1 g1 e (f.mono s1)

/-! #### return, a name's value, an expression -/
def retM (m : En → Option D) (env : En) : Option Out := (m env).bind fun d => some (.rt d)
theorem tsm_ret (h : TD K te m) : TSm K (tRet te) (retM m) := fun G0 H0 env σ H G o Dn r g e f => by
  obtain ⟨d, e1, e2⟩ := bind_some_of e
  cases e2
  exact h H0 env σ H G d _ r e1 fun v G1 H1 g1 i1 => f v G1 H1 (g.trans g1) g1.g i1
theorem ds_ret (h : DE X K e te m) : DS X K (.Return (some e) pos) (tRet te) (fun env => retM m (frzAll env)) := ⟨ps_ret h.p, tsm_frzAll (tsm_ret h.d)⟩
theorem ds_retN : DS X K (.Return none pos) tRetN (fun _ => some (.rt .non)) := ⟨ps_retN, fun G0 H0 env σ H G o Dn r g e f => by cases e; exact f .non G H g (Same.refl G) .non⟩
def setM (i : Nat) (m : En → Option D) (env : En) : Option Out := (m env).bind fun d => some (.nx (env.set i (some (.val d))))
theorem Rp.set {H0 G H : Hp} {env : En} {σ : L2.St} {v : V} {d : D} (r : Rp K H0 G env σ H) (i : Nat) (h : Is K G v d) : Rp K H0 G (env.set i (some (.val d))) (σ.set i (some v)) H := by
  have back : ∀ (k : Nat) (s1 : Sl), k ≠ i → (env.set i (some (Sl.val d)))[k]? = some (some s1) → env[k]? = some (some s1) := fun k s1 hk e => by
    rw [List.getElem?_set_ne (Ne.symm hk)] at e
    exact e
  have own : ∀ (k : Nat) (s1 : Sl), (env.set i (some (Sl.val d)))[k]? = some (some s1) → s1.isOwn = true → k ≠ i := fun k s1 e o z => by
    subst z
    have hlt : k < env.length := by
      have := (List.getElem?_eq_some_iff.mp e).1
      rwa [List.length_set] at this
    rw [List.getElem?_set_self hlt] at e
    cases e
    cases o
  refine ⟨r.gh, by rw [List.length_set, List.length_set]; exact r.len, fun k s1 e => ?_, fun a b s1 s2 w hab ha hb o1 o2 => ?_⟩
  · by_cases hk : k = i
    · subst hk
      have hlt : k < env.length := by
        have := (List.getElem?_eq_some_iff.mp e).1
        rwa [List.length_set] at this
      rw [List.getElem?_set_self hlt] at e
      cases e
      exact ⟨v, by rw [List.getElem?_set_self (by rw [r.len]; exact hlt)], h⟩
    · obtain ⟨w, h1, h2⟩ := r.sl k s1 (back k s1 hk e)
      exact ⟨w, by rw [List.getElem?_set_ne (Ne.symm hk)]; exact h1, h2⟩
  · have na := own a s1 ha o1
    have nb := own b s2 hb o2
    rw [List.getElem?_set_ne (Ne.symm na), List.getElem?_set_ne (Ne.symm nb)]
    exact r.dis a b s1 s2 w hab (back a s1 na ha) (back b s2 nb hb) o1 o2
theorem tsm_set (i : Nat) (h : TD K te m) : TSm K (tAsg te (gName i)) (setM i m) := fun G0 H0 env σ H G o Dn r g e f => by
  obtain ⟨d, e1, e2⟩ := bind_some_of e
  cases e2
  exact h H0 env σ H G d _ r e1 fun v G1 H1 g1 i1 => f (σ.set i (some v)) G1 H1 ((r.go g1).set i i1) (g.trans g1) g1.g
theorem ds_set (i : Nat) {x : Str} {pos' : Pos} (h : DE X K e te m) (hN : X.N.Nodup) (hi : X.N[i]? = some x := by rfl) (hx : Loc X.env.scope x := by first | exact Or.inl rfl | exact Or.inr rfl) (hs : swapsWith e (some (.Name x pos')) pos.line X.env = pure false := by rfl)
    (hf : X.fn x = true ∨ X.env.scope.names.lookup x = some .local := by first | exact .inl rfl | exact .inr rfl) : DS X K (.Assign [.Name x pos'] e pos) (tAsg te (gName i)) (setM i m) := ⟨ps_set hN hi hx h.p hs hf, tsm_set i h.d⟩
def exprM (m : En → Option D) (env : En) : Option Out := (m env).bind fun _ => some (.nx env)
theorem ds_expr (h : DE X K e te m) (hs : swapsWith e none pos.line X.env = pure false := by rfl) : DS X K (.Expr e pos) (tDrop te) (exprM m) := by
  refine ⟨ps_expr h.p hs, fun G0 H0 env σ H G o Dn r g e f => ?_⟩
  obtain ⟨d, e1, e2⟩ := bind_some_of e
  cases e2
  exact h.d H0 env σ H G d _ r e1 fun v G1 H1 g1 i1 => f σ G1 H1 (r.go g1) (g.trans g1) g1.g
end

/-! ### a def's rule -/
def runM (n : Nat) (m : En → Option Out) (ds : List D) : Option D := (m (ds.map (fun d => some (Sl.val d)) ++ List.replicate (n - ds.length) none)).bind fun
  | .rt d => some d
  | .nx _ => some .non
  | _ => none
def bodyM (np n : Nat) (m : En → Option Out) (ds : List D) : Option D := if ds.length = np then runM n m ds else none
theorem start_rp {K : PySem.W.Frag} {H0 G H : Hp} {N : List Str} {vs : List V} {ds : List D} (gh : Same G H) (h : IsL K G vs ds) : Rp K H0 G (ds.map (fun d => some (Sl.val d)) ++ List.replicate (N.length - ds.length) none) (L2.start N vs) H := by
  have hl := h.len
  have at_ : ∀ (i : Nat) (s : Sl), (ds.map (fun d => some (Sl.val d)) ++ List.replicate (N.length - ds.length) none)[i]? = some (some s) → ∃ d, ds[i]? = some d ∧ s = .val d := fun i s e => by
    by_cases hi : i < ds.length
    · rw [List.getElem?_append_left (by rw [List.length_map]; exact hi), List.getElem?_map, List.getElem?_eq_getElem hi] at e
      cases e
      exact ⟨_, List.getElem?_eq_getElem hi, rfl⟩
    · rw [List.getElem?_append_right (by rw [List.length_map]; omega)] at e
      have := List.getElem?_replicate (n := N.length - ds.length) (a := (none : Option Sl)) (i := i - (ds.map (fun d => some (Sl.val d))).length)
      rw [this] at e
      split at e <;> cases e
  refine ⟨gh, ?_, fun i s e => ?_, fun i j s t v _ hi _ o => ?_⟩
  · unfold L2.start
    simp only [List.length_append, List.length_map, List.length_replicate, hl]
  · obtain ⟨d, e1, rfl⟩ := at_ i s e
    obtain ⟨v, e2, e3⟩ := h.get e1
    refine ⟨v, ?_, e3⟩
    unfold L2.start
    have hlt : i < vs.length := (List.getElem?_eq_some_iff.mp e2).1
    rw [List.getElem?_append_left (by rw [List.length_map]; exact hlt), List.getElem?_map, e2]
    rfl
  · obtain ⟨d, _, rfl⟩ := at_ i s hi
    cases o
section
variable {P : Program} {w : World} {K : PySem.W.Frag} {mg : Str → Option Value} {base : Heap}
theorem fn_ok {x qual : Str} {st : Stmt} {f : Addr} {fd : FuncData} {N ps : List Str} {k : Nat} {t : TS} {m : En → Option Out} (F : Fun K x qual st f fd) (S : FnScope N ps (defScope st))
    (h : ∀ (cdv : Value) (A : Around) (outer : List Env) (s : Shared) (H : Hp) (E : XK), Room k (A.deeper (envOfC qual (defScope st) s.heap.objs.size f cdv)) → DSs (cxOf CX0 P w K mg base N qual (defScope st) f cdv A outer s H E).nox K (defBody st) t m) :
    FnOk P w K mg base CX0 (k + 1) f fd ps (spD K (bodyM ps.length N.length m)) := by
  refine F.ok S (fun vs H Q E hs => ?_) (fun cdv A outer s H vs Q E hr hs => ?_)
  · obtain ⟨G, ds, d, _, i, e, _⟩ := hs
    rw [i.len]
    unfold bodyM at e
    split at e
    · assumption
    · cases e
  · obtain ⟨G, ds, d, gh, i, e, q⟩ := hs
    have D := h cdv A outer s H E hr
    refine ⟨_, D.p, ?_⟩
    unfold bodyM at e
    split at e
    · unfold runM at e
      obtain ⟨o, e1, e2⟩ := bind_some_of e
      refine D.d G H _ _ H G o _ (start_rp gh i) (Go.refl gh) e1 ?_
      cases o with
      | rt d' => cases e2; exact fun v G' H' g _ iv => q v G' H' g iv
      | nx env => cases e2; exact fun σ' G' H' _ g _ => q .non G' H' g .non
      | bk env => cases e2
      | ct env => cases e2
    · cases e
theorem df_of {x : Str} {fa : Addr} {fd : FuncData} {ps : List Str} {k : Nat} {f g : List D → Option D} (hm : mg x = some (.ref fa)) (hk : PySem.W.keepIn K (.ref fa) = true) (hb : Binds K fd ps []) (F : FnOk P w K mg base CX0 k fa fd ps (spD K f)) (hfg : ∀ ds d, g ds = some d → f ds = some d) :
    DF P w K mg base x k ps g := ⟨fa, fd, hm, hk, hb, F.imp fun vs H Q E ⟨G, ds, d, gh, i, e, q⟩ => ⟨G, ds, d, gh, i, hfg ds d e, q⟩⟩
end
end Dl

set_option Elab.async false
set_option linter.all false
set_option maxRecDepth 100000
set_option maxHeartbeats 2000000
/-! Values as data: what is walked, loops, comprehensions, own lists and dicts. -/
namespace Dl
open PySem PySem.Spec PyProof.Rows L2

/-! ### what is walked: the data, as long as the base B is there -/
structure Src (K : PySem.W.Frag) (J : It) (ds : List D) (B G : Hp) : Prop where
  ex : ∃ Y : Nat → Hp → V → Hp → Prop, Walk J ds.length (fun H => Same B H) Y ∧ ∀ i H x H' d G', ds[i]? = some d → Same G G' → Same G' H → Y i H x H' → ∃ G'', Go G' H G'' H' ∧ Is K G'' x d
/-- .. a walk that leans on what stands still alone -/
def TI0 (K : PySem.W.Frag) (wi : TI) (m : En → Option (List D)) : Prop := ∀ (H0 : Hp) (env : En) (σ : L2.St) (H G : Hp) (ds : List D) (R : It → Hp → Prop), Rp K H0 G env σ H → m env = some ds → (∀ J G' H', Go G H G' H' → Src K J ds G' G' → R J H') → wi σ H R
/-- .. on all that is tracked -/
def TI1 (K : PySem.W.Frag) (wi : TI) (m : En → Option (List D)) : Prop := ∀ (H0 : Hp) (env : En) (σ : L2.St) (H G : Hp) (ds : List D) (R : It → Hp → Prop), Rp K H0 G env σ H → m env = some ds → (∀ J G' H', Go G H G' H' → Src K J ds H' G' → R J H') → wi σ H R
structure DI0 (X : Cx) (K : PySem.W.Frag) (tg e : Expr) (wi : TI) (m : En → Option (List D)) : Prop where
  p : PI X tg e wi
  d : TI0 K wi m
structure DI1 (X : Cx) (K : PySem.W.Frag) (tg e : Expr) (wi : TI) (m : En → Option (List D)) : Prop where
  p : PI X tg e wi
  d : TI1 K wi m
theorem Src.base {K : PySem.W.Frag} {J : It} {ds : List D} {B B' G : Hp} (h : Src K J ds B G) (s : Same B B') : Src K J ds B' G := by
  obtain ⟨Y, w, y⟩ := h.ex
  exact ⟨Y, w.mono (fun H q => s.trans q) (fun _ _ _ _ _ _ z => z), y⟩
theorem DI0.to1 {X : Cx} {K : PySem.W.Frag} {tg e : Expr} {wi : TI} {m : En → Option (List D)} (h : DI0 X K tg e wi m) : DI1 X K tg e wi m :=
  ⟨h.p, fun H0 env σ H G ds R r e q => h.d H0 env σ H G ds R r e fun J G' H' g s => q J G' H' g (s.base g.gh)⟩
section
variable {K : PySem.W.Frag} {G H : Hp} {a b : Addr} {xs ys : List V} {ds es : List D}
theorem src_list {B : Hp} (h : SqL K B a xs) (i : IsL K G xs ds) : Src K (Itl K a) ds B G := by
  refine ⟨YAt xs, ?_, fun j H x H' d G' e s1 s2 y => ?_⟩
  · rw [← i.len]
    exact walk_list.mono (fun H q => same_l q h) (fun _ _ _ _ _ _ z => z)
  · obtain ⟨e1, e2⟩ := y
    subst e1
    obtain ⟨v, h1, h2⟩ := i.get e
    rw [e2] at h1
    cases h1
    exact ⟨G', Go.refl s2, h2.mono s1⟩
theorem src_tup {B : Hp} (h : SqT K B a xs) (i : IsL K G xs ds) : Src K (Itt K a) ds B G := by
  refine ⟨YAt xs, ?_, fun j H x H' d G' e s1 s2 y => ?_⟩
  · rw [← i.len]
    exact walk_tup.mono (fun H q => same_t q h) (fun _ _ _ _ _ _ z => z)
  · obtain ⟨e1, e2⟩ := y
    subst e1
    obtain ⟨v, h1, h2⟩ := i.get e
    rw [e2] at h1
    cases h1
    exact ⟨G', Go.refl s2, h2.mono s1⟩
def rngD (lo : Int) (n : Nat) : List D := (List.range n).map fun (i : Nat) => D.int (lo + (i : Int))
theorem src_range {B : Hp} {lo : Int} {n : Nat} : Src K (Itr lo n) (rngD lo n) B G := by
  refine ⟨YFn fun (i : Nat) => .int (lo + (i : Int)), ?_, fun j H x H' d G' e s1 s2 y => ?_⟩
  · have e : (rngD lo n).length = n := by unfold rngD; rw [List.length_map, List.length_range]
    rw [e]
    exact walk_range.mono (fun _ _ => trivial) (fun _ _ _ _ _ _ z => z)
  · obtain ⟨e1, e2⟩ := y
    subst e1 e2
    have ej : d = .int (lo + (j : Int)) := by
      unfold rngD at e
      rw [List.getElem?_map] at e
      cases q : (List.range n)[j]? with
      | none => rw [q] at e; cases e
      | some z =>
        rw [q] at e
        obtain ⟨hj, hz⟩ := List.getElem?_eq_some_iff.mp q
        rw [List.getElem_range] at hz
        subst hz
        cases e
        rfl
    subst ej
    exact ⟨G', Go.refl s2, .int _⟩
def strD (s : Str) : List D := s.cps.toList.map fun c => D.str ⟨#[c]⟩
theorem src_str {B : Hp} {z : Str} : Src K (Its z) (strD z) B G := by
  refine ⟨fun i H v H' => H' = H ∧ ∃ c, z.cps[i]? = some c ∧ v = .str ⟨#[c]⟩, ?_, fun j H x H' d G' e s1 s2 y => ?_⟩
  · have e : (strD z).length = z.cps.size := by unfold strD; rw [List.length_map, Array.length_toList]
    rw [e]
    exact walk_str.mono (fun _ _ => trivial) (fun _ _ _ _ _ _ z => z)
  · obtain ⟨e1, c, e2, e3⟩ := y
    subst e1 e3
    have ej : d = .str ⟨#[c]⟩ := by
      unfold strD at e
      rw [List.getElem?_map, Array.getElem?_toList, e2] at e
      cases e
      rfl
    subst ej
    exact ⟨G', Go.refl s2, .str _⟩
theorem go_pair {G' : Hp} {H H' : Hp} {x y : V} {d e : D} {T : Addr} (s : Same G' H) (n : H T = none) (q : H' = upd H T (.tup [x, y])) (h1 : Is K G' x d) (h2 : Is K G' y e) : ∃ G'', Go G' H G'' H' ∧ Is K G'' (.ref T) (.tup [d, e]) := by
  subst q
  have g := Go.new (o := .tup [x, y]) s n
  exact ⟨_, g, .tup (SqT.of upd_same) (.cons (h1.mono g.g) (.cons (h2.mono g.g) .nil))⟩
def enumD (ds : List D) : List D := (List.range ds.length).zipWith (fun (i : Nat) d => D.tup [.int (i : Int), d]) ds
theorem enumD_get {i : Nat} {d : D} (h : (enumD ds)[i]? = some d) : ∃ x, ds[i]? = some x ∧ d = .tup [.int (i : Int), x] := by
  unfold enumD at h
  rw [List.getElem?_zipWith] at h
  cases h1 : (List.range ds.length)[i]? with
  | none => rw [h1] at h; simp at h
  | some k =>
    cases h2 : ds[i]? with
    | none => rw [h1, h2] at h; simp at h
    | some x =>
      rw [h1, h2] at h
      obtain ⟨hj, hz⟩ := List.getElem?_eq_some_iff.mp h1
      rw [List.getElem_range] at hz
      subst hz
      cases h
      exact ⟨x, rfl, rfl⟩
theorem src_enum {B : Hp} (h : SqL K B a xs) (i : IsL K G xs ds) : Src K (Ite K a) (enumD ds) B G := by
  refine ⟨YPair (fun (i : Nat) => some (.int (i : Int))) (fun i => xs[i]?), ?_, fun j H x H' d G' e s1 s2 y => ?_⟩
  · have e : (enumD ds).length = xs.length := by unfold enumD; rw [List.length_zipWith, List.length_range, Nat.min_self, i.len]
    rw [e]
    exact walk_enum.mono (fun H q => same_l q h) (fun _ _ _ _ _ _ z => z)
  · obtain ⟨T, u, v, rfl, n, q, e1, e2⟩ := y
    obtain ⟨d1, h1, rfl⟩ := enumD_get e
    cases e1
    obtain ⟨w, h2, h3⟩ := i.get h1
    have e2' : xs[j]? = some v := e2
    rw [e2'] at h2
    cases h2
    exact go_pair s2 n q (.int _) (h3.mono s1)
def zipD (ds es : List D) : List D := ds.zipWith (fun d e => D.tup [d, e]) es
theorem src_zip {B : Hp} (h : SqL K B a xs) (h' : SqL K B b ys) (i : IsL K G xs ds) (i' : IsL K G ys es) : Src K (Itz K a b) (zipD ds es) B G := by
  refine ⟨YPair (fun (i : Nat) => xs[i]?) (fun i => ys[i]?), ?_, fun j H x H' d G' e s1 s2 y => ?_⟩
  · have e : (zipD ds es).length = min xs.length ys.length := by unfold zipD; rw [List.length_zipWith, i.len, i'.len]
    rw [e]
    exact (walk_zip rfl).mono (fun H q => ⟨same_l q h, same_l q h'⟩) (fun _ _ _ _ _ _ z => z)
  · obtain ⟨T, u, v, rfl, n, q, e1, e2⟩ := y
    unfold zipD at e
    rw [List.getElem?_zipWith] at e
    obtain ⟨d1, h1, h1'⟩ := i.getv e1
    obtain ⟨d2, h2, h2'⟩ := i'.getv e2
    rw [h1, h2] at e
    cases e
    exact go_pair s2 n q (h1'.mono s1) (h2'.mono s1)
end
section
variable {X : Cx} {K : PySem.W.Frag} {tg e e2 : Expr} {te : TE} {ta : TA} {p pos tpos : Pos} {elts : List Expr} {kk : Nat}
/-- the items of a list, of a tuple -/
def itemsL (m : En → Option D) (env : En) : Option (List D) := match m env with
  | some (.lst ds) => some ds
  | _ => none
def itemsT (m : En → Option D) (env : En) : Option (List D) := match m env with
  | some (.tup ds) => some ds
  | _ => none
/-- .. or the signs of a text -/
def itemsA (m : En → Option D) (env : En) : Option (List D) := match m env with
  | some (.lst ds) => some ds
  | some (.scr ds) => some ds
  | some (.tup ds) => some ds
  | some (.str s) => some (strD s)
  | _ => none
theorem PI.or {wi wi' : TI} (h : PI X tg e wi) (h' : PI X tg e wi') : PI X tg e (fun σ H R => wi σ H R ∨ wi' σ H R) :=
  ⟨fun pins s σ H R I q => q.elim (h.run pins s σ H R I) (h'.run pins s σ H R I)⟩
theorem di0_seq {m : En → Option D} (h : DE X K e te m) (hK : X.K = K := by rfl) : DI0 X K tg e (fun σ H R => iList K te σ H R ∨ iTup K te σ H R ∨ iStr te σ H R) (itemsA m) := by
  subst hK
  refine ⟨PI.or (pi_list h.p) (PI.or (pi_tup h.p) (pi_str h.p)), fun H0 env σ H G ds R r e q => ?_⟩
  unfold itemsA at e
  split at e
  · cases e
    rename_i e1
    refine .inl (h.d H0 env σ H G _ _ r e1 fun v G1 H1 g1 i1 => ?_)
    cases i1 with
    | lst s1 i1 => exact ⟨_, rfl, ⟨_, SqL.of (g1.gh _ _ s1)⟩, q _ G1 H1 g1 (src_list (SqL.of s1) i1)⟩
  · cases e
    rename_i e1
    refine .inl (h.d H0 env σ H G _ _ r e1 fun v G1 H1 g1 i1 => ?_)
    cases i1 with
    | scr s1 i1 => exact ⟨_, rfl, ⟨_, same_l g1.gh s1⟩, q _ G1 H1 g1 (src_list s1 i1)⟩
  · cases e
    rename_i e1
    refine .inr (.inl (h.d H0 env σ H G _ _ r e1 fun v G1 H1 g1 i1 => ?_))
    cases i1 with
    | tup s1 i1 => exact ⟨_, rfl, ⟨_, same_t g1.gh s1⟩, q _ G1 H1 g1 (src_tup s1 i1)⟩
  · cases e
    rename_i e1
    refine .inr (.inr (h.d H0 env σ H G _ _ r e1 fun v G1 H1 g1 i1 => ?_))
    cases i1
    exact ⟨_, rfl, q _ G1 H1 g1 src_str⟩
  · cases e
theorem di1_seq {m : En → Option D} (h : DR X K e te m) (hK : X.K = K := by rfl) : DI1 X K tg e (fun σ H R => iList K te σ H R ∨ iTup K te σ H R ∨ iStr te σ H R) (itemsA m) := by
  subst hK
  refine ⟨PI.or (pi_list h.p) (PI.or (pi_tup h.p) (pi_str h.p)), fun H0 env σ H G ds R r e q => ?_⟩
  unfold itemsA at e
  split at e
  · cases e
    rename_i e1
    refine .inl (h.d H0 env σ H G _ _ r e1 fun v G1 H1 g1 i1 => ?_)
    obtain ⟨p, vs, rfl, s1, i1⟩ := i1.lst g1.gh
    exact ⟨_, rfl, ⟨_, SqL.of s1⟩, q _ G1 H1 g1 (src_list (SqL.of s1) i1)⟩
  · cases e
    rename_i e1
    refine .inl (h.d H0 env σ H G _ _ r e1 fun v G1 H1 g1 i1 => ?_)
    obtain ⟨p, vs, rfl, s1, i1⟩ := i1.scr g1.gh
    exact ⟨_, rfl, ⟨_, s1⟩, q _ G1 H1 g1 (src_list s1 i1)⟩
  · cases e
    rename_i e1
    refine .inr (.inl (h.d H0 env σ H G _ _ r e1 fun v G1 H1 g1 i1 => ?_))
    obtain ⟨p, vs, rfl, _, s1, i1⟩ := i1.tup g1.gh
    exact ⟨_, rfl, ⟨_, s1⟩, q _ G1 H1 g1 (src_tup s1 i1)⟩
  · cases e
    rename_i e1
    refine .inr (.inr (h.d H0 env σ H G _ _ r e1 fun v G1 H1 g1 i1 => ?_))
    cases i1.str
    exact ⟨_, rfl, q _ G1 H1 g1 src_str⟩
  · cases e
def rngM1 (ms : En → Option (List D)) (env : En) : Option (List D) := match ms env with
  | some [.int j] => if j ≤ 1000000 ∧ -1000000 ≤ j then some (rngD 0 j.toNat) else none
  | _ => none
def rngM2 (ms : En → Option (List D)) (env : En) : Option (List D) := match ms env with
  | some [.int i, .int j] => if (i ≤ 1000000 ∧ -1000000 ≤ i) ∧ j ≤ 1000000 ∧ -1000000 ≤ j then some (rngD i (j - i).toNat) else none
  | _ => none
theorem p62 : (1000000 : Int) < 2 ^ 62 := by decide
theorem di0_range1 {a : Expr} {ms : En → Option (List D)} (hg : Gl X "range") (hm : X.mg "range" = none) (ha : DAr X K [a] ta ms) (hs : starEach [a] X.env = [(false, eval a X.env)] := by rfl) : DI0 X K tg (.Call (.Name "range" p) [a] [] pos) (iRng1 ta) (rngM1 ms) := by
  refine ⟨pi_range1 hg hm ha.p hs, fun H0 env σ H G ds R r e q => ?_⟩
  unfold rngM1 at e
  split at e
  · rename_i j e1
    split at e
    · rename_i hj
      cases e
      refine ha.d H0 env σ H G _ _ r e1 fun vs G1 H1 g1 i1 => ?_
      obtain ⟨v, rfl, i2⟩ := i1.one
      cases i2.int
      exact ⟨j, rfl, by have := p62; omega, by have := p62; omega, q _ G1 H1 g1 src_range⟩
    · cases e
  · cases e
theorem di0_range2 {a b : Expr} {ms : En → Option (List D)} (hg : Gl X "range") (hm : X.mg "range" = none) (ha : DAr X K [a, b] ta ms) (hs : starEach [a, b] X.env = [(false, eval a X.env), (false, eval b X.env)] := by rfl) (hs2 : starEach [b] X.env = [(false, eval b X.env)] := by rfl) : DI0 X K tg (.Call (.Name "range" p) [a, b] [] pos) (iRng2 ta) (rngM2 ms) := by
  refine ⟨pi_range2 hg hm ha.p hs hs2, fun H0 env σ H G ds R r e q => ?_⟩
  unfold rngM2 at e
  split at e
  · rename_i i j e1
    split at e
    · rename_i hj
      cases e
      refine ha.d H0 env σ H G _ _ r e1 fun vs G1 H1 g1 i1 => ?_
      obtain ⟨v, w, rfl, i2, i3⟩ := i1.two
      cases i2.int
      cases i3.int
      exact ⟨i, j, rfl, ⟨by have := p62; omega, by have := p62; omega, by have := p62; omega, by have := p62; omega⟩, q _ G1 H1 g1 src_range⟩
    · cases e
  · cases e
end

/-! ### targets -/
def TGd (K : PySem.W.Frag) (g : TG) (js : List Nat) (f : D → En → Option En) : Prop := ∀ (H0 : Hp) (env : En) (σ : L2.St) (H G : Hp) (v : V) (d : D) (env' : En) (Q : L2.St → Hp → Prop), Rp K H0 G env σ H → Is K G v d → f d env = some env' →
  (∀ σ', Rp K H0 G env' σ' H → σ'.length = σ.length → (∀ k, k ∉ js → σ'[k]? = σ[k]?) → Q σ' H) → g v σ H Q
def TGsd (K : PySem.W.Frag) (g : TGs) (n : Nat) (js : List Nat) (f : List D → En → Option En) : Prop := ∀ (H0 : Hp) (env : En) (σ : L2.St) (H G : Hp) (vs : List V) (ds : List D) (env' : En) (Q : L2.St → Hp → Prop), Rp K H0 G env σ H → IsL K G vs ds → ds.length = n → f ds env = some env' →
  (∀ σ', Rp K H0 G env' σ' H → σ'.length = σ.length → (∀ k, k ∉ js → σ'[k]? = σ[k]?) → Q σ' H) → g vs σ H Q
structure DG (X : Cx) (K : PySem.W.Frag) (tg : Expr) (g : TG) (js : List Nat) (f : D → En → Option En) : Prop where
  p : PG X tg g
  d : TGd K g js f
structure DGs (X : Cx) (K : PySem.W.Frag) (tgs : List Expr) (g : TGs) (n : Nat) (js : List Nat) (f : List D → En → Option En) : Prop where
  p : PGs X tgs g
  d : TGsd K g n js f
section
variable {X : Cx} {K : PySem.W.Frag} {e : Expr} {es : List Expr} {pos : Pos}
def bndN (i : Nat) (d : D) (env : En) : Option En := some (env.set i (some (.val d)))
theorem dg_name (i : Nat) {x : Str} (hN : X.N.Nodup) (hi : X.N[i]? = some x := by rfl) (hx : Loc X.env.scope x := by first | exact Or.inl rfl | exact Or.inr rfl) (hf : X.fn x = true ∨ X.env.scope.names.lookup x = some .local := by first | exact .inl rfl | exact .inr rfl) : DG X K (.Name x pos) (gName i) [i] (bndN i) :=
  ⟨pg_name hN hi hx hf, fun H0 env σ H G v d env' Q r i1 e q => by
    cases e
    exact q _ (r.set i i1) (List.length_set) (fun k hk => List.getElem?_set_ne (fun z => hk (by simp [z])))⟩
def bndNil (_ : List D) (env : En) : Option En := some env
def bndC (f : D → En → Option En) (fs : List D → En → Option En) : List D → En → Option En
  | d :: ds, env => (f d env).bind fun env' => fs ds env'
  | [], _ => none
def bndT (n : Nat) (fs : List D → En → Option En) (d : D) (env : En) : Option En := match d with
  | .tup ds => if ds.length = n then fs ds env else none
  | _ => none
theorem dgs_nil : DGs X K [] gNil 0 [] bndNil := ⟨pgs_nil, fun H0 env σ H G vs ds env' Q r i1 hl e q => by
  cases e
  cases ds with
  | nil => cases i1; exact ⟨rfl, q σ r rfl fun _ _ => rfl⟩
  | cons d ds => cases hl⟩
theorem dgs_cons {g : TG} {gs : TGs} {n : Nat} {js ks : List Nat} {f : D → En → Option En} {fs : List D → En → Option En} (h1 : DG X K e g js f) (h2 : DGs X K es gs n ks fs) (hs : (assignEach (e :: es) X.env).map (·.2) = assign e X.env :: (assignEach es X.env).map (·.2) := by rfl) : DGs X K (e :: es) (gCons g gs) (n + 1) (js ++ ks) (bndC f fs) :=
  ⟨pgs_cons h1.p h2.p hs, fun H0 env σ H G vs ds env' Q r i1 hl e q => by
    cases i1 with
    | nil => cases hl
    | cons a b =>
      obtain ⟨env1, e1, e2⟩ := bind_some_of e
      refine ⟨_, _, rfl, h1.d H0 env σ H G _ _ env1 _ r a e1 fun σ1 r1 l1 k1 => ?_⟩
      exact h2.d H0 env1 σ1 H G _ _ env' Q r1 b (by simpa using hl) e2 fun σ2 r2 l2 k2 => q σ2 r2 (l2.trans l1) fun k hk => by
        rw [k2 k fun z => hk (List.mem_append_right _ z), k1 k fun z => hk (List.mem_append_left _ z)]⟩
theorem dg_tup {gs : TGs} {n kk : Nat} {js : List Nat} {fs : List D → En → Option En} (hc : X.calm = true) (h : DGs X K es gs n js fs) (hK : X.K = K := by rfl) (hn : (assignEach es X.env).length = n := by rfl) (hst : (assignEach es X.env).findIdx? (·.1) = none := by rfl) : DG X K (.Tuple es kk pos) (gTup K n gs) js (bndT n fs) := by
  subst hK
  refine ⟨pg_tup hc h.p hn hst, fun H0 env σ H G v d env' Q r i1 e q => ?_⟩
  unfold bndT at e
  split at e
  · split at e
    · rename_i hl
      cases i1 with
      | tup s1 i1 => exact ⟨_, _, rfl, same_t r.gh s1, by rw [i1.len]; exact hl, h.d H0 env σ H G _ _ env' Q r i1 hl e q⟩
    · cases e
  · cases e
end

/-! ### for -/
def forM' (bnd : D → En → Option En) (body : En → Option Out) : List D → En → Option Out
  | [], env => some (.nx env)
  | d :: ds, env => (bnd d env).bind fun e1 => (body e1).bind fun
    | .nx e => forM' bnd body ds e
    | .ct e => forM' bnd body ds e
    | .bk e => some (.nx e)
    | .rt d => some (.rt d)
def forM (mi : En → Option (List D)) (bnd : D → En → Option En) (body : En → Option Out) (env : En) : Option Out := (mi env).bind fun ds => forM' bnd body ds env
section
variable {X : Cx} {K : PySem.W.Frag} {tg iter : Expr} {pos : Pos} {wi : TI} {g : TG} {js : List Nat} {tb : TS}
theorem tsm_for {mi : En → Option (List D)} {bnd : D → En → Option En} {body : En → Option Out} (hi : TI0 K wi mi) (hg : TGd K g js bnd) (hb : TSm K tb body) : TSm K (tFor wi g tb) (forM mi bnd body) := fun G0 H0 env σ H G o Dn r g0 e f => by
  obtain ⟨ds, e1, e2⟩ := bind_some_of e
  refine hi H0 env σ H G ds _ r e1 fun J G1 H1 g1 s1 => ?_
  obtain ⟨Y, w, y⟩ := s1.ex
  refine for_it w (fun i σ' H' => ∃ G' env', Rp K H0 G' env' σ' H' ∧ Go G0 H0 G' H' ∧ Same G1 G' ∧ forM' bnd body (ds.drop i) env' = some o) ⟨G1, env, r.go g1, g0.trans g1, Same.refl G1, by simpa using e2⟩ (fun i σ' H' _ ⟨G', env', r', _, s', _⟩ => s'.trans r'.gh) (fun i x σ' H' H2 hlt p hy => ?_) (fun σ' H' p => ?_)
  · obtain ⟨G', env', r', g', s', e'⟩ := p
    rw [List.drop_eq_getElem_cons hlt] at e'
    obtain ⟨env1, a1, a2⟩ := bind_some_of e'
    obtain ⟨o1, a3, a4⟩ := bind_some_of a2
    obtain ⟨G2, gg, ix⟩ := y i H' x H2 ds[i] G' (List.getElem?_eq_getElem hlt) s' r'.gh hy
    refine hg H0 env' σ' H2 G2 x _ env1 _ (r'.go gg) ix a1 fun σ2 r2 _ _ => ?_
    refine hb G0 H0 env1 σ2 H2 G2 o1 _ r2 (g'.trans gg) a3 ?_
    have s2 : Same G1 G2 := s'.trans gg.g
    cases o1 with
    | nx en => exact fun σ3 G3 H3 r3 g3 s3 => ⟨G3, en, r3, g3, s2.trans s3, a4⟩
    | ct en => exact fun σ3 G3 H3 r3 g3 s3 => ⟨G3, en, r3, g3, s2.trans s3, a4⟩
    | bk en => cases a4; exact fun σ3 G3 H3 r3 g3 s3 => f σ3 G3 H3 r3 g3 ((g1.g.trans s2).trans s3)
    | rt d => cases a4; exact fun v G3 H3 g3 s3 iv => f v G3 H3 g3 ((g1.g.trans s2).trans s3) iv
  · obtain ⟨G', env', r', g', s', e'⟩ := p
    rw [List.drop_length] at e'
    cases e'
    exact f σ' G' H' r' g' (g1.g.trans s')
theorem ds_for {mi : En → Option (List D)} {bnd : D → En → Option En} {ms : En → Option Out} {body : List Stmt} (hp : PassesOwn (model X.prog X.w) X.A X.env X.xe) (hc : X.calm = true) (hi : DI0 X K tg iter wi mi) (hg : DG X K tg g js bnd) (hb : DSs X K body tb ms)
    (hs : ∀ x, foldedSetIterable iter X.env x = pure x := by intro _; rfl) : DS X K (.For tg iter body [] pos) (tFor wi g tb) (forM mi bnd ms) := ⟨ps_for hp hc hi.p hg.p hb.p hs, tsm_for hi.d hg.d hb.d⟩
end

/-! ### while, with so many turns at most -/
def whileM (tst : En → Option Bool) (body : En → Option Out) : Nat → En → Option Out
  | 0, _ => none
  | n + 1, env => (tst env).bind fun b => if b = true then (body env).bind fun
    | .nx e => whileM tst body n e
    | .ct e => whileM tst body n e
    | .bk e => some (.nx e)
    | .rt d => some (.rt d)
    else some (.nx env)
section
variable {X : Cx} {K : PySem.W.Frag} {c : Expr} {pos : Pos} {tt : TT} {tb : TS}
theorem ds_while (n : Nat) {mc : En → Option Bool} {ms : En → Option Out} {body : List Stmt} (hp : PassesOwn (model X.prog X.w) X.A X.env X.xe) (hc : DT X K c tt mc) (hb : DSs X K body tb ms) : DS X K (.While c body [] pos) (tWhile tt tb) (whileM mc ms n) := by
  refine ⟨ps_while hp hc.p hb.p, fun G0 H0 env σ H G o Dn r g0 e f => ?_⟩
  refine ⟨fun m σ' H' => ∃ G' env', Rp K H0 G' env' σ' H' ∧ Go G0 H0 G' H' ∧ Same G G' ∧ whileM mc ms m env' = some o, ⟨n, G, env, r, g0, Same.refl G, e⟩, fun m σ' H' p => ?_⟩
  obtain ⟨G', env', r', g', s', e'⟩ := p
  cases m with
  | zero => cases e'
  | succ m =>
    obtain ⟨b, a1, a2⟩ := bind_some_of e'
    refine hc.d H0 env' σ' H' G' b _ r' a1 fun G1 H1 g1 => ?_
    cases b with
    | false =>
      have a3 : o = .nx env' := by simpa using a2.symm
      subst a3
      exact iteF (f σ' G1 H1 (r'.go g1) (g'.trans g1) (s'.trans g1.g))
    | true =>
      have a3 := (if_pos (c := true = true) rfl).symm.trans a2
      obtain ⟨o1, a4, a5⟩ := bind_some_of a3
      refine iteT ⟨fun σ2 H2 => ∃ G2 en, Rp K H0 G2 en σ2 H2 ∧ Go G0 H0 G2 H2 ∧ Same G G2 ∧ whileM mc ms m en = some o, fun σ2 H2 q => ⟨m, Nat.lt_succ_self m, q⟩, ?_⟩
      refine hb.d G0 H0 env' σ' H1 G1 o1 _ (r'.go g1) (g'.trans g1) a4 ?_
      have s2 : Same G G1 := s'.trans g1.g
      cases o1 with
      | nx en => exact fun σ3 G3 H3 r3 g3 s3 => ⟨G3, en, r3, g3, s2.trans s3, a5⟩
      | ct en => exact fun σ3 G3 H3 r3 g3 s3 => ⟨G3, en, r3, g3, s2.trans s3, a5⟩
      | bk en => cases a5; exact fun σ3 G3 H3 r3 g3 s3 => f σ3 G3 H3 r3 g3 (s2.trans s3)
      | rt d => cases a5; exact fun v G3 H3 g3 s3 iv => f v G3 H3 g3 (s2.trans s3) iv
end

/-! ### fresh lists, comprehensions -/
def TF (K : PySem.W.Frag) (t : TE) (m : En → Option (List D)) : Prop := ∀ (H0 : Hp) (env : En) (σ : L2.St) (H G : Hp) (ds : List D) (Q : VK), Rp K H0 G env σ H → m env = some ds → (∀ p vs G' H', Go G H G' H' → H p = none → G' p = none → H' p = some (.lst vs) → IsL K G' vs ds → Q (.ref p) H') → t σ H Q
structure DF1 (X : Cx) (K : PySem.W.Frag) (e : Expr) (t : TE) (m : En → Option (List D)) : Prop where
  p : PE X e t
  d : TF K t m
def asLst (m : En → Option (List D)) (env : En) : Option D := (m env).bind fun ds => some (.lst ds)
/-- what is new turns to what stands still -/
theorem Go.fix {G H G' H' : Hp} {p : Addr} {o : HO} (g : Go G H G' H') (hp : H p = none) (np : G' p = none) (e : H' p = some o) : Go G H (upd G' p o) H' := by
  refine ⟨g.s, g.g.trans (same_upd np), fun a u q => ?_, fun a u n q => ?_⟩
  · by_cases h : a = p
    · subst h; rw [upd_same] at q; cases q; exact e
    · rw [upd_ne h] at q; exact g.gh a u q
  · obtain ⟨n1, q1⟩ := g.out a u n q
    exact ⟨by rw [upd_ne (ne_of_none q hp)]; exact n1, q1⟩
theorem TF.d {K : PySem.W.Frag} {t : TE} {m : En → Option (List D)} (h : TF K t m) : TD K t (asLst m) := fun H0 env σ H G d Q r e q => by
  obtain ⟨ds, e1, e2⟩ := bind_some_of e
  cases e2
  refine h H0 env σ H G ds Q r e1 fun p vs G' H' g hp np e i => q _ _ H' (g.fix hp np e) (.lst upd_same (i.mono (same_upd np)))
theorem DF1.e {X : Cx} {K : PySem.W.Frag} {e : Expr} {t : TE} {m : En → Option (List D)} (h : DF1 X K e t m) : DE X K e t (asLst m) := ⟨h.p, h.d.d⟩
def wipeE (env : En) : List Nat → En
  | [] => env
  | v :: vs => (wipeE env vs).set v none
theorem wipeE_len (env : En) : ∀ vs, (wipeE env vs).length = env.length
  | [] => rfl
  | v :: vs => by unfold wipeE; rw [List.length_set, wipeE_len env vs]
theorem wipeE_some {env : En} {i : Nat} {s : Sl} : ∀ {vs : List Nat}, (wipeE env vs)[i]? = some (some s) → env[i]? = some (some s) ∧ i ∉ vs
  | [], h => ⟨h, by simp⟩
  | v :: vs, h => by
    unfold wipeE at h
    by_cases hv : i = v
    · subst hv
      have hlt : i < (wipeE env vs).length := by
        have := (List.getElem?_eq_some_iff.mp h).1
        rwa [List.length_set] at this
      rw [List.getElem?_set_self hlt] at h
      cases h
    · rw [List.getElem?_set_ne (Ne.symm hv)] at h
      obtain ⟨h1, h2⟩ := wipeE_some h
      exact ⟨h1, by simp [hv, h2]⟩
theorem wipe_ofs {K : PySem.W.Frag} {H0 G H : Hp} {env : En} {σ : L2.St} (vs : List Nat) (r : Rp K H0 G env σ H) : Rp K H0 G (wipeE env vs) (wipe σ vs) H := by
  refine ⟨r.gh, by rw [wipe_length, wipeE_len]; exact r.len, fun i s e => ?_, fun i j s t v hij hi hj o1 o2 hv => ?_⟩
  · obtain ⟨e1, e2⟩ := wipeE_some e
    obtain ⟨v, h1, h2⟩ := r.sl i s e1
    exact ⟨v, by rw [wipe_out e2]; exact h1, h2⟩
  · obtain ⟨e1, n1⟩ := wipeE_some hi
    obtain ⟨e2, n2⟩ := wipeE_some hj
    rw [wipe_out n1] at hv
    rw [wipe_out n2]
    exact r.dis i j s t v hij e1 e2 o1 o2 hv
theorem wipe_in {σ : L2.St} {i : Nat} : ∀ {vs : List Nat}, i ∈ vs → i < σ.length → (wipe σ vs)[i]? = some none
  | [], h, _ => by cases h
  | v :: vs, h, hl => by
    unfold wipe
    by_cases hv : i = v
    · subst hv
      rw [List.getElem?_set_self (by rw [wipe_length]; exact hl)]
    · rw [List.getElem?_set_ne (Ne.symm hv)]
      exact wipe_in (by simpa [hv] using h) hl
theorem wipe_same {σ σ' : L2.St} {vs js : List Nat} (hj : ∀ j ∈ js, j ∈ vs) (hl : σ'.length = (wipe σ vs).length) (hk : ∀ k, k ∉ js → σ'[k]? = (wipe σ vs)[k]?) : wipe σ' vs = wipe σ vs := by
  apply List.ext_getElem?
  intro k
  rw [wipe_length] at hl
  by_cases hv : k ∈ vs
  · by_cases hlt : k < σ.length
    · rw [wipe_in hv hlt, wipe_in hv (by rw [hl]; exact hlt)]
    · rw [List.getElem?_eq_none_iff.mpr (by rw [wipe_length]; omega), List.getElem?_eq_none_iff.mpr (by rw [wipe_length]; omega)]
  · rw [wipe_out hv, hk k fun z => hv (hj k z)]
def compM (bnd : D → En → Option En) (tst : En → Option Bool) (elt : En → Option D) (env : En) : List D → Option (List D)
  | [] => some []
  | d :: ds => (bnd d env).bind fun e1 => (tst e1).bind fun b => if b = true then (elt e1).bind fun y => (compM bnd tst elt env ds).bind fun r => some (y :: r) else compM bnd tst elt env ds
def lcM (vs : List Nat) (mi : En → Option (List D)) (bnd : D → En → Option En) (tst : En → Option Bool) (elt : En → Option D) (env : En) : Option (List D) := (mi env).bind fun ds => if ds.length ≤ 100000 then compM bnd tst elt (wipeE env vs) ds else none
structure DTs (X : Cx) (K : PySem.W.Frag) (ifs : List Expr) (t : TT) (m : En → Option Bool) : Prop where
  p : PTs X ifs t
  d : TB K t m
theorem dts_nil {X : Cx} {K : PySem.W.Frag} : DTs X K [] tYes (fun _ => some true) := ⟨pts_nil, fun H0 env σ H G b Q r e q => by cases e; exact q G H (Go.refl r.gh)⟩
theorem dts_one {X : Cx} {K : PySem.W.Frag} {c : Expr} {t : TT} {m : En → Option Bool} (h : DT X K c t m) : DTs X K [c] t m := ⟨pts_one h.p, h.d⟩
section
variable {X : Cx} {K : PySem.W.Frag} {elt tg iter : Expr} {ifs : List Expr} {scope : Scope} {own : List (Str × Nat)} {pos : Pos} {wi : TI} {g : TG} {tt : TT} {te : TE} {js : List Nat}
theorem tf_lc {vs : List Nat} {mi : En → Option (List D)} {bnd : D → En → Option En} {tst : En → Option Bool} {me : En → Option D} (hi : TI1 K wi mi) (hg : TGd K g js bnd) (ht : TB K tt tst) (he : TD K te me) (hj : ∀ j ∈ js, j ∈ vs) : TF K (tLc wi g tt te vs) (lcM vs mi bnd tst me) := fun H0 env σ H G total Q r e q => by
  obtain ⟨ds, e1, e2⟩ := bind_some_of e
  split at e2
  case isFalse => cases e2
  rename_i hz
  refine hi H0 env σ H G ds _ r e1 fun J G1 H1 g1 s1 => fun A hA => ?_
  obtain ⟨Y, w, y⟩ := s1.ex
  have nA : G1 A = none := g1.gh.free hA
  refine lc_it w (fun i H' => ∃ G' acc as rs, Go G1 H1 G' H' ∧ G' A = none ∧ H' A = some (.lst acc) ∧ IsL K G' acc as ∧ as.length ≤ i ∧ compM bnd tst me (wipeE env vs) (ds.drop i) = some rs ∧ as ++ rs = total) ?_ (fun i H' _ ⟨G', acc, as, rs, gg, _⟩ => gg.same) (fun i x H' H2 hlt p hy => ?_) (fun H' p => ?_)
  · refine ⟨G1, [], [], total, ⟨g1.gh, Same.refl G1, fun a u e => ?_, fun a u n e => ⟨n, ?_⟩⟩, nA, upd_same, .nil, Nat.zero_le _, by simpa using e2, rfl⟩
    · rw [upd_ne (ne_of_none e nA)]; exact g1.gh a u e
    · rw [upd_ne (ne_of_none e hA)]; exact e
  · obtain ⟨G', acc, as, rs, gg, nA', eA, ia, hl, ec, et⟩ := p
    rw [List.drop_eq_getElem_cons hlt] at ec
    obtain ⟨env1, a1, a2⟩ := bind_some_of ec
    obtain ⟨b, a3, a4⟩ := bind_some_of a2
    obtain ⟨G2, g2, ix⟩ := y i H' x H2 ds[i] G' (List.getElem?_eq_getElem hlt) gg.g gg.gh hy
    have r2 : Rp K H0 G2 (wipeE env vs) (wipe σ vs) H2 := ((wipe_ofs vs r).go g1).go (gg.trans g2)
    refine hg H0 _ _ H2 G2 x _ env1 _ r2 ix a1 fun σ2 r3 l3 k3 => ⟨wipe_same hj l3 k3, ?_⟩
    refine ht H0 env1 σ2 H2 G2 b _ r3 a3 fun G3 H3 g3 => ?_
    have gt : Go G1 H1 G3 H3 := (gg.trans g2).trans g3
    obtain ⟨nA3, eA3⟩ := (g2.trans g3).out A _ nA' eA
    cases b with
    | false =>
      have a5 := (if_neg (c := false = true) Bool.false_ne_true).symm.trans a4
      exact iteF ⟨G3, acc, as, rs, gt, nA3, eA3, ia.mono (g2.trans g3).g, by omega, a5, et⟩
    | true =>
      have a5 := (if_pos (c := true = true) rfl).symm.trans a4
      obtain ⟨yd, a6, a7⟩ := bind_some_of a5
      obtain ⟨rs', a8, a9⟩ := bind_some_of a7
      cases a9
      refine iteT (he H0 env1 σ2 H3 G3 yd _ (r3.go g3) a6 fun v G4 H4 g4 i4 => ?_)
      obtain ⟨nA4, eA4⟩ := g4.out A _ nA3 eA3
      have il : acc.length = as.length := ia.len
      refine ⟨acc, eA4, ?_, G4, acc ++ [v], as ++ [yd], rs', ⟨gt.s, gt.g.trans g4.g, fun a u e => ?_, fun a u n e => ?_⟩, nA4, upd_same, (ia.mono ((g2.trans g3).trans g4).g).append (.cons i4 .nil), by rw [List.length_append]; simp; omega, a8, by rw [List.append_assoc]; exact et⟩
      · have : acc.length < 100000 := by omega
        exact Nat.lt_of_lt_of_le this (by decide)
      · rw [upd_ne (ne_of_none e nA4)]; exact g4.gh a u e
      · obtain ⟨n5, e5⟩ := (gt.trans g4).out a u n e
        exact ⟨n5, by rw [upd_ne (ne_of_none e hA)]; exact e5⟩
  · obtain ⟨G', acc, as, rs, gg, nA', eA, ia, hl, ec, et⟩ := p
    rw [List.drop_length] at ec
    cases ec
    rw [List.append_nil] at et
    subst et
    have gf := g1.trans gg
    exact q A acc G' H' gf (g1.same.free hA) nA' eA ia
theorem df_lc {mi : En → Option (List D)} {bnd : D → En → Option En} {tst : En → Option Bool} {me : En → Option D} (hc : X.calm = true) (hN : X.N.Nodup) (hi : DI1 X K tg iter wi mi) (ok : BlkOk X.N X.env.scope scope own)
    (hg : ∀ (s : Shared) (H : Hp) (C : Addr) (cl : List (Str × Addr)) (fp : List Addr), DG (X.blk s H scope (compEnvC scope cl C X.env) fp) K tg g js bnd) (ht : ∀ (s : Shared) (H : Hp) (C : Addr) (cl : List (Str × Addr)) (fp : List Addr), DTs (X.blk s H scope (compEnvC scope cl C X.env) fp) K ifs tt tst)
    (he : ∀ (s : Shared) (H : Hp) (C : Addr) (cl : List (Str × Addr)) (fp : List Addr), DE (X.blk s H scope (compEnvC scope cl C X.env) fp) K elt te me) (hj : js.all (fun j => (own.map (·.2)).contains j) = true) (h0 : Shared) (hs : ∀ x, foldedSetIterable iter X.env x = pure x := by intro _; rfl) :
    DF1 X K (.ListComp elt [⟨tg, iter, ifs, 0⟩] scope pos) (tLc wi g tt te (own.map (·.2))) (lcM (own.map (·.2)) mi bnd tst me) :=
  ⟨pe_lc hc hN hi.p ok (fun s H C cl fp => (hg s H C cl fp).p) (fun s H C cl fp => (ht s H C cl fp).p) (fun s H C cl fp => (he s H C cl fp).p) hs,
   tf_lc hi.d (hg h0 (fun _ => none) 0 [] []).d (ht h0 (fun _ => none) 0 [] []).d (he h0 (fun _ => none) 0 [] []).d fun j hm => by
    have := List.all_eq_true.mp hj j hm
    simpa using this⟩
end
end Dl

set_option Elab.async false
set_option linter.all false
set_option maxRecDepth 100000
set_option maxHeartbeats 2000000
/-! Values as data: operators, subscripts, slices, built-ins. -/
namespace Dl
open PySem PySem.Spec PyProof.Rows L2
section
variable {K : PySem.W.Frag} {G H : Hp} {X : Cx}
theorem sz5 {n : Nat} (h : n ≤ 100000) : n ≤ sizeLine := Nat.le_trans h (by decide)
/-! ### + - * // % ** -/
def addD : D → D → Option D
  | .int i, .int j => some (.int (i + j))
  | .str s, .str t => if s.length + t.length ≤ 100000 then some (.str (s ++ t)) else none
  | .lst a, .lst b => if a.length + b.length ≤ 100000 then some (.lst (a ++ b)) else none
  | .tup a, .tup b => if a.length + b.length ≤ 100000 then some (.tup (a ++ b)) else none
  | _, _ => none
def rAddA (K : PySem.W.Frag) : R2 := fun x y H Q => rI0 (fun i j => .int (i + j)) x y H Q ∨ (∃ i j, x = .str i ∧ y = .str j ∧ i.length + j.length ≤ sizeLine ∧ Q (.str (i ++ j)) H) ∨ rCat x y H Q ∨ rCatA K x y H Q
theorem op_addA (hK : X.K = K) : OpR X (binaryOp .Add) (rAddA K) := by
  subst hK
  exact op_add.or (op_add_str.or (op_cat.or op_catA))
theorem go_new_tup {vs : List V} {ds : List D} {p : Addr} (gh : Same G H) (hp : H p = none) (i : IsL K G vs ds) : Go G H (upd G p (.tup vs)) (upd H p (.tup vs)) ∧ Is K (upd G p (.tup vs)) (.ref p) (.tup ds) := by
  have g := Go.new (o := .tup vs) gh hp
  exact ⟨g, .tup (SqT.of upd_same) (i.mono g.g)⟩
theorem go_new_lst {vs : List V} {ds : List D} {p : Addr} (gh : Same G H) (hp : H p = none) (i : IsL K G vs ds) : Go G H (upd G p (.lst vs)) (upd H p (.lst vs)) ∧ Is K (upd G p (.lst vs)) (.ref p) (.lst ds) := by
  have g := Go.new (o := .lst vs) gh hp
  exact ⟨g, .lst upd_same (i.mono g.g)⟩
theorem ro_add : RO K (rAddA K) addD := fun G H x y d e z Q gh h1 h2 hz q => by
  unfold addD at hz
  split at hz
  · cases hz
    cases h1.int; cases h2.int
    exact .inl ⟨_, _, rfl, rfl, q _ G H (Go.refl gh) (.int _)⟩
  · split at hz
    · rename_i hl
      cases hz
      cases h1.str; cases h2.str
      exact .inr (.inl ⟨_, _, rfl, rfl, sz5 hl, q _ G H (Go.refl gh) (.str _)⟩)
    · cases hz
  · split at hz
    · rename_i hl
      cases hz
      obtain ⟨p, vs, rfl, e1, i1⟩ := h1.lst gh
      obtain ⟨p2, vs2, rfl, e2, i2⟩ := h2.lst gh
      refine .inr (.inr (.inl ⟨p, p2, vs, vs2, rfl, rfl, e1, e2, by rw [i1.len, i2.len]; exact sz5 hl, fun r hr => ?_⟩))
      obtain ⟨g, i⟩ := go_new_lst gh hr (i1.append i2)
      exact q _ _ _ g i
    · cases hz
  · split at hz
    · rename_i hl
      cases hz
      obtain ⟨p, vs, rfl, s1, e1, i1⟩ := h1.tup gh
      obtain ⟨p2, vs2, rfl, s2, e2, i2⟩ := h2.tup gh
      refine .inr (.inr (.inr ⟨p, p2, vs, vs2, rfl, rfl, e1, e2, by rw [i1.len, i2.len]; exact sz5 hl, fun h0 => ?_, fun h0 h3 => ?_, fun h0 h3 r hr => ?_⟩))
      · subst h0
        cases i1
        exact q _ G H (Go.refl gh) (.tup s2 i2)
      · subst h3
        cases i2
        rw [List.append_nil] at q
        exact q _ G H (Go.refl gh) (.tup s1 i1)
      · obtain ⟨g, i⟩ := go_new_tup gh hr (i1.append i2)
        exact q _ _ _ g i
    · cases hz
  · cases hz
def subD : D → D → Option D
  | .int i, .int j => some (.int (i - j))
  | _, _ => none
theorem ro_sub : RO K (rI0 fun i j => .int (i - j)) subD := fun G H x y d e z Q gh h1 h2 hz q => by
  unfold subD at hz
  split at hz
  · cases hz
    cases h1.int; cases h2.int
    exact ⟨_, _, rfl, rfl, q _ G H (Go.refl gh) (.int _)⟩
  · cases hz
theorem rep_le {n : Nat} {k : Int} (h : 0 ≤ k ∧ k ≤ 1000 ∧ n ≤ 100) : n * k.toNat ≤ 100000 := by
  have h3 : k.toNat ≤ 1000 := by omega
  exact Nat.le_trans (Nat.mul_le_mul h.2.2 h3) (by decide)
def mulD : D → D → Option D
  | .int i, .int j => if i.natAbs.log2 + j.natAbs.log2 < 1000000 then some (.int (i * j)) else none
  | .lst a, .int k => if 0 ≤ k ∧ k ≤ 1000 ∧ a.length ≤ 100 then some (.lst (List.replicate k.toNat a).flatten) else none
  | _, _ => none
def rMulA : R2 := fun x y H Q => rI CMulW (fun i j => .int (i * j)) x y H Q ∨ rRep x y H Q
theorem op_mulA : OpR X (binaryOp .Mult) rMulA := op_mulW.or op_rep
theorem isl_rep {vs : List V} {ds : List D} (i : IsL K G vs ds) : ∀ n : Nat, IsL K G (List.replicate n vs).flatten (List.replicate n ds).flatten
  | 0 => .nil
  | n + 1 => by
    rw [List.replicate_succ, List.replicate_succ, List.flatten_cons, List.flatten_cons]
    exact i.append (isl_rep i n)
theorem ro_mul : RO K rMulA mulD := fun G H x y d e z Q gh h1 h2 hz q => by
  unfold mulD at hz
  split at hz
  · split at hz
    · rename_i hl
      cases hz
      cases h1.int; cases h2.int
      exact .inl ⟨_, _, rfl, rfl, hl, q _ G H (Go.refl gh) (.int _)⟩
    · cases hz
  · split at hz
    · rename_i hl
      cases hz
      cases h2.int
      obtain ⟨p, vs, rfl, e1, i1⟩ := h1.lst gh
      refine .inr ⟨p, _, vs, rfl, rfl, e1, ?_, ?_, ?_, fun r hr => ?_⟩
      · have : (0 : Int) ≤ 2 ^ 63 := by decide
        omega
      · have : (1000 : Int) < 2 ^ 63 := by decide
        omega
      · rw [i1.len]
        exact sz5 (rep_le hl)
      · obtain ⟨g, i⟩ := go_new_lst gh hr (isl_rep i1 _)
        exact q _ _ _ g i
    · cases hz
  · cases hz
def fdivD : D → D → Option D
  | .int i, .int j => if 0 < j ∧ j.natAbs.log2 < 9000 then some (.int (i / j)) else none
  | _, _ => none
theorem ro_fdiv : RO K (rI CDivW fun i j => .int (i / j)) fdivD := fun G H x y d e z Q gh h1 h2 hz q => by
  unfold fdivD at hz
  split at hz
  · split at hz
    · rename_i hl
      cases hz
      cases h1.int; cases h2.int
      exact ⟨_, _, rfl, rfl, hl, q _ G H (Go.refl gh) (.int _)⟩
    · cases hz
  · cases hz
def modD : D → D → Option D
  | .int i, .int j => if 0 < j then some (.int (i % j)) else none
  | _, _ => none
theorem ro_mod : RO K (rI (fun _ j => 0 < j) fun i j => .int (i % j)) modD := fun G H x y d e z Q gh h1 h2 hz q => by
  unfold modD at hz
  split at hz
  · split at hz
    · rename_i hl
      cases hz
      cases h1.int; cases h2.int
      exact ⟨_, _, rfl, rfl, hl, q _ G H (Go.refl gh) (.int _)⟩
    · cases hz
  · cases hz
def powD : D → D → Option D
  | .int i, .int j => if 0 ≤ j ∧ j ≤ 1000000 ∧ i.natAbs < 2 ^ 64 then some (.int (i ^ j.toNat)) else none
  | _, _ => none
theorem ro_pow : RO K (rI CPow fun i j => .int (i ^ j.toNat)) powD := fun G H x y d e z Q gh h1 h2 hz q => by
  unfold powD at hz
  split at hz
  · split at hz
    · rename_i hl
      cases hz
      cases h1.int; cases h2.int
      exact ⟨_, _, rfl, rfl, hl, q _ G H (Go.refl gh) (.int _)⟩
    · cases hz
  · cases hz
def negD : D → Option D
  | .int i => some (.int (-i))
  | _ => none
theorem ru_neg : RU1 K (rU fun i => .int (-i)) negD := fun G H x d z Q gh h1 hz q => by
  unfold negD at hz
  split at hz
  · cases hz
    cases h1.int
    exact ⟨_, rfl, q _ G H (Go.refl gh) (.int _)⟩
  · cases hz
/-! ### order of ints -/
def cmpD (f : Int → Int → Bool) : D → D → Option D
  | .int i, .int j => some (.bl (f i j))
  | _, _ => none
theorem ro_cmp (f : Int → Int → Bool) : RO K (rI0 fun i j => .bl (f i j)) (cmpD f) := fun G H x y d e z Q gh h1 h2 hz q => by
  unfold cmpD at hz
  split at hz
  · cases hz
    cases h1.int; cases h2.int
    exact ⟨_, _, rfl, rfl, q _ G H (Go.refl gh) (.bl _)⟩
  · cases hz
/-! ### equality of data -/
mutual
def D.py : D → PyData
  | .non => .none
  | .bl b => .bool b
  | .int i => .int i
  | .str s => .str s
  | .tup ds => .tuple (pyL ds)
  | .lst ds => .list (pyL ds)
  | .scr ds => .list (pyL ds)
  | .dic _ _ => .dict []
  | .obj _ _ _ => .dict []
def pyL : List D → List PyData
  | [] => []
  | d :: ds => d.py :: pyL ds
end
mutual
theorem Is.dp {v : V} {d : D} : Is K H v d → d.py.canLay0 = true → Dp K H v d.py
  | .non, _ => .non
  | .bl b, _ => .bl b
  | .int i, _ => .int i
  | .str s, _ => .str s
  | .tup h r, q => by
    unfold D.py at q ⊢
    unfold PyData.canLay0 at q
    exact .tup h (r.dp q)
  | .lst h r, q => by
    unfold D.py at q ⊢
    unfold PyData.canLay0 at q
    exact .lst (SqL.of h) (r.dp q)
  | .scr h r, q => by
    unfold D.py at q ⊢
    unfold PyData.canLay0 at q
    exact .lst h (r.dp q)
  | .dic _ _ _, q => by
    unfold D.py at q
    unfold PyData.canLay0 at q
    cases q
  | .obj _ _ _, q => by
    unfold D.py at q
    unfold PyData.canLay0 at q
    cases q
theorem IsL.dp {vs : List V} {ds : List D} : IsL K H vs ds → PyData.canLayAll0 (pyL ds) = true → DpAll K H vs (pyL ds)
  | .nil, _ => .nil
  | .cons h r, q => by
    unfold pyL at q ⊢
    unfold PyData.canLayAll0 at q
    rw [Bool.and_eq_true] at q
    exact .cons (h.dp q.1) (r.dp q.2)
end
theorem IsR.dp {v : V} {d : D} (gh : Same G H) (h : IsR K G H v d) (q : d.py.canLay0 = true) : Dp K H v d.py := by
  cases h with
  | is h => exact (h.mono gh).dp q
  | own n e r =>
    unfold D.py at q ⊢
    unfold PyData.canLay0 at q
    exact .lst (SqL.of e) ((r.mono gh).dp q)
  | ownd n e k r =>
    unfold D.py at q
    unfold PyData.canLay0 at q
    cases q
def shp (d : D) : Bool := SeqAt.shaped d.py
def eqB (d e : D) : Bool := PyData.eqv d.py e.py
def eqD (d e : D) : Option D := if shp d = true ∧ shp e = true then some (.bl (eqB d e)) else none
def neD (d e : D) : Option D := if shp d = true ∧ shp e = true then some (.bl (!eqB d e)) else none
theorem ro_eq : RO K (rEqD K) eqD := fun G H x y d e z Q gh h1 h2 hz q => by
  unfold eqD at hz
  split at hz
  · rename_i hs
    cases hz
    exact ⟨d.py, e.py, h1.dp gh (SeqAt.canLay_of_shaped hs.1), h2.dp gh (SeqAt.canLay_of_shaped hs.2), hs.1, hs.2, q _ G H (Go.refl gh) (.bl _)⟩
  · cases hz
theorem ro_ne : RO K (rNeD K) neD := fun G H x y d e z Q gh h1 h2 hz q => by
  unfold neD at hz
  split at hz
  · rename_i hs
    cases hz
    exact ⟨d.py, e.py, h1.dp gh (SeqAt.canLay_of_shaped hs.1), h2.dp gh (SeqAt.canLay_of_shaped hs.2), hs.1, hs.2, q _ G H (Go.refl gh) (.bl _)⟩
  · cases hz
theorem op_eqK (hu : X.A.units + 64 < cLine) (hK : X.K = K) : OpR X (compareOp .Eq) (rEqD K) := by subst hK; exact op_eqD hu
theorem op_neK (hu : X.A.units + 64 < cLine) (hK : X.K = K) : OpR X (compareOp .NotEq) (rNeD K) := by subst hK; exact op_neD hu
/-! ### is None -/
def isNone : D → Bool
  | .non => true
  | _ => false
def isND (d e : D) : Option D := match e with
  | .non => some (.bl (isNone d))
  | _ => none
def isNotND (d e : D) : Option D := match e with
  | .non => some (.bl (!isNone d))
  | _ => none
theorem isN_v {v : V} {d : D} (h : IsR K G H v d) : decide (v = .non) = isNone d := by
  cases h with
  | is h => cases h <;> simp [isNone]
  | own _ _ _ => simp [isNone]
  | ownd _ _ _ _ => simp [isNone]
theorem ro_isN : RO K (fun x y H Q => y = .non ∧ Q (.bl (decide (x = .non))) H) isND := fun G H x y d e z Q gh h1 h2 hz q => by
  unfold isND at hz
  split at hz
  · cases hz
    exact ⟨h2.non, by rw [isN_v h1]; exact q _ G H (Go.refl gh) (.bl _)⟩
  · cases hz
theorem ro_notN : RO K (fun x y H Q => y = .non ∧ Q (.bl (!decide (x = .non))) H) isNotND := fun G H x y d e z Q gh h1 h2 hz q => by
  unfold isNotND at hz
  split at hz
  · cases hz
    exact ⟨h2.non, by rw [isN_v h1]; exact q _ G H (Go.refl gh) (.bl _)⟩
  · cases hz
/-! ### in, not in: flat items; one sign of a text; the keys of a dict -/
def flatD : D → Option V
  | .non => some .non
  | .bl b => some (.bl b)
  | .int i => some (.int i)
  | .str s => some (.str s)
  | _ => none
def flatL : List D → Option (List V)
  | [] => some []
  | d :: ds => (flatD d).bind fun v => (flatL ds).bind fun r => some (v :: r)
theorem flatD_is {v u : V} {d : D} (h : Is K G v d) (e : flatD d = some u) : v = u ∧ flatV v = true := by
  cases h <;> simp [flatD] at e <;> subst e <;> exact ⟨rfl, rfl⟩
theorem flatD_isR {v u : V} {d : D} (h : IsR K G H v d) (e : flatD d = some u) : v = u ∧ flatV v = true := by
  cases h with
  | is h => exact flatD_is h e
  | own _ _ _ => simp [flatD] at e
  | ownd _ _ _ _ => simp [flatD] at e
theorem flatL_is : ∀ {vs us : List V} {ds : List D}, IsL K G vs ds → flatL ds = some us → vs = us ∧ vs.all flatV = true
  | _, _, _, .nil, e => by cases e; exact ⟨rfl, rfl⟩
  | _, _, _, .cons h r, e => by
    obtain ⟨v, e1, e2⟩ := bind_some_of e
    obtain ⟨w, e3, e4⟩ := bind_some_of e2
    cases e4
    obtain ⟨h1, h2⟩ := flatD_is h e1
    obtain ⟨h3, h4⟩ := flatL_is r e3
    subst h1 h3
    exact ⟨rfl, by rw [List.all_cons, h2, h4]; rfl⟩
def keyD : D → Option Key
  | .int i => some (.inl i)
  | .str s => some (.inr s)
  | _ => none
theorem keyD_is {v : V} {d : D} {k : Key} (h : IsR K G H v d) (e : keyD d = some k) : v = kV k := by
  unfold keyD at e
  split at e
  · cases e; exact h.int
  · cases e; exact h.str
  · cases e
/-- the item of a key -/
def lookD : List Key → List D → Key → Option D
  | k :: ks, d :: ds, j => if k = j then some d else lookD ks ds j
  | _, _, _ => none
theorem lookD_val : ∀ {kvs : List (Key × V)} {ks : List Key} {ds : List D} {k : Key}, kvs.map (·.1) = ks → IsL K G (kvs.map (·.2)) ds →
    (lookD ks ds k = none ∧ valV kvs k = none) ∨ ∃ d v, lookD ks ds k = some d ∧ valV kvs k = some v ∧ Is K G v d
  | [], ks, ds, k, h, i => by
    subst h
    cases i
    exact .inl ⟨rfl, rfl⟩
  | (a, v) :: r, ks, ds, k, h, i => by
    subst h
    cases i with
    | cons i1 i2 =>
      by_cases hk : a = k
      · subst hk
        exact .inr ⟨_, v, by simp [lookD], valV_pos rfl, i1⟩
      · simp only [lookD, List.map_cons, if_neg hk]
        rw [valV_neg (p := (a, v)) hk]
        exact lookD_val rfl i2
def inB (d e : D) : Option Bool := match e with
  | .lst es => (flatD d).bind fun v => (flatL es).bind fun vs => some (inV v vs)
  | .scr es => (flatD d).bind fun v => (flatL es).bind fun vs => some (inV v vs)
  | .tup es => (flatD d).bind fun v => (flatL es).bind fun vs => some (inV v vs)
  | .str z => match d with
    | .str s => match s.cps.toList with
      | [c] => some (decide (c ∈ z.cps.toList))
      | _ => none
    | _ => none
  | .dic ks ds => (keyD d).bind fun k => some (lookD ks ds k).isSome
  | _ => none
def inD (d e : D) : Option D := (inB d e).bind fun b => some (.bl b)
def notinD (d e : D) : Option D := (inB d e).bind fun b => some (.bl (!b))
/-- what inB leans on -/
inductive InAt (K : PySem.W.Frag) (H : Hp) (x y : V) : Bool → Prop
  | seq {p : Addr} {xs : List V} : y = .ref p → (SqL K H p xs ∨ SqT K H p xs) → flatV x = true → xs.all flatV = true → InAt K H x y (inV x xs)
  | sign {c : Nat} {z : Str} : x = .str ⟨#[c]⟩ → y = .str z → InAt K H x y (decide (c ∈ z.cps.toList))
  | key {a : Addr} {o : Option V} : y = .ref a → DGet H a x o → InAt K H x y o.isSome
theorem inB_at {x y : V} {d e : D} {b : Bool} (gh : Same G H) (h1 : IsR K G H x d) (h2 : IsR K G H y e) (h : inB d e = some b) : InAt K H x y b := by
  unfold inB at h
  split at h
  · obtain ⟨v, e1, h⟩ := bind_some_of h
    obtain ⟨vs, e2, h⟩ := bind_some_of h
    cases h
    obtain ⟨p, ws, rfl, q, i⟩ := h2.lst gh
    obtain ⟨h3, h4⟩ := flatD_isR h1 e1
    obtain ⟨h5, h6⟩ := flatL_is i e2
    subst h3 h5
    exact .seq rfl (.inl (SqL.of q)) h4 h6
  · obtain ⟨v, e1, h⟩ := bind_some_of h
    obtain ⟨vs, e2, h⟩ := bind_some_of h
    cases h
    obtain ⟨p, ws, rfl, q, i⟩ := h2.scr gh
    obtain ⟨h3, h4⟩ := flatD_isR h1 e1
    obtain ⟨h5, h6⟩ := flatL_is i e2
    subst h3 h5
    exact .seq rfl (.inl q) h4 h6
  · obtain ⟨v, e1, h⟩ := bind_some_of h
    obtain ⟨vs, e2, h⟩ := bind_some_of h
    cases h
    obtain ⟨p, ws, rfl, _, q, i⟩ := h2.tup gh
    obtain ⟨h3, h4⟩ := flatD_isR h1 e1
    obtain ⟨h5, h6⟩ := flatL_is i e2
    subst h3 h5
    exact .seq rfl (.inr q) h4 h6
  · split at h
    · split at h
      · rename_i s l c hc
        cases h
        cases h1.str
        cases h2.str
        refine .sign (c := c) ?_ rfl
        have : s.cps = #[c] := by rw [← Array.toList_inj]; simpa using hc
        rw [← this]
      · cases h
    · cases h
  · obtain ⟨k, e1, h⟩ := bind_some_of h
    cases h
    obtain ⟨p, kvs, rfl, q, hk, i⟩ := h2.dic gh
    rw [keyD_is h1 e1]
    rcases lookD_val (k := k) hk i with ⟨a1, a2⟩ | ⟨d', v', a1, a2, _⟩
    · rw [a1]
      have := InAt.key (K := K) (H := H) (x := kV k) (y := .ref p) (o := valV kvs k) rfl (DGet.k q)
      rw [a2] at this
      exact this
    · rw [a1]
      have := InAt.key (K := K) (H := H) (x := kV k) (y := .ref p) (o := valV kvs k) rfl (DGet.k q)
      rw [a2] at this
      exact this
  · cases h
end
section
variable {K : PySem.W.Frag} {X : Cx} {a b : Expr} {ta tb : TE} {pos : Pos} {ma mb : En → Option D}
theorem PE.or {e : Expr} {t t' : TE} (h : PE X e t) (h' : PE X e t') : PE X e (fun σ H Q => t σ H Q ∨ t' σ H Q) := ⟨fun pins s σ H Q I q => q.elim (h.run pins s σ H Q I) (h'.run pins s σ H Q I)⟩
theorem PT.or {e : Expr} {t t' : TT} (h : PT X e t) (h' : PT X e t') : PT X e (fun σ H Q => t σ H Q ∨ t' σ H Q) := ⟨fun pins s σ H Q I q => q.elim (h.run pins s σ H Q I) (h'.run pins s σ H Q I)⟩
def tIn3 (K : PySem.W.Frag) (ta tb : TE) : TE := fun σ H Q => tOp (rIn K false) ta tb σ H Q ∨ tOp (fun x y H Q => ∃ (c : Nat) (z : Str), x = .str ⟨#[c]⟩ ∧ y = .str z ∧ Q (.bl (decide (c ∈ z.cps.toList))) H) ta tb σ H Q ∨ tDIn ta tb σ H Q
def tNotIn3 (K : PySem.W.Frag) (ta tb : TE) : TE := fun σ H Q => tOp (rIn K true) ta tb σ H Q ∨ tOp (fun x y H Q => ∃ (c : Nat) (z : Str), x = .str ⟨#[c]⟩ ∧ y = .str z ∧ Q (.bl (!decide (c ∈ z.cps.toList))) H) ta tb σ H Q ∨ tDNotIn ta tb σ H Q
def seqLike : D → Bool
  | .lst _ => true
  | .scr _ => true
  | .tup _ => true
  | _ => false
/-- the kind of the second side decides which rule is taken -/
inductive InK (K : PySem.W.Frag) (H : Hp) (x y : V) (b : Bool) : D → Prop
  | seq {e : D} {p : Addr} {xs : List V} : seqLike e = true → y = .ref p → (SqL K H p xs ∨ SqT K H p xs) → flatV x = true → xs.all flatV = true → b = inV x xs → InK K H x y b e
  | sign {c : Nat} {z : Str} : x = .str ⟨#[c]⟩ → y = .str z → b = decide (c ∈ z.cps.toList) → InK K H x y b (.str z)
  | key {ks : List Key} {ds : List D} {a : Addr} {o : Option V} : y = .ref a → DGet H a x o → b = o.isSome → InK K H x y b (.dic ks ds)
theorem inB_k {G H : Hp} {x y : V} {d e : D} {b : Bool} (gh : Same G H) (h1 : IsR K G H x d) (h2 : IsR K G H y e) (h : inB d e = some b) : InK K H x y b e := by
  have at_ := inB_at gh h1 h2 h
  cases e with
  | lst es =>
    obtain ⟨p, ws, rfl, _⟩ := h2.lst gh
    unfold inB at h
    obtain ⟨v, e1, h⟩ := bind_some_of h
    obtain ⟨vs, e2, h⟩ := bind_some_of h
    cases h
    obtain ⟨p', ws', e', q, i⟩ := h2.lst gh
    obtain ⟨h3, h4⟩ := flatD_isR h1 e1
    obtain ⟨h5, h6⟩ := flatL_is i e2
    subst h3 h5
    exact .seq rfl e' (.inl (SqL.of q)) h4 h6 rfl
  | scr es =>
    unfold inB at h
    obtain ⟨v, e1, h⟩ := bind_some_of h
    obtain ⟨vs, e2, h⟩ := bind_some_of h
    cases h
    obtain ⟨p', ws', e', q, i⟩ := h2.scr gh
    obtain ⟨h3, h4⟩ := flatD_isR h1 e1
    obtain ⟨h5, h6⟩ := flatL_is i e2
    subst h3 h5
    exact .seq rfl e' (.inl q) h4 h6 rfl
  | tup es =>
    unfold inB at h
    obtain ⟨v, e1, h⟩ := bind_some_of h
    obtain ⟨vs, e2, h⟩ := bind_some_of h
    cases h
    obtain ⟨p', ws', e', _, q, i⟩ := h2.tup gh
    obtain ⟨h3, h4⟩ := flatD_isR h1 e1
    obtain ⟨h5, h6⟩ := flatL_is i e2
    subst h3 h5
    exact .seq rfl e' (.inr q) h4 h6 rfl
  | obj c xs es => unfold inB at h; cases h
  | str z =>
    cases h2.str
    cases at_ with
    | seq e1 _ _ _ => cases e1
    | sign e1 e2 => cases e2; exact .sign e1 rfl rfl
    | key e1 _ => cases e1
  | dic ks ds =>
    obtain ⟨p, kvs, rfl, q, hk, i⟩ := h2.dic gh
    unfold inB at h
    obtain ⟨k, e1, h⟩ := bind_some_of h
    cases h
    rw [keyD_is h1 e1]
    refine .key (o := valV kvs k) rfl (DGet.k q) ?_
    rcases lookD_val (k := k) hk i with ⟨a1, a2⟩ | ⟨d', v', a1, a2, _⟩
    · rw [a1, a2]; rfl
    · rw [a1, a2]; rfl
  | non => unfold inB at h; cases h
  | bl _ => unfold inB at h; cases h
  | int _ => unfold inB at h; cases h
theorem td_in (ha : TR K ta ma) (hb : TR K tb mb) : TD K (tIn3 K ta tb) (bind2 ma mb inD) := fun H0 env σ H G z Q rp e q => by
  obtain ⟨d, e', e1, e2, e3⟩ := bind2_some e
  obtain ⟨bb, e4, e5⟩ := bind_some_of e3
  cases e5
  have go : ∀ (R : V → V → Hp → Prop), (∀ v w G2 H2, Go G H G2 H2 → IsR K G2 H2 v d → IsR K G2 H2 w e' → R v w H2) → ta σ H fun x H1 => tb σ H1 fun y H2 => R x y H2 := fun R hR =>
    ha H0 env σ H G d _ rp e1 fun v G1 H1 g1 i1 => hb H0 env σ H1 G1 e' _ (rp.go g1) e2 fun w G2 H2 g2 i2 => hR v w G2 H2 (g1.trans g2) (i1.go g2) i2
  cases he : e' with
  | str zz =>
    subst he
    refine .inr (.inl (go _ fun v w G2 H2 g i1 i2 => ?_))
    cases inB_k g.gh i1 i2 e4 with
    | seq h _ _ _ _ _ => cases h
    | sign h1 h2 h3 => subst h3; exact ⟨_, _, h1, h2, q _ G2 H2 g (.bl _)⟩
  | dic ks ds =>
    subst he
    refine .inr (.inr (go _ fun v w G2 H2 g i1 i2 => ?_))
    cases inB_k g.gh i1 i2 e4 with
    | seq h _ _ _ _ _ => cases h
    | key h1 h2 h3 => subst h3; exact ⟨_, _, h1, h2, q _ G2 H2 g (.bl _)⟩
  | _ =>
    subst he
    refine .inl (go _ fun v w G2 H2 g i1 i2 => ?_)
    cases inB_k g.gh i1 i2 e4 with
    | seq _ h1 h2 h3 h4 h5 => subst h5; exact ⟨_, _, h1, h2, h3, h4, q _ G2 H2 g (.bl _)⟩
theorem td_notin (ha : TR K ta ma) (hb : TR K tb mb) : TD K (tNotIn3 K ta tb) (bind2 ma mb notinD) := fun H0 env σ H G z Q rp e q => by
  obtain ⟨d, e', e1, e2, e3⟩ := bind2_some e
  obtain ⟨bb, e4, e5⟩ := bind_some_of e3
  cases e5
  have go : ∀ (R : V → V → Hp → Prop), (∀ v w G2 H2, Go G H G2 H2 → IsR K G2 H2 v d → IsR K G2 H2 w e' → R v w H2) → ta σ H fun x H1 => tb σ H1 fun y H2 => R x y H2 := fun R hR =>
    ha H0 env σ H G d _ rp e1 fun v G1 H1 g1 i1 => hb H0 env σ H1 G1 e' _ (rp.go g1) e2 fun w G2 H2 g2 i2 => hR v w G2 H2 (g1.trans g2) (i1.go g2) i2
  cases he : e' with
  | str zz =>
    subst he
    refine .inr (.inl (go _ fun v w G2 H2 g i1 i2 => ?_))
    cases inB_k g.gh i1 i2 e4 with
    | seq h _ _ _ _ _ => cases h
    | sign h1 h2 h3 => subst h3; exact ⟨_, _, h1, h2, q _ G2 H2 g (.bl _)⟩
  | dic ks ds =>
    subst he
    refine .inr (.inr (go _ fun v w G2 H2 g i1 i2 => ?_))
    cases inB_k g.gh i1 i2 e4 with
    | seq h _ _ _ _ _ => cases h
    | key h1 h2 h3 => subst h3; exact ⟨_, _, h1, h2, q _ G2 H2 g (.bl _)⟩
  | _ =>
    subst he
    refine .inl (go _ fun v w G2 H2 g i1 i2 => ?_)
    cases inB_k g.gh i1 i2 e4 with
    | seq _ h1 h2 h3 h4 h5 => subst h5; exact ⟨_, _, h1, h2, h3, h4, q _ G2 H2 g (.bl _)⟩
theorem de_in (hu : X.A.units + 1 < cLine) (ha : DR X K a ta ma) (hb : DR X K b tb mb) (hm : behindInMarks .In b = false) (hK : X.K = K := by rfl) : DE X K (.Compare a [.In] [b] pos) (tIn3 K ta tb) (bind2 ma mb inD) := by
  subst hK
  exact ⟨PE.or (pe_cmpR op_in_seq ha.p hb.p hm) (PE.or (pe_cmpR op_in_sign ha.p hb.p hm) (pe_cmp (pc_din hu ha.p hb.p) hm)), td_in ha.d hb.d⟩
theorem de_notin (hu : X.A.units + 1 < cLine) (ha : DR X K a ta ma) (hb : DR X K b tb mb) (hm : behindInMarks .NotIn b = false) (hK : X.K = K := by rfl) : DE X K (.Compare a [.NotIn] [b] pos) (tNotIn3 K ta tb) (bind2 ma mb notinD) := by
  subst hK
  exact ⟨PE.or (pe_cmpR op_notIn_seq ha.p hb.p hm) (PE.or (pe_cmpR op_notIn_sign ha.p hb.p hm) (pe_cmp (pc_dnotin hu ha.p hb.p) hm)), td_notin ha.d hb.d⟩
/-- any comparison that is a value is a test -/
theorem tb_of {K : PySem.W.Frag} {t : TE} {m : En → Option D} (h : TD K t m) : TB K (tB t) (boolM m) := tb_B h
theorem PE.cmpT {op : CmpOp} {t : TE} (h : PE X (.Compare a [op] [b] pos) t) (ht : PT X (.Compare a [op] [b] pos) (tB t)) : PT X (.Compare a [op] [b] pos) (tB t) := ht
theorem dt_in (hu : X.A.units + 1 < cLine) (ha : DR X K a ta ma) (hb : DR X K b tb mb) (hm : behindInMarks .In b = false) (hK : X.K = K := by rfl) : DT X K (.Compare a [.In] [b] pos) (fun σ H Q => tB (tIn3 K ta tb) σ H Q) (boolM (bind2 ma mb inD)) := by
  subst hK
  refine ⟨⟨fun pins s σ H Q I q => ?_⟩, tb_B (td_in ha.d hb.d)⟩
  rcases q with q | q | q
  · exact (pt_cmpR op_in_seq ha.p hb.p hm).run pins s σ H Q I q
  · exact (pt_cmpR op_in_sign ha.p hb.p hm).run pins s σ H Q I q
  · exact (pt_cmp (pc_din hu ha.p hb.p) hm).run pins s σ H Q I q
theorem dt_notin (hu : X.A.units + 1 < cLine) (ha : DR X K a ta ma) (hb : DR X K b tb mb) (hm : behindInMarks .NotIn b = false) (hK : X.K = K := by rfl) : DT X K (.Compare a [.NotIn] [b] pos) (fun σ H Q => tB (tNotIn3 K ta tb) σ H Q) (boolM (bind2 ma mb notinD)) := by
  subst hK
  refine ⟨⟨fun pins s σ H Q I q => ?_⟩, tb_B (td_notin ha.d hb.d)⟩
  rcases q with q | q | q
  · exact (pt_cmpR op_notIn_seq ha.p hb.p hm).run pins s σ H Q I q
  · exact (pt_cmpR op_notIn_sign ha.p hb.p hm).run pins s σ H Q I q
  · exact (pt_cmp (pc_dnotin hu ha.p hb.p) hm).run pins s σ H Q I q
/-! ### subscripts -/
def ixD (d e : D) : Option D := match d, e with
  | .lst ds, .int i => atI ds i
  | .scr ds, .int i => atI ds i
  | .tup ds, .int i => atI ds i
  | .str z, .int i => if z.length ≤ 100000 then (atI z.cps.toList i).bind fun c => some (.str ⟨#[c]⟩) else none
  | .dic ks ds, k => (keyD k).bind fun k => lookD ks ds k
  | _, _ => none
theorem atI_is {G : Hp} {vs : List V} {ds : List D} {i : Int} {d : D} (h : IsL K G vs ds) (e : atI ds i = some d) : ∃ v, atI vs i = some v ∧ Is K G v d := by
  unfold atI at e ⊢
  rw [h.len]
  obtain ⟨j, e1, e2⟩ := bind_some_of e
  obtain ⟨v, h1, h2⟩ := h.get e2
  exact ⟨v, by rw [e1]; exact h1, h2⟩
def tIx2 (K : PySem.W.Frag) (ta tb : TE) : TE := fun σ H Q => tOp (rIx K) ta tb σ H Q ∨ tDGet ta tb σ H Q
theorem td_ix (ha : TR K ta ma) (hb : TR K tb mb) : TD K (tIx2 K ta tb) (bind2 ma mb ixD) := fun H0 env σ H G z Q rp e q => by
  obtain ⟨d, e', e1, e2, e3⟩ := bind2_some e
  have go : ∀ (R : V → V → Hp → Prop), (∀ v w G2 H2, Go G H G2 H2 → IsR K G2 H2 v d → IsR K G2 H2 w e' → R v w H2) → ta σ H fun x H1 => tb σ H1 fun y H2 => R x y H2 := fun R hR =>
    ha H0 env σ H G d _ rp e1 fun v G1 H1 g1 i1 => hb H0 env σ H1 G1 e' _ (rp.go g1) e2 fun w G2 H2 g2 i2 => hR v w G2 H2 (g1.trans g2) (i1.go g2) i2
  unfold ixD at e3
  split at e3
  · refine .inl (go _ fun v w G2 H2 g i1 i2 => ?_)
    obtain ⟨p, vs, rfl, s1, i⟩ := i1.lst g.gh
    cases i2.int
    obtain ⟨u, a1, a2⟩ := atI_is i e3
    exact .inl ⟨p, vs, _, u, rfl, rfl, SqL.of s1, a1, q _ G2 H2 g a2⟩
  · refine .inl (go _ fun v w G2 H2 g i1 i2 => ?_)
    obtain ⟨p, vs, rfl, s1, i⟩ := i1.scr g.gh
    cases i2.int
    obtain ⟨u, a1, a2⟩ := atI_is i e3
    exact .inl ⟨p, vs, _, u, rfl, rfl, s1, a1, q _ G2 H2 g a2⟩
  · refine .inl (go _ fun v w G2 H2 g i1 i2 => ?_)
    obtain ⟨p, vs, rfl, _, s1, i⟩ := i1.tup g.gh
    cases i2.int
    obtain ⟨u, a1, a2⟩ := atI_is i e3
    exact .inr (.inl ⟨p, vs, _, u, rfl, rfl, s1, a1, q _ G2 H2 g a2⟩)
  · split at e3
    · rename_i hz
      obtain ⟨c, e4, e5⟩ := bind_some_of e3
      cases e5
      refine .inl (go _ fun v w G2 H2 g i1 i2 => ?_)
      cases i1.str
      cases i2.int
      exact .inr (.inr ⟨_, _, c, rfl, rfl, sz5 hz, e4, q _ G2 H2 g (.str _)⟩)
    · cases e3
  · obtain ⟨k, e4, e5⟩ := bind_some_of e3
    refine .inr (go _ fun v w G2 H2 g i1 i2 => ?_)
    obtain ⟨p, kvs, rfl, s1, hk, i⟩ := i1.dic g.gh
    rw [keyD_is i2 e4]
    rcases lookD_val (k := k) hk i with ⟨a1, a2⟩ | ⟨d', v', a1, a2, a3⟩
    · rw [a1] at e5; cases e5
    · rw [a1] at e5
      cases e5
      exact ⟨p, v', rfl, by have := DGet.k (k := k) s1; rw [a2] at this; exact this, q _ G2 H2 g a3⟩
  · cases e3
theorem de_ix (hu : X.A.units + 1 < cLine) (ha : DR X K a ta ma) (hb : DR X K b tb mb) (hs : PlainIx b := by exact fun _ _ => rfl) (hs2 : NoSl b := by exact fun _ _ => rfl) (hK : X.K = K := by rfl) : DE X K (.Subscript a b pos) (tIx2 K ta tb) (bind2 ma mb ixD) := by
  subst hK
  exact ⟨PE.or (pe_ix ix_seq ha.p hb.p hs) (pe_dget hu ha.p hb.p hs2), td_ix ha.d hb.d⟩
/-! ### slices -/
def TOd (K : PySem.W.Frag) (t : TO) (m : En → Option (Option Int)) : Prop := ∀ (H0 : Hp) (env : En) (σ : L2.St) (H G : Hp) (o : Option Int) (Q : Option Int → Hp → Prop), Rp K H0 G env σ H → m env = some o → (∀ G' H', Go G H G' H' → Q o H') → t σ H Q
structure DO (X : Cx) (K : PySem.W.Frag) (e : Option Expr) (t : TO) (m : En → Option (Option Int)) : Prop where
  p : PO X e t
  d : TOd K t m
theorem do_none : DO X K none tNoPart (fun _ => some none) := ⟨po_none, fun H0 env σ H G o Q r e q => by cases e; exact q G H (Go.refl r.gh)⟩
def partM (m : En → Option D) (env : En) : Option (Option Int) := match m env with
  | some (.int i) => some (some i)
  | _ => none
theorem do_some {e : Expr} {te : TE} {m : En → Option D} (h : DR X K e te m) : DO X K (some e) (tPart te) (partM m) := ⟨po_some h.p, fun H0 env σ H G o Q r e q => by
  unfold partM at e
  split at e
  · rename_i i e1
    cases e
    exact h.d H0 env σ H G _ _ r e1 fun v G1 H1 g1 i1 => ⟨i, i1.int, q G1 H1 g1⟩
  · cases e⟩
def cutL (ds : List D) (lo hi : Option Int) : List D := (ds.drop (HT.sIx ds.length 0 lo)).take (HT.sIx ds.length ds.length hi - HT.sIx ds.length 0 lo)
def slD (d : D) (lo hi : Option Int) : Option D := match d with
  | .lst ds => some (.lst (cutL ds lo hi))
  | .scr ds => some (.lst (cutL ds lo hi))
  | .tup ds => some (.tup (cutL ds lo hi))
  | .str z => if z.length ≤ 100000 then some (.str (cutS z lo hi)) else none
  | _ => none
def slM (m : En → Option D) (ml mh : En → Option (Option Int)) (env : En) : Option D := (m env).bind fun d => (ml env).bind fun lo => (mh env).bind fun hi => slD d lo hi
theorem isl_cut {G : Hp} {vs : List V} {ds : List D} (lo hi : Option Int) (h : IsL K G vs ds) : IsL K G (cutV vs lo hi) (cutL ds lo hi) := by
  unfold cutV cutL
  rw [h.len]
  exact (h.drop _).take _
def rSl3 (K : PySem.W.Frag) : V → Option Int → Option Int → Hp → VK → Prop := fun x lo hi H Q => rSlL K x lo hi H Q ∨ rSlA K x lo hi H Q ∨ rSlS x lo hi H Q
theorem de_slice {e : Expr} {te : TE} {m : En → Option D} {lo hi : Option Expr} {tl th : TO} {ml mh : En → Option (Option Int)} {p2 : Pos} (he : DR X K e te m) (hl : DO X K lo tl ml) (hh : DO X K hi th mh) (hK : X.K = K := by rfl) : DE X K (.Subscript e (.Slice lo hi none p2) pos) (tSl (rSl3 K) te tl th) (slM m ml mh) := by
  subst hK
  refine ⟨pe_slice (SlR.or sl_list (SlR.or sl_tupA sl_str)) he.p hl.p hh.p, fun H0 env σ H G z Q rp e q => ?_⟩
  obtain ⟨d, e1, e2⟩ := bind_some_of e
  obtain ⟨l, e3, e4⟩ := bind_some_of e2
  obtain ⟨u, e5, e6⟩ := bind_some_of e4
  refine he.d H0 env σ H G d _ rp e1 fun v G1 H1 g1 i1 => ?_
  refine hl.d H0 env σ H1 G1 l _ (rp.go g1) e3 fun G2 H2 g2 => ?_
  refine hh.d H0 env σ H2 G2 u _ (rp.go (g1.trans g2)) e5 fun G3 H3 g3 => ?_
  have g := (g1.trans g2).trans g3
  have i3 := i1.go (g2.trans g3)
  unfold slD at e6
  split at e6
  · cases e6
    obtain ⟨p, vs, rfl, s1, i⟩ := i3.lst g.gh
    refine .inl ⟨p, vs, rfl, SqL.of s1, fun r hr => ?_⟩
    obtain ⟨gn, iv⟩ := go_new_lst g.gh hr (isl_cut l u i)
    exact q _ _ _ (g.trans gn) iv
  · cases e6
    obtain ⟨p, vs, rfl, s1, i⟩ := i3.scr g.gh
    refine .inl ⟨p, vs, rfl, s1, fun r hr => ?_⟩
    obtain ⟨gn, iv⟩ := go_new_lst g.gh hr (isl_cut l u i)
    exact q _ _ _ (g.trans gn) iv
  · cases e6
    obtain ⟨p, vs, rfl, s0, s1, i⟩ := i3.tup g.gh
    refine .inr (.inl ⟨p, vs, rfl, s1, fun hw => ?_, fun hw r hr => ?_⟩)
    · refine q _ G3 H3 g (.tup s0 ?_)
      have hc := isl_cut l u i
      have : cutV vs l u = vs := by
        unfold cutV
        rw [hw.1, hw.2, List.drop_zero, Nat.sub_zero, List.take_length]
      rw [this] at hc
      exact hc
    · obtain ⟨gn, iv⟩ := go_new_tup g.gh hr (isl_cut l u i)
      exact q _ _ _ (g.trans gn) iv
  · split at e6
    · rename_i hz
      cases e6
      cases i3.str
      exact .inr (.inr ⟨_, rfl, sz5 hz, q _ G3 H3 g (.str _)⟩)
    · cases e6
  · cases e6
end
/-! ### built-ins -/
section
variable {K : PySem.W.Frag} {X : Cx}
/-- one of two rules of a call -/
theorem call_or {fv : Value} {ra rb : List V → Hp → VK → Prop} (ha : CallR X fv ra) (hb : CallR X fv rb) :
    CallR X fv fun ws Hz Qz => ra ws Hz Qz ∨ rb ws Hz Qz :=
  fun pn sz σz Hz ws vz Qz Iz rz qz => qz.elim (fun q1 => ha pn sz σz Hz ws vz Qz Iz rz q1) fun q2 => hb pn sz σz Hz ws vz Qz Iz rz q2
def lenD : List D → Option D
  | [.str s] => if s.length ≤ 100000 then some (.int s.length) else none
  | [.lst ds] => some (.int ds.length)
  | [.scr ds] => some (.int ds.length)
  | [.tup ds] => some (.int ds.length)
  | [.dic ks _] => some (.int ks.length)
  | _ => none
def rLenA (K : PySem.W.Frag) : List V → Hp → VK → Prop := fun xs H Q => (∃ x n, xs = [x] ∧ LenV K x H n ∧ Q (.int n) H) ∨ ∃ a kvs, xs = [V.ref a] ∧ H a = some (.dK kvs) ∧ Q (.int kvs.length) H
theorem call_lenA (hK : X.K = K) : CallR X (.builtin "len") (rLenA K) := by subst hK; exact CallR.or call_len call_lenD
theorem rc_len : RCl K (rLenA K) lenD := fun G H vs ds z Q gh h hz q => by
  unfold lenD at hz
  split at hz
  · split at hz
    · rename_i hl
      cases hz
      obtain ⟨v, rfl, i⟩ := h.one
      cases i.str
      exact .inl ⟨_, _, rfl, ⟨sz5 hl, rfl⟩, q _ G H (Go.refl gh) (.int _)⟩
    · cases hz
  · cases hz
    obtain ⟨v, rfl, i⟩ := h.one
    obtain ⟨p, ws, rfl, s1, i1⟩ := i.lst gh
    exact .inl ⟨_, _, rfl, .inl ⟨ws, SqL.of s1, rfl⟩, by rw [i1.len]; exact q _ G H (Go.refl gh) (.int _)⟩
  · cases hz
    obtain ⟨v, rfl, i⟩ := h.one
    obtain ⟨p, ws, rfl, s1, i1⟩ := i.scr gh
    exact .inl ⟨_, _, rfl, .inl ⟨ws, s1, rfl⟩, by rw [i1.len]; exact q _ G H (Go.refl gh) (.int _)⟩
  · cases hz
    obtain ⟨v, rfl, i⟩ := h.one
    obtain ⟨p, ws, rfl, _, s1, i1⟩ := i.tup gh
    exact .inl ⟨_, _, rfl, .inr ⟨ws, s1, rfl⟩, by rw [i1.len]; exact q _ G H (Go.refl gh) (.int _)⟩
  · cases hz
    obtain ⟨v, rfl, i⟩ := h.one
    obtain ⟨p, kvs, rfl, s1, hk, i1⟩ := i.dic gh
    refine .inr ⟨_, _, rfl, s1, ?_⟩
    rw [← hk, List.length_map] at q
    exact q _ G H (Go.refl gh) (.int _)
  · cases hz
def intD : List D → Option D
  | [.int i] => some (.int i)
  | [.bl b] => some (.int (if b then 1 else 0))
  | _ => none
theorem rc_int : RCl K (fun xs H Q => (∃ i, xs = [.int i] ∧ Q (.int i) H) ∨ ∃ k, xs = [.bl k] ∧ Q (.int (if k then 1 else 0)) H) intD := fun G H vs ds z Q gh h hz q => by
  unfold intD at hz
  split at hz
  · cases hz
    obtain ⟨v, rfl, i⟩ := h.one
    cases i.int
    exact .inl ⟨_, rfl, q _ G H (Go.refl gh) (.int _)⟩
  · cases hz
    obtain ⟨v, rfl, i⟩ := h.one
    cases i.bl
    exact .inr ⟨_, rfl, q _ G H (Go.refl gh) (.int _)⟩
  · cases hz
def strOfD : List D → Option D
  | [.int i] => if i.natAbs.log2 < 1920 then some (.str (toString i)) else none
  | _ => none
theorem rc_str : RCl K (fun xs H Q => ∃ i, xs = [.int i] ∧ i.natAbs.log2 < 1920 ∧ Q (.str (toString i)) H) strOfD := fun G H vs ds z Q gh h hz q => by
  unfold strOfD at hz
  split at hz
  · split at hz
    · rename_i hl
      cases hz
      obtain ⟨v, rfl, i⟩ := h.one
      cases i.int
      exact ⟨_, rfl, hl, q _ G H (Go.refl gh) (.str _)⟩
    · cases hz
  · cases hz
def minD : List D → Option D
  | [.int i, .int j] => some (.int (if j < i then j else i))
  | _ => none
def maxD : List D → Option D
  | [.int i, .int j] => some (.int (if j > i then j else i))
  | _ => none
theorem rc_min : RCl K (fun xs H Q => ∃ i j, xs = [.int i, .int j] ∧ Q (.int (if j < i then j else i)) H) minD := fun G H vs ds z Q gh h hz q => by
  unfold minD at hz
  split at hz
  · cases hz
    obtain ⟨v, w, rfl, i, j⟩ := h.two
    cases i.int; cases j.int
    exact ⟨_, _, rfl, q _ G H (Go.refl gh) (.int _)⟩
  · cases hz
theorem rc_max : RCl K (fun xs H Q => ∃ i j, xs = [.int i, .int j] ∧ Q (.int (if j > i then j else i)) H) maxD := fun G H vs ds z Q gh h hz q => by
  unfold maxD at hz
  split at hz
  · cases hz
    obtain ⟨v, w, rfl, i, j⟩ := h.two
    cases i.int; cases j.int
    exact ⟨_, _, rfl, q _ G H (Go.refl gh) (.int _)⟩
  · cases hz
def tupleD : List D → Option D
  | [.lst ds] => some (.tup ds)
  | [.scr ds] => some (.tup ds)
  | [.tup ds] => some (.tup ds)
  | _ => none
theorem call_tupleK (hK : X.K = K) : CallR X (.type "tuple") (fun xs H Q => ∃ p ys, xs = [.ref p] ∧ ((SqL K H p ys ∧ ∀ l, H l = none → Q (.ref l) (upd H l (.tup ys))) ∨ (SqT K H p ys ∧ Q (.ref p) H))) := by subst hK; exact call_tuple_of
theorem rc_tuple : RCl K (fun xs H Q => ∃ p ys, xs = [.ref p] ∧ ((SqL K H p ys ∧ ∀ l, H l = none → Q (.ref l) (upd H l (.tup ys))) ∨ (SqT K H p ys ∧ Q (.ref p) H))) tupleD := fun G H vs ds z Q gh h hz q => by
  unfold tupleD at hz
  split at hz
  · cases hz
    obtain ⟨v, rfl, i⟩ := h.one
    obtain ⟨p, ws, rfl, s1, i1⟩ := i.lst gh
    refine ⟨p, ws, rfl, .inl ⟨SqL.of s1, fun r hr => ?_⟩⟩
    obtain ⟨gn, iv⟩ := go_new_tup gh hr i1
    exact q _ _ _ gn iv
  · cases hz
    obtain ⟨v, rfl, i⟩ := h.one
    obtain ⟨p, ws, rfl, s1, i1⟩ := i.scr gh
    refine ⟨p, ws, rfl, .inl ⟨s1, fun r hr => ?_⟩⟩
    obtain ⟨gn, iv⟩ := go_new_tup gh hr i1
    exact q _ _ _ gn iv
  · cases hz
    obtain ⟨v, rfl, i⟩ := h.one
    obtain ⟨p, ws, rfl, s0, s1, i1⟩ := i.tup gh
    exact ⟨p, ws, rfl, .inr ⟨s1, q _ G H (Go.refl gh) (.tup s0 i1)⟩⟩
  · cases hz
def listD : List D → Option (List D)
  | [.lst ds] => some ds
  | [.scr ds] => some ds
  | [.tup ds] => some ds
  | _ => none
def rList (K : PySem.W.Frag) : List V → Hp → VK → Prop := fun xs H Q => ∃ p ys, xs = [.ref p] ∧ (SqL K H p ys ∨ SqT K H p ys) ∧ ∀ l, H l = none → Q (.ref l) (upd H l (.lst ys))
theorem call_listK (hK : X.K = K) : CallR X (.type "list") (rList K) := by subst hK; exact call_list_of
theorem listD_at {G H : Hp} {vs : List V} {ds es : List D} (gh : Same G H) (h : IsRL K G H vs ds) (e : listD ds = some es) : ∃ p ys, vs = [.ref p] ∧ (SqL K H p ys ∨ SqT K H p ys) ∧ IsL K G ys es := by
  unfold listD at e
  split at e
  · cases e
    obtain ⟨v, rfl, i⟩ := h.one
    obtain ⟨p, ws, rfl, s1, i1⟩ := i.lst gh
    exact ⟨p, ws, rfl, .inl (SqL.of s1), i1⟩
  · cases e
    obtain ⟨v, rfl, i⟩ := h.one
    obtain ⟨p, ws, rfl, s1, i1⟩ := i.scr gh
    exact ⟨p, ws, rfl, .inl s1, i1⟩
  · cases e
    obtain ⟨v, rfl, i⟩ := h.one
    obtain ⟨p, ws, rfl, _, s1, i1⟩ := i.tup gh
    exact ⟨p, ws, rfl, .inr s1, i1⟩
  · cases e
theorem tf_list {ta : TA} {ms : En → Option (List D)} (h : TAr K ta ms) : TF K (tCB (rList K) ta) (fun env => (ms env).bind listD) := fun H0 env σ H G es Q rp e q => by
  obtain ⟨ds, e1, e2⟩ := bind_some_of e
  refine h H0 env σ H G ds _ rp e1 fun vs G1 H1 g1 i1 => ?_
  obtain ⟨p, ys, rfl, s1, i2⟩ := listD_at g1.gh i1 e2
  refine ⟨p, ys, rfl, s1, fun l hl => ?_⟩
  have nl := g1.gh.free hl
  refine q l ys G1 _ ⟨g1.s, g1.g, fun a u n => ?_, fun a u n e => ?_⟩ (g1.same.free hl) nl upd_same i2
  · rw [upd_ne (ne_of_none n nl)]; exact g1.gh a u n
  · obtain ⟨n1, e3⟩ := g1.out a u n e
    exact ⟨n1, by rw [upd_ne (ne_of_none e3 hl)]; exact e3⟩
/-- isinstance(x, str | tuple | int | bool) -/
def tyD : D → String
  | .non => "NoneType"
  | .bl _ => "bool"
  | .int _ => "int"
  | .str _ => "str"
  | .tup _ => "tuple"
  | .lst _ => "list"
  | .scr _ => "list"
  | .dic _ _ => "dict"
  | .obj _ _ _ => "object"
def D.isObj : D → Bool
  | .obj _ _ _ => true
  | _ => false
theorem tyx_of {G H : Hp} {v : V} {d : D} (gh : Same G H) (h : IsR K G H v d) (ho : d.isObj = false) : TyX K H v (.type (tyD d)) := by
  have tl : ∀ {p : Addr} {vs : List V}, SqL K H p vs → TyX K H (.ref p) (.type "list") := fun {p vs} s => by
    rcases s with (s | ⟨o, s⟩) | ⟨o, its, n, e, c, _⟩
    · exact .base (.lst s)
    · exact .base (.frz s)
    · exact .kList e c
  cases d with
  | non => cases h.non; exact .base .non
  | bl b => cases h.bl; exact .base (.bl b)
  | int i => cases h.int; exact .base (.int i)
  | str s => cases h.str; exact .base (.str s)
  | tup ds =>
    obtain ⟨p, vs, rfl, _, s, _⟩ := h.tup gh
    rcases s with (s | ⟨o, s⟩) | ⟨o, its, n, e, c, _⟩
    · exact .base (.tup s)
    · exact .fTuple s
    · exact .kTuple e c
  | lst ds => obtain ⟨p, vs, rfl, s, _⟩ := h.lst gh; exact tl (SqL.of s)
  | scr ds => obtain ⟨p, vs, rfl, s, _⟩ := h.scr gh; exact tl s
  | dic ks ds => obtain ⟨p, vs, rfl, s, _⟩ := h.dic gh; exact .base (.dK s)
  | obj c xs ds => cases ho
def isiD (T : String) (d : D) : Option D := if d.isObj = true then none else (kitB (tyD d) T).bind fun b => some (.bl b)
theorem de_isi {e : Expr} {te : TE} {m : En → Option D} {T : Str} {Tn : String} {p p2 pos : Pos} (h : DR X K e te m) (hg : Gl X "isinstance") (hm : X.mg "isinstance" = none) (hg2 : Gl X T) (hm2 : X.mg T = none) (hv : bootBuiltins T = some (.type Tn)) (hn : T ≠ "__name__" := by decide) (hd : (T == ("__debug__" : Str)) = false := by decide) (hK : X.K = K := by rfl)
    (hs : starEach (e :: [.Name T p2]) X.env = (false, eval e X.env) :: starEach [.Name T p2] X.env := by rfl) (hs2 : starEach [.Name T p2] X.env = (false, eval (.Name T p2) X.env) :: starEach [] X.env := by rfl) (hpl : (backTo pos (starEach [.Name T p2] X.env)).any (·.1) = false := by rfl) :
    DE X K (.Call (.Name "isinstance" p) [e, .Name T p2] [] pos) (tCB (rIsi K) (tCons te (tCons (tC (.ty Tn)) tNil))) (fun env => (m env).bind (isiD Tn)) := by
  subst hK
  refine ⟨pe_callB call_isi hg hm PyProof.Rows.boot_isinstance (pa_cons h.p (pa_cons (pe_bltn hg2 hm2 hv rfl hn hd) pa_nil hs2) hs) (by decide) (by decide) hs hpl, fun H0 env σ H G z Q rp e q => ?_⟩
  obtain ⟨d, e1, e2⟩ := bind_some_of e
  unfold isiD at e2
  split at e2
  · cases e2
  · rename_i ho
    obtain ⟨b, e3, e4⟩ := bind_some_of e2
    cases e4
    exact h.d H0 env σ H G d _ rp e1 fun v G1 H1 g1 i1 => ⟨v, .ty Tn, _, _, b, rfl, .ty Tn, tyx_of g1.gh i1 (Bool.eq_false_iff.mpr ho), kit_ty e3, q _ G1 H1 g1 (.bl b)⟩
/-- d.get(k), d.get(k, x) -/
def get1D (d k : D) : Option D := match d with
  | .dic ks ds => (keyD k).bind fun k => some ((lookD ks ds k).getD .non)
  | _ => none
def get2D (d k x : D) : Option D := match d with
  | .dic ks ds => (keyD k).bind fun k => some ((lookD ks ds k).getD x)
  | _ => none
variable {o e f : Expr} {to te tf : TE} {mo me mf : En → Option D} {apos cpos : Pos}
theorem de_get1 (hu : X.A.units + 1 < cLine) (ho : DR X K o to mo) (he : DR X K e te me) (m : M1 X o "get" apos e cpos) : DE X K (.Call (.Attribute o "get" apos) [e] [] cpos) (tDGet1 to te) (bind2 mo me get1D) := by
  refine ⟨pe_dget1 hu ho.p he.p m, fun H0 env σ H G z Q rp e q => ?_⟩
  obtain ⟨d, k, e1, e2, e3⟩ := bind2_some e
  refine ho.d H0 env σ H G d _ rp e1 fun v G1 H1 g1 i1 => ?_
  unfold get1D at e3
  split at e3
  · obtain ⟨kk, e4, e5⟩ := bind_some_of e3
    cases e5
    obtain ⟨p, kvs, rfl, s1, hk, i⟩ := i1.dic g1.gh
    refine ⟨p, rfl, .inl ⟨kvs, .inl s1⟩, ?_⟩
    refine he.d H0 env σ H1 G1 k _ (rp.go g1) e2 fun w G2 H2 g2 i2 => ?_
    have s2 := g2.same _ _ s1
    rw [keyD_is i2 e4]
    refine ⟨_, DGet.k s2, ?_⟩
    rcases lookD_val (k := kk) hk i with ⟨a1, a2⟩ | ⟨d', v', a1, a2, a3⟩
    · rw [a2]; rw [a1] at q; exact q _ G2 H2 (g1.trans g2) .non
    · rw [a2]; rw [a1] at q; exact q _ G2 H2 (g1.trans g2) (a3.mono g2.g)
  · cases e3
def bind3 (ma mb mc : En → Option D) (f : D → D → D → Option D) (env : En) : Option D := (ma env).bind fun d => (mb env).bind fun e => (mc env).bind fun g => f d e g
theorem de_get2 (hu : X.A.units + 1 < cLine) (ho : DR X K o to mo) (he : DR X K e te me) (hf : DE X K f tf mf) (m : M2 X o "get" apos e f cpos) : DE X K (.Call (.Attribute o "get" apos) [e, f] [] cpos) (tDGet2 to te tf) (bind3 mo me mf get2D) := by
  refine ⟨pe_dget2 hu ho.p he.p hf.p m, fun H0 env σ H G z Q rp e q => ?_⟩
  obtain ⟨d, e1, e⟩ := bind_some_of e
  obtain ⟨k, e2, e⟩ := bind_some_of e
  obtain ⟨x, e6, e3⟩ := bind_some_of e
  refine ho.d H0 env σ H G d _ rp e1 fun v G1 H1 g1 i1 => ?_
  unfold get2D at e3
  split at e3
  · obtain ⟨kk, e4, e5⟩ := bind_some_of e3
    cases e5
    obtain ⟨p, kvs, rfl, s1, hk, i⟩ := i1.dic g1.gh
    refine ⟨p, rfl, .inl ⟨kvs, .inl s1⟩, ?_⟩
    refine he.d H0 env σ H1 G1 k _ (rp.go g1) e2 fun w G2 H2 g2 i2 => ?_
    refine hf.d H0 env σ H2 G2 x _ (rp.go (g1.trans g2)) e6 fun u G3 H3 g3 i3 => ?_
    have s3 := (g2.trans g3).same _ _ s1
    rw [keyD_is i2 e4]
    refine ⟨_, DGet.k s3, ?_⟩
    rcases lookD_val (k := kk) hk i with ⟨a1, a2⟩ | ⟨d', v', a1, a2, a3⟩
    · rw [a2]; rw [a1] at q; exact q _ G3 H3 ((g1.trans g2).trans g3) i3
    · rw [a2]; rw [a1] at q; exact q _ G3 H3 ((g1.trans g2).trans g3) (a3.mono (g2.trans g3).g)
  · cases e3
end
end Dl

set_option Elab.async false
set_option linter.all false
set_option maxRecDepth 100000
set_option maxHeartbeats 2000000
/-! Values as data: own lists and dicts that change, comprehensions of dicts, assignments. -/
namespace Dl
open PySem PySem.Spec PyProof.Rows L2
section
variable {K : PySem.W.Frag} {H0 G0 G H G' H' : Hp} {env : En} {σ : L2.St}
/-- a new own thing at p goes to slot i -/
theorem Rp.setOwn {p : Addr} {s : Sl} {o : HO} (r : Rp K H0 G env σ H) (i : Nat) (g : Go G H G' H') (hp : H p = none) (hs : s.isOwn = true) (ok : SlOk K G' H0 H' (.ref p) s) : Rp K H0 G' (env.set i (some s)) (σ.set i (some (.ref p))) H' := by
  have r' := r.go g
  have back : ∀ (k : Nat) (s1 : Sl), k ≠ i → (env.set i (some s))[k]? = some (some s1) → env[k]? = some (some s1) := fun k s1 hk e => by
    rw [List.getElem?_set_ne (Ne.symm hk)] at e
    exact e
  have far : ∀ (k : Nat) (s1 : Sl) (v : V), env[k]? = some (some s1) → s1.isOwn = true → σ[k]? = some (some v) → v ≠ .ref p := fun k s1 v e o hv z => by
    subst z
    obtain ⟨w, h1, h2⟩ := r.sl k s1 e
    rw [hv] at h1
    cases h1
    cases s1 with
    | val d => cases o
    | own ds =>
      obtain ⟨q, vs, e2, _, _, e5, _⟩ := h2
      cases e2
      rw [hp] at e5
      cases e5
    | ownd ks ds =>
      obtain ⟨q, vs, e2, _, _, e5, _⟩ := h2
      cases e2
      rw [hp] at e5
      cases e5
    | owni q c xs ds =>
      obtain ⟨dx, vs, e2, _, _, e5, _⟩ := h2
      cases e2
      rw [hp] at e5
      cases e5
  refine ⟨g.gh, by rw [List.length_set, List.length_set]; exact r.len, fun k s1 e => ?_, fun a b s1 s2 w hab ha hb o1 o2 hw => ?_⟩
  · by_cases hk : k = i
    · subst hk
      have hlt : k < env.length := by
        have := (List.getElem?_eq_some_iff.mp e).1
        rwa [List.length_set] at this
      rw [List.getElem?_set_self hlt] at e
      cases e
      exact ⟨_, by rw [List.getElem?_set_self (by rw [r.len]; exact hlt)], ok⟩
    · obtain ⟨w, h1, h2⟩ := r'.sl k s1 (back k s1 hk e)
      exact ⟨w, by rw [List.getElem?_set_ne (Ne.symm hk)]; exact h1, h2⟩
  · by_cases hai : a = i
    · subst hai
      have hbi : b ≠ a := Ne.symm hab
      have hlt : a < σ.length := by
        have := (List.getElem?_eq_some_iff.mp ha).1
        rw [List.length_set] at this
        rw [r.len]; exact this
      rw [List.getElem?_set_self hlt] at hw
      cases hw
      rw [List.getElem?_set_ne (Ne.symm hbi)]
      intro hb2
      exact far b s2 _ (back b s2 hbi hb) o2 hb2 rfl
    · rw [List.getElem?_set_ne (Ne.symm hai)] at hw
      by_cases hbi : b = i
      · subst hbi
        have hlt : b < σ.length := by
          have := (List.getElem?_eq_some_iff.mp hb).1
          rw [List.length_set] at this
          rw [r.len]; exact this
        rw [List.getElem?_set_self hlt]
        intro hz
        cases hz
        exact far a s1 _ (back a s1 hai ha) o1 hw rfl
      · rw [List.getElem?_set_ne (Ne.symm hbi)]
        exact r.dis a b s1 s2 w hab (back a s1 hai ha) (back b s2 hbi hb) o1 o2 hw
/-- the own thing in slot i changes -/
theorem Rp.mut {p : Addr} {s s' : Sl} {o : HO} {i : Nat} (r : Rp K H0 G env σ H) (he : env[i]? = some (some s)) (hσ : σ[i]? = some (some (.ref p))) (hs : s.isOwn = true) (hs' : s'.isOwn = true) (gp : G p = none) (ok : SlOk K G H0 (upd H p o) (.ref p) s') : Rp K H0 G (env.set i (some s')) σ (upd H p o) := by
  have hlt : i < env.length := (List.getElem?_eq_some_iff.mp he).1
  have back : ∀ (k : Nat) (s1 : Sl), (env.set i (some s'))[k]? = some (some s1) → ∃ s0, env[k]? = some (some s0) ∧ (k ≠ i → s0 = s1) ∧ (s1.isOwn = true → s0.isOwn = true) := fun k s1 e => by
    by_cases hk : k = i
    · subst hk
      rw [List.getElem?_set_self hlt] at e
      cases e
      exact ⟨s, he, fun z => absurd rfl z, fun _ => hs⟩
    · rw [List.getElem?_set_ne (Ne.symm hk)] at e
      exact ⟨s1, e, fun _ => rfl, fun z => z⟩
  refine ⟨fun a u e => ?_, by rw [List.length_set]; exact r.len, fun k s1 e => ?_, fun a b s1 s2 w hab ha hb o1 o2 => ?_⟩
  · rw [upd_ne (ne_of_none e gp)]; exact r.gh a u e
  · by_cases hk : k = i
    · subst hk
      rw [List.getElem?_set_self hlt] at e
      cases e
      exact ⟨_, hσ, ok⟩
    · rw [List.getElem?_set_ne (Ne.symm hk)] at e
      obtain ⟨v, h1, h2⟩ := r.sl k s1 e
      refine ⟨v, h1, ?_⟩
      cases s1 with
      | val d => exact h2
      | own ds =>
        obtain ⟨q, vs, e2, e3, e4, e5, e6⟩ := h2
        have hq : q ≠ p := fun z => by
          subst z e2
          exact r.dis i k s _ _ (Ne.symm hk) he e hs rfl hσ h1
        exact ⟨q, vs, e2, e3, e4, by rw [upd_ne hq]; exact e5, e6⟩
      | ownd ks ds =>
        obtain ⟨q, vs, e2, e3, e4, e5, e6⟩ := h2
        have hq : q ≠ p := fun z => by
          subst z e2
          exact r.dis i k s _ _ (Ne.symm hk) he e hs rfl hσ h1
        exact ⟨q, vs, e2, e3, e4, by rw [upd_ne hq]; exact e5, e6⟩
      | owni q c xs ds =>
        obtain ⟨dx, vs, e2, e3, e4, e5, e6⟩ := h2
        have hq : q ≠ p := fun z => by
          subst z e2
          exact r.dis i k s _ _ (Ne.symm hk) he e hs rfl hσ h1
        exact ⟨dx, vs, e2, e3, e4, by rw [upd_ne hq]; exact e5, e6⟩
  · obtain ⟨t1, a1, _, a3⟩ := back a s1 ha
    obtain ⟨t2, b1, _, b3⟩ := back b s2 hb
    exact r.dis a b t1 t2 w hab a1 b1 (a3 o1) (b3 o2)
theorem Go.mut {p : Addr} {o : HO} (g : Go G0 H0 G H) (gp : G p = none) (h0 : H0 p = none) : Go G0 H0 G (upd H p o) := by
  refine ⟨g.s, g.g, fun a u e => ?_, fun a u n e => ?_⟩
  · rw [upd_ne (ne_of_none e gp)]; exact g.gh a u e
  · obtain ⟨n1, e1⟩ := g.out a u n e
    exact ⟨n1, by rw [upd_ne (ne_of_none e h0)]; exact e1⟩
end
section
variable {X : Cx} {K : PySem.W.Frag} {e o a : Expr} {te to ti tv : TE} {pos pos' apos cpos : Pos} {m mi : En → Option D} {ms : En → Option (List D)}
/-- x = a new list, x an own one from here on -/
def setOwnM (i : Nat) (ms : En → Option (List D)) (env : En) : Option Out := (ms env).bind fun ds => some (.nx (env.set i (some (.own ds))))
theorem tsm_setOwn (i : Nat) (h : TF K te ms) : TSm K (tAsg te (gName i)) (setOwnM i ms) := fun G0 H0 env σ H G o Dn r g e f => by
  obtain ⟨ds, e1, e2⟩ := bind_some_of e
  cases e2
  exact h H0 env σ H G ds _ r e1 fun p vs G1 H1 g1 hp np e3 i1 => f _ G1 H1 (r.setOwn (o := .lst vs) i g1 hp rfl ⟨p, vs, rfl, g.same.free hp, np, e3, i1⟩) (g.trans g1) g1.g
theorem ds_setOwn (i : Nat) {x : Str} (h : DF1 X K e te ms) (hN : X.N.Nodup) (hi : X.N[i]? = some x := by rfl) (hx : Loc X.env.scope x := by first | exact Or.inl rfl | exact Or.inr rfl) (hs : swapsWith e (some (.Name x pos')) pos.line X.env = pure false := by rfl)
    (hf : X.fn x = true ∨ X.env.scope.names.lookup x = some .local := by first | exact .inl rfl | exact .inr rfl) : DS X K (.Assign [.Name x pos'] e pos) (tAsg te (gName i)) (setOwnM i ms) := ⟨ps_set hN hi hx h.p hs hf, tsm_setOwn i h.d⟩
/-- x = [..] of a comprehension (stored within its frame) -/
structure PLc (X : Cx) (e : Expr) (t : TE) : Prop where
  st : ∀ (i : Nat) (y : Str) (py spos : Pos), X.N[i]? = some y → X.env.scope.names.lookup y = some .local → swapsWith e (some (.Name y py)) spos.line X.env = pure true → PS X (.Assign [.Name y py] e spos) (tAsg t (gName i))
structure DLc (X : Cx) (K : PySem.W.Frag) (e : Expr) (t : TE) (m : En → Option (List D)) : Prop extends DF1 X K e t m where
  st : PLc X e t
theorem ds_setLc (i : Nat) {y : Str} {py spos : Pos} (h : DLc X K e te ms) (hi : X.N[i]? = some y := by rfl) (hy : X.env.scope.names.lookup y = some .local := by rfl) (hs : swapsWith e (some (.Name y py)) spos.line X.env = pure true := by exact sw_true rfl rfl rfl (by decide +kernel)) :
    DS X K (.Assign [.Name y py] e spos) (tAsg te (gName i)) (setM i (asLst ms)) := ⟨h.st.st i y py spos hi hy hs, tsm_set i h.d.d⟩
theorem ds_setLcOwn (i : Nat) {y : Str} {py spos : Pos} (h : DLc X K e te ms) (hi : X.N[i]? = some y := by rfl) (hy : X.env.scope.names.lookup y = some .local := by rfl) (hs : swapsWith e (some (.Name y py)) spos.line X.env = pure true := by exact sw_true rfl rfl rfl (by decide +kernel)) :
    DS X K (.Assign [.Name y py] e spos) (tAsg te (gName i)) (setOwnM i ms) := ⟨h.st.st i y py spos hi hy hs, tsm_setOwn i h.d⟩
/-- displays are new lists -/
theorem tf_lst {ta : TA} (h : TAd K ta ms) : TF K (tLst ta) (fun env => (ms env).bind fun ds => if ds.length ≤ 100000 then some ds else none) := fun H0 env σ H G d Q r e q => by
  obtain ⟨ds, e1, e⟩ := bind_some_of e
  split at e
  · cases e
    rename_i hz
    refine h H0 env σ H G _ _ r e1 fun vs G1 H1 g1 i1 => ⟨?_, fun p hp => ?_⟩
    · rw [i1.len]; exact Nat.le_trans hz (by decide)
    · have nl := g1.gh.free hp
      refine q p vs G1 _ ⟨g1.s, g1.g, fun a u n => ?_, fun a u n e => ?_⟩ (g1.same.free hp) nl upd_same i1
      · rw [upd_ne (ne_of_none n nl)]; exact g1.gh a u n
      · obtain ⟨n1, e3⟩ := g1.out a u n e
        exact ⟨n1, by rw [upd_ne (ne_of_none e3 hp)]; exact e3⟩
  · cases e
theorem df_lst {es : List Expr} {ta : TA} (h : DA X K es ta ms) : DF1 X K (.List es pos) (tLst ta) (fun env => (ms env).bind fun ds => if ds.length ≤ 100000 then some ds else none) := ⟨pe_lst h.p, tf_lst h.d⟩
theorem df_list {p : Pos} {ta : TA} {e : Expr} {es : List Expr} (hg : Gl X "list") (hm : X.mg "list" = none) (ha : DAr X K (e :: es) ta ms) (hK : X.K = K := by rfl)
    (he : starEach (e :: es) X.env = (false, eval e X.env) :: starEach es X.env := by rfl) (hpl : (backTo pos (starEach es X.env)).any (·.1) = false := by rfl) : DF1 X K (.Call (.Name "list" p) (e :: es) [] pos) (tCB (rList K) ta) (fun env => (ms env).bind listD) :=
  ⟨pe_callTy (call_listK hK) hg hm PyProof.Rows.boot_list ha.p (by decide) (by decide) he hpl, tf_list ha.d⟩
/-- x = {} -/
theorem ds_setDict (i : Nat) {x : Str} {p2 : Pos} (hN : X.N.Nodup) (hi : X.N[i]? = some x := by rfl) (hx : Loc X.env.scope x := by first | exact Or.inl rfl | exact Or.inr rfl) (hs : swapsWith (.Dict [] [] p2) (some (.Name x pos')) pos.line X.env = pure false := by rfl)
    (hf : X.fn x = true ∨ X.env.scope.names.lookup x = some .local := by first | exact .inl rfl | exact .inr rfl) : DS X K (.Assign [.Name x pos'] (.Dict [] [] p2) pos) (tAsg tDNewK (gName i)) (fun env => some (.nx (env.set i (some (.ownd [] []))))) :=
  ⟨ps_set hN hi hx pe_dnewK hs hf, fun G0 H0 env σ H G o Dn r g e f => by
    cases e
    intro p hp
    have nl := r.gh.free hp
    have g1 : Go G H G (upd H p (.dK [])) := ⟨r.gh, Same.refl G, fun a u n => by rw [upd_ne (ne_of_none n nl)]; exact r.gh a u n, fun a u n e => ⟨n, by rw [upd_ne (ne_of_none e hp)]; exact e⟩⟩
    exact f _ G _ (r.setOwn (o := .dK []) i g1 hp rfl ⟨p, [], rfl, g.same.free hp, nl, upd_same, rfl, .nil⟩) (g.trans g1) (Same.refl G)⟩
/-- slot i's own list -/
def ownAt (i : Nat) (env : En) : Option (List D) := match env[i]? with
  | some (some (.own ds)) => some ds
  | _ => none
theorem ownAt_some {i : Nat} {env : En} {ds : List D} (h : ownAt i env = some ds) : env[i]? = some (some (.own ds)) := by
  unfold ownAt at h
  split at h
  · cases h; assumption
  · cases h
def owndAt (i : Nat) (env : En) : Option (List Key × List D) := match env[i]? with
  | some (some (.ownd ks ds)) => some (ks, ds)
  | _ => none
theorem owndAt_some {i : Nat} {env : En} {ks : List Key} {ds : List D} (h : owndAt i env = some (ks, ds)) : env[i]? = some (some (.ownd ks ds)) := by
  unfold owndAt at h
  split at h
  · cases h; assumption
  · cases h
/-- x.append(e) -/
def appM (i : Nat) (m : En → Option D) (env : En) : Option Out := (ownAt i env).bind fun ds => (m env).bind fun d => if ds.length < 100000 then some (.nx (env.set i (some (.own (ds ++ [d]))))) else none
theorem ds_append (i : Nat) {x : Str} {p : Pos} (h : DE X K e te m) (hK : X.K = K := by rfl) (hN : X.N[i]? = some x := by rfl) (hv : Vis X.env.scope x := by first | exact Or.inl rfl | exact Or.inr (Or.inl rfl) | exact Or.inr (Or.inr rfl)) (hd : (x == ("__debug__" : Str)) = false := by decide) (hcd : (x == ("__classdict__" : Str)) = false := by decide)
    (hbase : attributeBase (.Name x p) "append" X.env (eval (.Name x p) X.env) = eval (.Name x p) X.env := by rfl)
    (hfew : ((backTo cpos (starEach (e :: []) X.env)).all (fun x => !x.1) && (backToKw cpos (keywordEach [] X.env)).all (fun x => x.1.isSome) && decide ((e :: ([] : List Expr)).length + ([] : List Keyword).length + (if ([] : List Keyword).isEmpty then 0 else 1) < 30)) = true := by rfl)
    (hline : (apos.endLine == cpos.line) = true := by rfl) (hst : starEach (e :: []) X.env = (false, eval e X.env) :: starEach [] X.env := by rfl) (hplain : (backTo cpos (starEach [] X.env)).any (·.1) = false := by rfl)
    (hs : swapsWith (.Call (.Attribute (.Name x p) "append" apos) [e] [] cpos) none pos.line X.env = pure false := by rfl) :
    DS X K (.Expr (.Call (.Attribute (.Name x p) "append" apos) [e] [] cpos) pos) (tDrop (tBM K "list" rAppend (tVar i) (tCons te tNil))) (appM i m) := by
  subst hK
  refine ⟨ps_expr (pe_bm PySem.F.plainAttrs_list PySem.F.slot_list_append PySem.F.type_list_append mt_append (pe_var hN hv hd hcd) (pa_cons h.p pa_nil hst) hbase hfew hline hst hplain) hs, fun G0 H0 env σ H G o Dn r g e f => ?_⟩
  obtain ⟨ds, e1, e2⟩ := bind_some_of e
  obtain ⟨d, e3, e4⟩ := bind_some_of e2
  split at e4
  · rename_i hz
    cases e4
    have he := ownAt_some e1
    obtain ⟨v, hσ, p, vs, rfl, a2, a3, a4, a5⟩ := r.sl i _ he
    refine ⟨_, hσ, .inl ⟨rfl, vs, SqL.of a4⟩, ?_⟩
    refine h.d H0 env σ H G d _ r e3 fun y G1 H1 g1 i1 => ?_
    obtain ⟨n1, q1⟩ := g1.out p _ a3 a4
    refine ⟨p, vs, y, rfl, rfl, q1, ?_, ?_⟩
    · rw [a5.len]; exact Nat.lt_of_lt_of_le hz (by decide)
    · exact f σ G1 _ ((r.go g1).mut he hσ rfl rfl n1 ⟨p, vs ++ [y], rfl, a2, n1, upd_same, (a5.mono g1.g).append (.cons i1 .nil)⟩) ((g.trans g1).mut n1 a2) g1.g
  · cases e4
/-- x.extend(e), e a list -/
def lst1 : D → Option (List D)
  | .lst ds => some ds
  | _ => none
def extM (i : Nat) (m : En → Option D) (env : En) : Option Out := (ownAt i env).bind fun ds => (m env).bind fun d => (lst1 d).bind fun es => if ds.length + es.length ≤ 100000 then some (.nx (env.set i (some (.own (ds ++ es))))) else none
theorem ds_extend (i : Nat) {x : Str} {p : Pos} (h : DE X K e te m) (hK : X.K = K := by rfl) (hN : X.N[i]? = some x := by rfl) (hv : Vis X.env.scope x := by first | exact Or.inl rfl | exact Or.inr (Or.inl rfl) | exact Or.inr (Or.inr rfl)) (hd : (x == ("__debug__" : Str)) = false := by decide) (hcd : (x == ("__classdict__" : Str)) = false := by decide)
    (hbase : attributeBase (.Name x p) "extend" X.env (eval (.Name x p) X.env) = eval (.Name x p) X.env := by rfl)
    (hfew : ((backTo cpos (starEach (e :: []) X.env)).all (fun x => !x.1) && (backToKw cpos (keywordEach [] X.env)).all (fun x => x.1.isSome) && decide ((e :: ([] : List Expr)).length + ([] : List Keyword).length + (if ([] : List Keyword).isEmpty then 0 else 1) < 30)) = true := by rfl)
    (hline : (apos.endLine == cpos.line) = true := by rfl) (hst : starEach (e :: []) X.env = (false, eval e X.env) :: starEach [] X.env := by rfl) (hplain : (backTo cpos (starEach [] X.env)).any (·.1) = false := by rfl)
    (hs : swapsWith (.Call (.Attribute (.Name x p) "extend" apos) [e] [] cpos) none pos.line X.env = pure false := by rfl) :
    DS X K (.Expr (.Call (.Attribute (.Name x p) "extend" apos) [e] [] cpos) pos) (tDrop (tBM K "list" rExtend (tVar i) (tCons te tNil))) (extM i m) := by
  subst hK
  refine ⟨ps_expr (pe_bm PySem.F.plainAttrs_list PySem.F.slot_list_extend PySem.F.type_list_extend mt_extend (pe_var hN hv hd hcd) (pa_cons h.p pa_nil hst) hbase hfew hline hst hplain) hs, fun G0 H0 env σ H G o Dn r g e f => ?_⟩
  obtain ⟨ds, e1, e2⟩ := bind_some_of e
  obtain ⟨d, e3, e4⟩ := bind_some_of e2
  obtain ⟨es, e5, e6⟩ := bind_some_of e4
  split at e6
  · rename_i hz
    cases e6
    unfold lst1 at e5
    split at e5
    · cases e5
      have he := ownAt_some e1
      obtain ⟨v, hσ, p, vs, rfl, a2, a3, a4, a5⟩ := r.sl i _ he
      refine ⟨_, hσ, .inl ⟨rfl, vs, SqL.of a4⟩, ?_⟩
      refine h.d H0 env σ H G _ _ r e3 fun y G1 H1 g1 i1 => ?_
      obtain ⟨n1, q1⟩ := g1.out p _ a3 a4
      cases i1 with
      | lst s1 i1 =>
        rename_i b zs
        refine ⟨p, b, vs, zs, rfl, rfl, q1, g1.gh _ _ s1, ?_, ?_⟩
        · rw [a5.len, i1.len]; exact sz5 hz
        · exact f σ G1 _ ((r.go g1).mut he hσ rfl rfl n1 ⟨p, vs ++ zs, rfl, a2, n1, upd_same, (a5.mono g1.g).append i1⟩) ((g.trans g1).mut n1 a2) g1.g
    · cases e5
  · cases e6
/-- x[a] = e -/
def setItM (i : Nat) (mi m : En → Option D) (env : En) : Option Out := (m env).bind fun d => (ownAt i env).bind fun ds => (mi env).bind fun
  | .int k => (ixN ds.length k).bind fun j => some (.nx (env.set i (some (.own (ds.set j d)))))
  | _ => none
theorem ds_setItem (i : Nat) {x : Str} {p p2 : Pos} (hi : DE X K a ti mi) (h : DE X K e te m) (hK : X.K = K := by rfl) (hN : X.N[i]? = some x := by rfl) (hv : Vis X.env.scope x := by first | exact Or.inl rfl | exact Or.inr (Or.inl rfl) | exact Or.inr (Or.inr rfl)) (hd : (x == ("__debug__" : Str)) = false := by decide) (hcd : (x == ("__classdict__" : Str)) = false := by decide)
    (ha : ∀ v, assign (.Subscript (.Name x p) a p2) X.env v = (do
      let ov ← holding [v] (eval (.Name x p) X.env)
      let iv ← holding [v, ov] (eval a X.env)
      standAt p2
      holding [v, ov, iv] (setItem ov iv v)
      release [v, ov, iv] []) := by intro _; rfl) (hs : swapsWithSole [.Subscript (.Name x p) a p2] e pos.line X.env = pure false := by rfl) (hw : swappedStores [.Subscript (.Name x p) a p2] e X.env = pure none := by rfl)
    (h1 : (assignEach [.Subscript (.Name x p) a p2] X.env).map (·.2) = [assign (.Subscript (.Name x p) a p2) X.env] := by rfl) :
    DS X K (.Assign [.Subscript (.Name x p) a p2] e pos) (tAsg te (gSub (tVar i) ti rSetL)) (setItM i mi m) := by
  subst hK
  refine ⟨ps_asg h.p (pg_sub (pe_var hN hv hd hcd) hi.p set_list ha) hs hw h1, fun G0 H0 env σ H G o Dn r g e f => ?_⟩
  obtain ⟨d, e1, e2⟩ := bind_some_of e
  obtain ⟨ds, e3, e4⟩ := bind_some_of e2
  obtain ⟨kd, e5, e6⟩ := bind_some_of e4
  split at e6
  · obtain ⟨j, e7, e8⟩ := bind_some_of e6
    cases e8
    have he := ownAt_some e3
    refine h.d H0 env σ H G d _ r e1 fun y G1 H1 g1 i1 => ?_
    have r1 := r.go g1
    obtain ⟨v, hσ, p, vs, rfl, a2, a3, a4, a5⟩ := r1.sl i _ he
    refine ⟨_, hσ, ?_⟩
    refine hi.d H0 env σ H1 G1 _ _ r1 e5 fun z G2 H2 g2 i2 => ?_
    cases i2
    obtain ⟨n2, q2⟩ := g2.out p _ a3 a4
    refine ⟨p, vs, _, j, rfl, rfl, q2, by rw [a5.len]; exact e7, ?_⟩
    exact f σ G2 _ ((r1.go g2).mut he hσ rfl rfl n2 ⟨p, vs.set j y, rfl, a2, n2, upd_same, (a5.mono g2.g).set (i1.mono g2.g) j⟩) (((g.trans g1).trans g2).mut n2 a2) (g1.g.trans g2.g)
  · cases e6
/-- d[a] = e, d an own dict -/
def replD : List Key → List D → Key → D → List D
  | k' :: ks, d' :: ds, k, d => (if k' = k then d else d') :: replD ks ds k d
  | _, _, _, _ => []
def putD (ks : List Key) (ds : List D) (k : Key) (d : D) : List Key × List D := if (ks.any fun j => decide (j = k)) = true then (ks, replD ks ds k d) else (ks ++ [k], ds ++ [d])
theorem repl_is {G : Hp} {kvs : List (Key × V)} {ds : List D} {k : Key} {v : V} {d : D} (h0 : Is K G v d) : ∀ {kvs : List (Key × V)} {ds : List D}, IsL K G (kvs.map (·.2)) ds → IsL K G ((kvs.map fun kv => if kv.1 = k then (kv.1, v) else kv).map (·.2)) (replD (kvs.map (·.1)) ds k d)
  | [], ds, i => by cases i; exact .nil
  | (a, w) :: r, ds, i => by
    cases i with
    | cons i1 i2 =>
      by_cases hk : a = k
      · simp only [List.map_cons, replD, if_pos hk]
        exact .cons h0 (repl_is (kvs := []) (ds := []) h0 i2)
      · simp only [List.map_cons, replD, if_neg hk]
        exact .cons i1 (repl_is (kvs := []) (ds := []) h0 i2)
theorem put_is {G : Hp} {kvs : List (Key × V)} {ks ks' : List Key} {ds ds' : List D} {k : Key} {v : V} {d : D} (hk : kvs.map (·.1) = ks) (i : IsL K G (kvs.map (·.2)) ds) (h0 : Is K G v d) (e : putD ks ds k d = (ks', ds')) : (putK kvs k v).map (·.1) = ks' ∧ IsL K G ((putK kvs k v).map (·.2)) ds' := by
  subst hk
  unfold putD at e
  unfold putK
  have hany : ((kvs.map (·.1)).any fun j => decide (j = k)) = (kvs.any fun kv => decide (kv.1 = k)) := by
    rw [List.any_map]
    rfl
  rw [hany] at e
  by_cases hm : (kvs.any fun kv => decide (kv.1 = k)) = true
  · rw [if_pos hm] at e
    rw [if_pos hm]
    cases e
    refine ⟨?_, repl_is (kvs := []) (ds := []) h0 i⟩
    rw [List.map_map]
    refine List.map_congr_left fun kv _ => ?_
    show (if kv.1 = k then (kv.1, v) else kv).1 = kv.1
    split <;> rfl
  · rw [if_neg hm] at e
    rw [if_neg hm]
    cases e
    rw [List.map_append, List.map_append]
    exact ⟨rfl, i.append (.cons h0 .nil)⟩
theorem putD_len {ks ks' : List Key} {ds ds' : List D} {k : Key} {d : D} (e : putD ks ds k d = (ks', ds')) : ks'.length ≤ ks.length + 1 := by
  unfold putD at e
  split at e
  · cases e; omega
  · cases e; rw [List.length_append]; simp
def dputM (i : Nat) (mk m : En → Option D) (env : En) : Option Out := (m env).bind fun d => (owndAt i env).bind fun p => (mk env).bind fun kd => (keyD kd).bind fun k => if p.1.length < 100000 then some (.nx (env.set i (some (.ownd (putD p.1 p.2 k d).1 (putD p.1 p.2 k d).2)))) else none
theorem ds_dput (i : Nat) {x : Str} {p p2 : Pos} (hu : X.A.units + 1 < cLine) (hi : DE X K a ti mi) (h : DE X K e te m) (hN : X.N[i]? = some x := by rfl) (hv : Vis X.env.scope x := by first | exact Or.inl rfl | exact Or.inr (Or.inl rfl) | exact Or.inr (Or.inr rfl)) (hd : (x == ("__debug__" : Str)) = false := by decide) (hcd : (x == ("__classdict__" : Str)) = false := by decide)
    (hs : swapsWith e (some (.Subscript (.Name x p) a p2)) pos.line X.env = pure false := by rfl) :
    DS X K (.Assign [.Subscript (.Name x p) a p2] e pos) (sDPut (tVar i) ti te) (dputM i mi m) := by
  refine ⟨ps_dput hu (pe_var hN hv hd hcd) hi.p h.p hs, fun G0 H0 env σ H G o Dn r g e f => ?_⟩
  obtain ⟨d, e1, e2⟩ := bind_some_of e
  obtain ⟨⟨ks, ds⟩, e3, e4⟩ := bind_some_of e2
  obtain ⟨kd, e5, e6⟩ := bind_some_of e4
  obtain ⟨k, e7, e8⟩ := bind_some_of e6
  split at e8
  · rename_i hz
    cases e8
    have he := owndAt_some e3
    refine h.d H0 env σ H G d _ r e1 fun y G1 H1 g1 i1 => ?_
    have r1 := r.go g1
    obtain ⟨v, hσ, p, kvs, rfl, a2, a3, a4, a5, a6⟩ := r1.sl i _ he
    refine ⟨_, hσ, ?_⟩
    refine hi.d H0 env σ H1 G1 _ _ r1 e5 fun z G2 H2 g2 i2 => ?_
    obtain ⟨n2, q2⟩ := g2.out p _ a3 a4
    rw [keyD_is (G := G2) (H := H2) (.is i2) e7]
    obtain ⟨b1, b2⟩ := put_is (k := k) (ks' := (putD ks ds k d).1) (ds' := (putD ks ds k d).2) a5 (a6.mono g2.g) (i1.mono g2.g) rfl
    refine ⟨p, _, rfl, DPut.k q2 ?_, ?_⟩
    · have : kvs.length = ks.length := by rw [← a5, List.length_map]
      rw [this]
      exact Nat.lt_of_lt_of_le hz (by decide)
    · exact f σ G2 _ ((r1.go g2).mut he hσ rfl rfl n2 ⟨p, _, rfl, a2, n2, upd_same, b1, b2⟩) (((g.trans g1).trans g2).mut n2 a2) (g1.g.trans g2.g)
  · cases e8
/-- target = x.pop(e), target = x.pop(), x an own list -/
def popAtM (i : Nat) (mi : En → Option D) (bnd : D → En → Option En) (env : En) : Option Out := (ownAt i env).bind fun ds => (mi env).bind fun
  | .int k => if -1000000 ≤ k ∧ k ≤ 1000000 then (ixN ds.length k).bind fun j => (ds[j]?).bind fun d => (bnd d (env.set i (some (.own (ds.eraseIdx j))))).bind fun env' => some (.nx env') else none
  | _ => none
theorem p63 : (1000000 : Int) < 2 ^ 63 := by decide
theorem tsm_popAt (i : Nat) {tg : TG} {js : List Nat} {bnd : D → En → Option En} (hg : TGd K tg js bnd) (hi : TD K ti mi) : TSm K (tAsg (tBM K "list" rPopAt (tVar i) (tCons ti tNil)) tg) (popAtM i mi bnd) := fun G0 H0 env σ H G o Dn r g e f => by
  obtain ⟨ds, e1, e2⟩ := bind_some_of e
  obtain ⟨kd, e3, e4⟩ := bind_some_of e2
  split at e4
  · split at e4
    · rename_i hk
      obtain ⟨j, e5, e6⟩ := bind_some_of e4
      obtain ⟨d, e7, e8⟩ := bind_some_of e6
      obtain ⟨env', e9, e10⟩ := bind_some_of e8
      cases e10
      have he := ownAt_some e1
      obtain ⟨v, hσ, p, vs, rfl, a2, a3, a4, a5⟩ := r.sl i _ he
      refine ⟨_, hσ, .inl ⟨rfl, vs, SqL.of a4⟩, ?_⟩
      refine hi H0 env σ H G _ _ r e3 fun y G1 H1 g1 i1 => ?_
      cases i1
      obtain ⟨n1, q1⟩ := g1.out p _ a3 a4
      obtain ⟨w, b1, b2⟩ := a5.get e7
      have hp := p63
      refine ⟨p, vs, _, j, w, rfl, rfl, q1, by omega, by omega, ?_, b1, ?_⟩
      · rw [a5.len]; exact (ixN_seq e5).1
      · have r2 : Rp K H0 G1 (env.set i (some (.own (ds.eraseIdx j)))) σ (upd H1 p (.lst (vs.eraseIdx j))) := (r.go g1).mut he hσ rfl rfl n1 ⟨p, _, rfl, a2, n1, upd_same, (a5.mono g1.g).eraseIdx j⟩
        exact hg H0 _ σ _ G1 w d env' _ r2 (b2.mono g1.g) e9 fun σ' r3 _ _ => f σ' G1 _ r3 ((g.trans g1).mut n1 a2) g1.g
    · cases e4
  · cases e4
theorem ds_popAt (i : Nat) {tg : Expr} {tgt : TG} {js : List Nat} {bnd : D → En → Option En} {x : Str} {p : Pos} (hg : DG X K tg tgt js bnd) (h : DE X K a ti mi) (hK : X.K = K := by rfl) (hN : X.N[i]? = some x := by rfl) (hv : Vis X.env.scope x := by first | exact Or.inl rfl | exact Or.inr (Or.inl rfl) | exact Or.inr (Or.inr rfl)) (hd : (x == ("__debug__" : Str)) = false := by decide) (hcd : (x == ("__classdict__" : Str)) = false := by decide)
    (hbase : attributeBase (.Name x p) "pop" X.env (eval (.Name x p) X.env) = eval (.Name x p) X.env := by rfl)
    (hfew : ((backTo cpos (starEach (a :: []) X.env)).all (fun x => !x.1) && (backToKw cpos (keywordEach [] X.env)).all (fun x => x.1.isSome) && decide ((a :: ([] : List Expr)).length + ([] : List Keyword).length + (if ([] : List Keyword).isEmpty then 0 else 1) < 30)) = true := by rfl)
    (hline : (apos.endLine == cpos.line) = true := by rfl) (hst : starEach (a :: []) X.env = (false, eval a X.env) :: starEach [] X.env := by rfl) (hplain : (backTo cpos (starEach [] X.env)).any (·.1) = false := by rfl)
    (hs : swapsWithSole [tg] (.Call (.Attribute (.Name x p) "pop" apos) [a] [] cpos) pos.line X.env = pure false := by rfl) (hw : swappedStores [tg] (.Call (.Attribute (.Name x p) "pop" apos) [a] [] cpos) X.env = pure none := by rfl) (h1 : (assignEach [tg] X.env).map (·.2) = [assign tg X.env] := by rfl) :
    DS X K (.Assign [tg] (.Call (.Attribute (.Name x p) "pop" apos) [a] [] cpos) pos) (tAsg (tBM K "list" rPopAt (tVar i) (tCons ti tNil)) tgt) (popAtM i mi bnd) := by
  subst hK
  exact ⟨ps_asg (pe_bm PySem.F.plainAttrs_list PySem.F.slot_list_pop PySem.F.type_list_pop mt_popAt (pe_var hN hv hd hcd) (pa_cons h.p pa_nil hst) hbase hfew hline hst hplain) hg.p hs hw h1, tsm_popAt i hg.d h.d⟩
def popM (i : Nat) (bnd : D → En → Option En) (env : En) : Option Out := (ownAt i env).bind fun ds => (ds[ds.length - 1]?).bind fun d => (bnd d (env.set i (some (.own ds.dropLast)))).bind fun env' => some (.nx env')
theorem IsL.dropLast {G : Hp} : ∀ {vs : List V} {ds : List D}, IsL K G vs ds → IsL K G vs.dropLast ds.dropLast := fun {vs ds} h => by
  rw [List.dropLast_eq_take, List.dropLast_eq_take, h.len]
  exact h.take _
theorem ds_pop (i : Nat) {tg : Expr} {tgt : TG} {js : List Nat} {bnd : D → En → Option En} {x : Str} {p : Pos} (hg : DG X K tg tgt js bnd) (hK : X.K = K := by rfl) (hN : X.N[i]? = some x := by rfl) (hv : Vis X.env.scope x := by first | exact Or.inl rfl | exact Or.inr (Or.inl rfl) | exact Or.inr (Or.inr rfl)) (hd : (x == ("__debug__" : Str)) = false := by decide) (hcd : (x == ("__classdict__" : Str)) = false := by decide)
    (hbase : attributeBase (.Name x p) "pop" X.env (eval (.Name x p) X.env) = eval (.Name x p) X.env := by rfl) (hline : (apos.endLine == cpos.line) = true := by rfl)
    (hs : swapsWithSole [tg] (.Call (.Attribute (.Name x p) "pop" apos) [] [] cpos) pos.line X.env = pure false := by rfl) (hw : swappedStores [tg] (.Call (.Attribute (.Name x p) "pop" apos) [] [] cpos) X.env = pure none := by rfl) (h1 : (assignEach [tg] X.env).map (·.2) = [assign tg X.env] := by rfl) :
    DS X K (.Assign [tg] (.Call (.Attribute (.Name x p) "pop" apos) [] [] cpos) pos) (tAsg (tBM0 K "list" rPop (tVar i)) tgt) (popM i bnd) := by
  subst hK
  refine ⟨ps_asg (pe_bm0 PySem.F.plainAttrs_list PySem.F.slot_list_pop PySem.F.type_list_pop mt_pop (pe_var hN hv hd hcd) hbase hline) hg.p hs hw h1, fun G0 H0 env σ H G o Dn r g e f => ?_⟩
  obtain ⟨ds, e1, e2⟩ := bind_some_of e
  obtain ⟨d, e3, e4⟩ := bind_some_of e2
  obtain ⟨env', e5, e6⟩ := bind_some_of e4
  cases e6
  have he := ownAt_some e1
  obtain ⟨v, hσ, p, vs, rfl, a2, a3, a4, a5⟩ := r.sl i _ he
  obtain ⟨w, b1, b2⟩ := a5.get e3
  refine ⟨_, hσ, .inl ⟨rfl, vs, SqL.of a4⟩, p, vs, w, rfl, rfl, a4, by rw [a5.len]; exact b1, ?_⟩
  have r2 : Rp X.K H0 G (env.set i (some (.own ds.dropLast))) σ (upd H p (.lst vs.dropLast)) := r.mut he hσ rfl rfl a3 ⟨p, _, rfl, a2, a3, upd_same, a5.dropLast⟩
  exact hg.d H0 _ σ _ G w d env' _ r2 b2 e5 fun σ' r3 _ _ => f σ' G _ r3 (g.mut a3 a2) (Same.refl G)
/-- a, b = e -/
def asgM (m : En → Option D) (bnd : D → En → Option En) (env : En) : Option Out := (m env).bind fun d => (bnd d env).bind fun env' => some (.nx env')
theorem ds_asg {tg : Expr} {tgt : TG} {js : List Nat} {bnd : D → En → Option En} (hg : DG X K tg tgt js bnd) (h : DE X K e te m)
    (hs : swapsWithSole [tg] e pos.line X.env = pure false := by rfl) (hw : swappedStores [tg] e X.env = pure none := by rfl) (h1 : (assignEach [tg] X.env).map (·.2) = [assign tg X.env] := by rfl) : DS X K (.Assign [tg] e pos) (tAsg te tgt) (asgM m bnd) := by
  refine ⟨ps_asg h.p hg.p hs hw h1, fun G0 H0 env σ H G o Dn r g e f => ?_⟩
  obtain ⟨d, e1, e2⟩ := bind_some_of e
  obtain ⟨env', e3, e4⟩ := bind_some_of e2
  cases e4
  refine h.d H0 env σ H G d _ r e1 fun v G1 H1 g1 i1 => ?_
  exact hg.d H0 env σ H1 G1 v d env' _ (r.go g1) i1 e3 fun σ' r2 _ _ => f σ' G1 H1 r2 (g.trans g1) g1.g
/-- x += e (ints) -/
def augM (i : Nat) (m : En → Option D) (env : En) : Option Out := (nameV i env).bind fun
  | .int a => (m env).bind fun
    | .int b => some (.nx (env.set i (some (.val (.int (a + b))))))
    | _ => none
  | _ => none
theorem ds_aug (i : Nat) {x : Str} (h : DE X K e te m) (hN : X.N.Nodup) (hi : X.N[i]? = some x := by rfl) (hx : Loc X.env.scope x := by first | exact Or.inl rfl | exact Or.inr rfl) (hf : X.fn x = true ∨ X.env.scope.names.lookup x = some .local := by first | exact .inl rfl | exact .inr rfl) :
    DS X K (.AugAssign (.Name x pos') .Add e pos) (tAug i te (ipI fun i j => i + j)) (augM i m) := by
  refine ⟨ps_aug hN hi hx h.p ip_add hf, fun G0 H0 env σ H G o Dn r g e f => ?_⟩
  obtain ⟨d, e1, e2⟩ := bind_some_of e
  split at e2
  · rename_i a
    obtain ⟨d2, e3, e4⟩ := bind_some_of e2
    split at e4
    · rename_i b
      cases e4
      obtain ⟨v, hσ, iv⟩ := r.sl i _ (nameV_some e1)
      cases iv
      refine ⟨_, hσ, h.d H0 env σ H G _ _ r e3 fun y G1 H1 g1 i1 => ?_⟩
      cases i1
      exact ⟨a, b, rfl, rfl, f _ G1 H1 ((r.go g1).set i (.int _)) (g.trans g1) g1.g⟩
    · cases e4
  · cases e2
end
/-! ### dict comprehensions -/
section
variable {X : Cx} {K : PySem.W.Frag} {kx vx tg iter : Expr} {ifs : List Expr} {scope : Scope} {own : List (Str × Nat)} {pos : Pos} {wi : TI} {g : TG} {tt : TT} {tk tv : TE} {js : List Nat}
def dcompM (bnd : D → En → Option En) (tst : En → Option Bool) (mk mv : En → Option D) (env : En) : List D → List Key → List D → Option (List Key × List D)
  | [], ks, vs => some (ks, vs)
  | d :: ds, ks, vs => (bnd d env).bind fun e1 => (tst e1).bind fun b => if b = true then (mk e1).bind fun kd => (mv e1).bind fun y => (keyD kd).bind fun k => dcompM bnd tst mk mv env ds (putD ks vs k y).1 (putD ks vs k y).2 else dcompM bnd tst mk mv env ds ks vs
def dcM (vs : List Nat) (mi : En → Option (List D)) (bnd : D → En → Option En) (tst : En → Option Bool) (mk mv : En → Option D) (env : En) : Option (List Key × List D) := (mi env).bind fun ds => if ds.length ≤ 100000 then dcompM bnd tst mk mv (wipeE env vs) ds [] [] else none
theorem dc_it {J : It} {n : Nat} {Gp : Hp → Prop} {Y : Nat → Hp → V → Hp → Prop} (w : Walk J n Gp Y) {vs : List Nat} {σ : L2.St} {H1 : Hp} {A : Addr} {Qd : Hp → Prop} (Pv : Nat → Hp → Prop) (h0 : Pv 0 (upd H1 A (.dK []))) (hG : ∀ i H, i ≤ n → Pv i H → Gp H)
    (step : ∀ (j : Nat) (v : V) (Ha Hb : Hp), j < n → Pv j Ha → Y j Ha v Hb →
      g v (wipe σ vs) Hb fun τ Hc => wipe τ vs = wipe σ vs ∧ tt τ Hc fun good Hd =>
        if good = true then tk τ Hd fun kv He => tv τ He fun zv Hf => ∃ kvs k, kv = kV k ∧ Hf A = some (.dK kvs) ∧ kvs.length < sizeLine ∧ Pv (j + 1) (upd Hf A (.dK (putK kvs k zv))) else Pv (j + 1) Hd)
    (hd : ∀ H, Pv n H → Qd H) :
    ∃ W : Nat → Nat → Hp → Prop, (∃ m, W 0 m (upd H1 A (.dK []))) ∧ ∀ i m H, W i m H → (J.stop i H ∧ Qd H) ∨
      (J.go i H ∧ ∃ Nx : Hp → Prop, (∀ Hb, Nx Hb → ∃ m', m' < m ∧ W (i + 1) m' Hb) ∧ ∀ v Hb, J.yld i H v Hb →
        g v (wipe σ vs) Hb fun τ Hc => wipe τ vs = wipe σ vs ∧ tt τ Hc fun good Hd =>
          if good = true then tk τ Hd fun kv He => tv τ He fun zv Hf => ∃ kvs k, kv = kV k ∧ Hf A = some (.dK kvs) ∧ kvs.length < sizeLine ∧ Nx (upd Hf A (.dK (putK kvs k zv))) else Nx Hd) := by
  refine ⟨fun j left Ha => left = n - j ∧ j ≤ n ∧ Pv j Ha, ⟨n, (Nat.sub_zero n).symm, Nat.zero_le n, h0⟩, fun j left Ha hw => ?_⟩
  obtain ⟨el, hj, hp⟩ := hw
  subst el
  have gp := hG j Ha hj hp
  rcases Nat.lt_or_ge j n with hlt | hge
  · refine .inr ⟨w.goes j Ha hlt gp, Pv (j + 1), fun Hb hb => ⟨n - (j + 1), Nat.sub_lt_sub_left hlt (Nat.lt_succ_self j), rfl, hlt, hb⟩, fun v Hb hy => ?_⟩
    exact step j v Ha Hb hlt hp (w.yields j Ha v Hb hlt gp hy)
  · cases Nat.le_antisymm hj hge
    exact .inl ⟨w.stops Ha gp, hd Ha hp⟩
/-- a new dict -/
def TFd (K : PySem.W.Frag) (t : TE) (m : En → Option (List Key × List D)) : Prop := ∀ (H0 : Hp) (env : En) (σ : L2.St) (H G : Hp) (r : List Key × List D) (Q : VK), Rp K H0 G env σ H → m env = some r → (∀ p kvs G' H', Go G H G' H' → H p = none → G' p = none → H' p = some (.dK kvs) → kvs.map (·.1) = r.1 → IsL K G' (kvs.map (·.2)) r.2 → Q (.ref p) H') → t σ H Q
structure DFd (X : Cx) (K : PySem.W.Frag) (e : Expr) (t : TE) (m : En → Option (List Key × List D)) : Prop where
  p : PE X e t
  d : TFd K t m
def asDic (m : En → Option (List Key × List D)) (env : En) : Option D := (m env).bind fun r => some (.dic r.1 r.2)
theorem DFd.e {e : Expr} {t : TE} {m : En → Option (List Key × List D)} (h : DFd X K e t m) : DE X K e t (asDic m) := ⟨h.p, fun H0 env σ H G d Q r e q => by
  obtain ⟨ds, e1, e2⟩ := bind_some_of e
  cases e2
  refine h.d H0 env σ H G ds Q r e1 fun p kvs G' H' g hp np e k i => q _ _ H' (g.fix hp np e) (.dic upd_same k (i.mono (same_upd np)))⟩
/-- x = a new dict, x an own one -/
def setOwndM (i : Nat) (ms : En → Option (List Key × List D)) (env : En) : Option Out := (ms env).bind fun r => some (.nx (env.set i (some (.ownd r.1 r.2))))
theorem ds_setOwnd (i : Nat) {e : Expr} {te : TE} {ms : En → Option (List Key × List D)} {x : Str} {pos' : Pos} (h : DFd X K e te ms) (hN : X.N.Nodup) (hi : X.N[i]? = some x := by rfl) (hx : Loc X.env.scope x := by first | exact Or.inl rfl | exact Or.inr rfl) (hs : swapsWith e (some (.Name x pos')) pos.line X.env = pure false := by rfl)
    (hf : X.fn x = true ∨ X.env.scope.names.lookup x = some .local := by first | exact .inl rfl | exact .inr rfl) : DS X K (.Assign [.Name x pos'] e pos) (tAsg te (gName i)) (setOwndM i ms) := ⟨ps_set hN hi hx h.p hs hf, fun G0 H0 env σ H G o Dn r g e f => by
  obtain ⟨ds, e1, e2⟩ := bind_some_of e
  cases e2
  exact h.d H0 env σ H G ds _ r e1 fun p kvs G1 H1 g1 hp np e3 k1 i1 => f _ G1 H1 (r.setOwn (o := .dK kvs) i g1 hp rfl ⟨p, kvs, rfl, g.same.free hp, np, e3, k1, i1⟩) (g.trans g1) g1.g⟩
theorem td_dc {vs : List Nat} {mi : En → Option (List D)} {bnd : D → En → Option En} {tst : En → Option Bool} {mk mv : En → Option D} (hi : TI1 K wi mi) (hg : TGd K g js bnd) (ht : TB K tt tst) (hk : TD K tk mk) (hv : TD K tv mv) (hj : ∀ j ∈ js, j ∈ vs) : TFd K (tDc wi g tt tk tv vs) (dcM vs mi bnd tst mk mv) := fun H0 env σ H G total Q r e q => by
  obtain ⟨ds, e1, e2⟩ := bind_some_of e
  split at e2
  case isFalse => cases e2
  rename_i hz
  refine hi H0 env σ H G ds _ r e1 fun J G1 H1 g1 s1 => fun A hA => ?_
  obtain ⟨Y, w, y⟩ := s1.ex
  have nA : G1 A = none := g1.gh.free hA
  refine dc_it w (fun i H' => ∃ G' kvs ks as, Go G1 H1 G' H' ∧ G' A = none ∧ H' A = some (.dK kvs) ∧ kvs.map (·.1) = ks ∧ IsL K G' (kvs.map (·.2)) as ∧ ks.length ≤ i ∧ dcompM bnd tst mk mv (wipeE env vs) (ds.drop i) ks as = some total) ?_ (fun i H' _ ⟨G', kvs, ks, as, gg, _⟩ => gg.same) (fun i x H' H2 hlt p hy => ?_) (fun H' p => ?_)
  · refine ⟨G1, [], [], [], ⟨g1.gh, Same.refl G1, fun a u e => ?_, fun a u n e => ⟨n, ?_⟩⟩, nA, upd_same, rfl, .nil, Nat.zero_le _, by simpa using e2⟩
    · rw [upd_ne (ne_of_none e nA)]; exact g1.gh a u e
    · rw [upd_ne (ne_of_none e hA)]; exact e
  · obtain ⟨G', kvs, ks, as, gg, nA', eA, ek, ia, hl, ec⟩ := p
    rw [List.drop_eq_getElem_cons hlt] at ec
    obtain ⟨env1, a1, a2⟩ := bind_some_of ec
    obtain ⟨b, a3, a4⟩ := bind_some_of a2
    obtain ⟨G2, g2, ix⟩ := y i H' x H2 ds[i] G' (List.getElem?_eq_getElem hlt) gg.g gg.gh hy
    have r2 : Rp K H0 G2 (wipeE env vs) (wipe σ vs) H2 := ((wipe_ofs vs r).go g1).go (gg.trans g2)
    refine hg H0 _ _ H2 G2 x _ env1 _ r2 ix a1 fun σ2 r3 l3 k3 => ⟨wipe_same hj l3 k3, ?_⟩
    refine ht H0 env1 σ2 H2 G2 b _ r3 a3 fun G3 H3 g3 => ?_
    have gt : Go G1 H1 G3 H3 := (gg.trans g2).trans g3
    obtain ⟨nA3, eA3⟩ := (g2.trans g3).out A _ nA' eA
    cases b with
    | false =>
      have a5 := (if_neg (c := false = true) Bool.false_ne_true).symm.trans a4
      exact iteF ⟨G3, kvs, ks, as, gt, nA3, eA3, ek, ia.mono (g2.trans g3).g, by omega, a5⟩
    | true =>
      have a5 := (if_pos (c := true = true) rfl).symm.trans a4
      obtain ⟨kd, a6, a7⟩ := bind_some_of a5
      obtain ⟨yd, a8, a9⟩ := bind_some_of a7
      obtain ⟨k, a10, a11⟩ := bind_some_of a9
      refine iteT (hk H0 env1 σ2 H3 G3 kd _ (r3.go g3) a6 fun v G4 H4 g4 i4 => ?_)
      refine hv H0 env1 σ2 H4 G4 yd _ (r3.go (g3.trans g4)) a8 fun z G5 H5 g5 i5 => ?_
      have g45 := g4.trans g5
      obtain ⟨nA5, eA5⟩ := g45.out A _ nA3 eA3
      have hlen : kvs.length = ks.length := by rw [← ek, List.length_map]
      obtain ⟨b1, b2⟩ := put_is (k := k) (ks' := (putD ks as k yd).1) (ds' := (putD ks as k yd).2) ek (ia.mono ((g2.trans g3).trans g45).g) i5 rfl
      refine ⟨kvs, k, keyD_is (G := G4) (H := H4) (.is i4) a10, eA5, ?_, G5, _, _, _, ⟨gt.s, gt.g.trans g45.g, fun a u e => ?_, fun a u n e => ?_⟩, nA5, upd_same, b1, b2, ?_, a11⟩
      · have : kvs.length < 100000 := by omega
        exact Nat.lt_of_lt_of_le this (by decide)
      · rw [upd_ne (ne_of_none e nA5)]; exact g45.gh a u e
      · obtain ⟨n5, e5⟩ := (gt.trans g45).out a u n e
        exact ⟨n5, by rw [upd_ne (ne_of_none e hA)]; exact e5⟩
      · have := putD_len (ks := ks) (ds := as) (k := k) (d := yd) (ks' := (putD ks as k yd).1) (ds' := (putD ks as k yd).2) rfl
        omega
  · obtain ⟨G', kvs, ks, as, gg, nA', eA, ek, ia, hl, ec⟩ := p
    rw [List.drop_length] at ec
    cases ec
    have gf := g1.trans gg
    have nH := g1.same.free hA
    exact q A kvs G' H' gf nH nA' eA ek ia
theorem dfd_dc {mi : En → Option (List D)} {bnd : D → En → Option En} {tst : En → Option Bool} {mk mv : En → Option D} (hc : X.calm = true) (hN : X.N.Nodup) (hi : DI1 X K tg iter wi mi) (ok : BlkOk X.N X.env.scope scope own)
    (hg : ∀ (s : Shared) (H : Hp) (C : Addr) (cl : List (Str × Addr)) (fp : List Addr), DG (X.blk s H scope (compEnvC scope cl C X.env) fp) K tg g js bnd) (ht : ∀ (s : Shared) (H : Hp) (C : Addr) (cl : List (Str × Addr)) (fp : List Addr), DTs (X.blk s H scope (compEnvC scope cl C X.env) fp) K ifs tt tst)
    (hk : ∀ (s : Shared) (H : Hp) (C : Addr) (cl : List (Str × Addr)) (fp : List Addr), DE (X.blk s H scope (compEnvC scope cl C X.env) fp) K kx tk mk)
    (he : ∀ (s : Shared) (H : Hp) (C : Addr) (cl : List (Str × Addr)) (fp : List Addr), DE (X.blk s H scope (compEnvC scope cl C X.env) fp) K vx tv mv) (hj : js.all (fun j => (own.map (·.2)).contains j) = true) (h0 : Shared) (hs : ∀ x, foldedSetIterable iter X.env x = pure x := by intro _; rfl) :
    DFd X K (.DictComp kx vx [⟨tg, iter, ifs, 0⟩] scope pos) (tDc wi g tt tk tv (own.map (·.2))) (dcM (own.map (·.2)) mi bnd tst mk mv) :=
  ⟨pe_dc hc hN hi.p ok (fun s H C cl fp => (hg s H C cl fp).p) (fun s H C cl fp => (ht s H C cl fp).p) (fun s H C cl fp => (hk s H C cl fp).p) (fun s H C cl fp => (he s H C cl fp).p) hs,
   td_dc hi.d (hg h0 (fun _ => none) 0 [] []).d (ht h0 (fun _ => none) 0 [] []).d (hk h0 (fun _ => none) 0 [] []).d (he h0 (fun _ => none) 0 [] []).d fun j hm => by
    have := List.all_eq_true.mp hj j hm
    simpa using this⟩
/-- a comprehension, ready for both ways -/
theorem dlc {elt : Expr} {te : TE} {mi : En → Option (List D)} {bnd : D → En → Option En} {tst : En → Option Bool} {me : En → Option D} (hc : X.calm = true) (hN : X.N.Nodup) (hi : DI1 X K tg iter wi mi) (ok : BlkOk X.N X.env.scope scope own)
    (hg : ∀ (s : Shared) (H : Hp) (C : Addr) (cl : List (Str × Addr)) (fp : List Addr), DG (X.blk s H scope (compEnvC scope cl C X.env) fp) K tg g js bnd) (ht : ∀ (s : Shared) (H : Hp) (C : Addr) (cl : List (Str × Addr)) (fp : List Addr), DTs (X.blk s H scope (compEnvC scope cl C X.env) fp) K ifs tt tst)
    (he : ∀ (s : Shared) (H : Hp) (C : Addr) (cl : List (Str × Addr)) (fp : List Addr), DE (X.blk s H scope (compEnvC scope cl C X.env) fp) K elt te me) (hj : js.all (fun j => (own.map (·.2)).contains j) = true) (h0 : Shared) (hs : ∀ x, foldedSetIterable iter X.env x = pure x := by intro _; rfl) :
    DLc X K (.ListComp elt [⟨tg, iter, ifs, 0⟩] scope pos) (tLc wi g tt te (own.map (·.2))) (lcM (own.map (·.2)) mi bnd tst me) :=
  ⟨df_lc hc hN hi ok hg ht he hj h0 hs, ⟨fun i y py spos hi' hy hsw => ps_setLc hc hN hi' hy hsw hi.p ok (fun s H C cl fp => (hg s H C cl fp).p) (fun s H C cl fp => (ht s H C cl fp).p) (fun s H C cl fp => (he s H C cl fp).p) hs⟩⟩
end
end Dl

set_option Elab.async false
set_option linter.all false
set_option maxRecDepth 100000
set_option maxHeartbeats 2000000
/-! Values as data: sorted, comprehensions over the keys of a dict, keywords, chains, enumerate, zip. -/
namespace Dl
open PySem PySem.Spec PyProof.Rows L2
/-! ### sorted(data) -/
open PySem.W in
def sortOk (ds : List D) : Bool := (ds.all fun d => ds.all fun e => alike d.py e.py) && ((ds.all fun d => match d.py with | .tuple (_ :: _) => true | _ => false) || (ds.all fun d => match d.py with | .none => false | .tuple _ => false | _ => true)) &&
  ds.all fun d => decide (d.py.depth ≤ 50) && d.py.canLay0
def sortL (ds : List D) : List D := ds.mergeSort (PySem.W.dataLe false D.py)
def rSortD (K : PySem.W.Frag) : List V → Hp → VK → Prop := fun vs H Q => ∃ (a : Addr) (xs : List V) (ds : List D) (P : V → D → Prop), vs = [.ref a] ∧ SqL K H a xs ∧ PySem.W.EachIs (fun x d => Dp K H x d.py ∧ P x d) xs ds ∧ sortOk ds = true ∧ ds.length ≤ 100000 ∧
  ∀ ys p, PySem.W.EachIs P ys (sortL ds) → H p = none → Q (.ref p) (upd H p (.lst ys))
section
variable {X : Cx} {K : PySem.W.Frag}
theorem each_vals {P : V → D → Prop} : ∀ {us : List Value} {ds : List D}, PySem.W.EachIs (fun u d => ∃ x, RelV x u ∧ P x d) us ds → ∃ ys, Vals ys us ∧ PySem.W.EachIs P ys ds
  | _, _, .nil => ⟨[], .nil, .nil⟩
  | _, _, .cons ⟨x, h1, h2⟩ t => by
    obtain ⟨ys, h3, h4⟩ := each_vals t
    exact ⟨x :: ys, .cons h1 h3, .cons h2 h4⟩
theorem each_pair {P : V → D → Prop} {Q : Value → D → Prop} (f : ∀ x u d, RelV x u → P x d → Q u d) : ∀ {xs : List V} {us : List Value} {ds : List D}, Vals xs us → PySem.W.EachIs P xs ds → PySem.W.EachIs Q us ds
  | _, _, _, .nil, .nil => .nil
  | _, _, _, .cons r rr, .cons h t => .cons (f _ _ _ r h) (each_pair f rr t)
theorem each_len {α β : Type} {P : α → β → Prop} : ∀ {xs : List α} {ds : List β}, PySem.W.EachIs P xs ds → xs.length = ds.length
  | _, _, .nil => rfl
  | _, _, .cons _ t => congrArg (· + 1) (each_len t)
theorem cr_sortD (hu : X.A.units + 64 < cLine) : CallR X (.builtin "sorted") (rSortD X.K) := by
  rintro pins s σ H vs us Q I r ⟨a, xs, ds, P, rfl, hs, hx, ok, hz, q⟩
  obtain ⟨its, rv, hl, hzz⟩ := I.list hs
  obtain ⟨ua, rfl, rua⟩ := vals1 r
  cases rua
  unfold sortOk at ok
  rw [Bool.and_eq_true, Bool.and_eq_true] at ok
  obtain ⟨⟨ok1, ok2⟩, ok3⟩ := ok
  have hal : PySem.W.AllAlike (ds.map D.py) := fun d hd d' hd' => by
    obtain ⟨b, hb, rfl⟩ := List.mem_map.mp hd
    obtain ⟨b', hb', rfl⟩ := List.mem_map.mp hd'
    exact List.all_eq_true.mp (List.all_eq_true.mp ok1 b hb) b' hb'
  have hk : PySem.W.Sortable (ds.map D.py) := by
    rw [Bool.or_eq_true] at ok2
    rcases ok2 with h | h
    · refine .inl fun d hd => ?_
      obtain ⟨b, hb, rfl⟩ := List.mem_map.mp hd
      have := List.all_eq_true.mp h b hb
      split at this
      · rename_i x r e; exact ⟨x, r, e⟩
      · cases this
    · refine .inr fun d hd => ?_
      obtain ⟨b, hb, rfl⟩ := List.mem_map.mp hd
      have := List.all_eq_true.mp h b hb
      split at this
      · cases this
      · cases this
      · rename_i h1 h2
        exact ⟨h1, h2⟩
  have hdep : ∀ b, b ∈ ds → X.A.units + 2 + (D.py b).depth < cLine := fun b hb => by
    have := List.all_eq_true.mp ok3 b hb
    rw [Bool.and_eq_true] at this
    have := of_decide_eq_true this.1
    omega
  have hlen := each_len hx
  refine PySem.W.sorted_data (vs := its) (bs := ds) (enc := D.py) (R := fun u d => ∃ x, RelV x u ∧ P x d) hl.isList (each_pair (fun x u d r p => ⟨x, r, p.2⟩) rv hx) (each_pair (fun x u d r p => Dp.reads I _ x u p.1 r) rv hx) hal hk (sz5 hz) hdep fun out ho eo => ?_
  obtain ⟨ys, h1, h2⟩ := each_vals eo
  obtain ⟨n, hn⟩ := sortedAll_at s.heap its out.toArray
  have hd : s.heap.objs.size ≤ s.heap.objs.size + 1 := Nat.le_succ _
  refine ⟨.ref (s.heap.objs.size + 1), upd H (s.heap.objs.size + 1) (.lst ys), I.laid (t' := s.toks) (fun _ _ => sortedAll_old) hd ⟨?_, out, n, h1, hn⟩, rfl, q ys _ h2 (I.hok.fresh hd)⟩
  have := each_len h2
  unfold sortL at this
  rw [this, List.length_mergeSort]
  exact sz5 hz
theorem call_sortK (hu : X.A.units + 64 < cLine) (hK : X.K = K) : CallR X (.builtin "sorted") (rSortD K) := by subst hK; exact cr_sortD hu
theorem boot_sorted' : bootBuiltins "sorted" = some (.builtin "sorted") := by decide +kernel
def seq1 : List D → Option (List D)
  | [.lst ds] => some ds
  | [.scr ds] => some ds
  | _ => none
def sortD (as : List D) : Option (List D) := (seq1 as).bind fun ds => if sortOk ds = true ∧ ds.length ≤ 100000 then some (sortL ds) else none
theorem each_is {G H : Hp} (gh : Same G H) : ∀ {vs : List V} {ds : List D}, IsL K G vs ds → (∀ d ∈ ds, d.py.canLay0 = true) → PySem.W.EachIs (fun x d => Dp K H x d.py ∧ Is K G x d) vs ds
  | _, _, .nil, _ => .nil
  | _, _, .cons h r, q => .cons ⟨(h.mono gh).dp (q _ (List.mem_cons_self ..)), h⟩ (each_is gh r fun d hd => q d (List.mem_cons_of_mem _ hd))
theorem isl_each {G : Hp} : ∀ {vs : List V} {ds : List D}, PySem.W.EachIs (fun x d => Is K G x d) vs ds → IsL K G vs ds
  | _, _, .nil => .nil
  | _, _, .cons h t => .cons h (isl_each t)
theorem tf_sort {ta : TA} {ms : En → Option (List D)} (h : TAr K ta ms) : TF K (tCB (rSortD K) ta) (fun env => (ms env).bind sortD) := fun H0 env σ H G es Q rp e q => by
  obtain ⟨as, e1, e2⟩ := bind_some_of e
  obtain ⟨ds, e3, e4⟩ := bind_some_of e2
  split at e4
  · rename_i hc
    cases e4
    refine h H0 env σ H G as _ rp e1 fun vs G1 H1 g1 i1 => ?_
    have at_ : ∃ p ys, vs = [.ref p] ∧ SqL K H1 p ys ∧ IsL K G1 ys ds := by
      unfold seq1 at e3
      split at e3
      · cases e3
        obtain ⟨v, rfl, i⟩ := i1.one
        obtain ⟨p, ws, rfl, s1, i2⟩ := i.lst g1.gh
        exact ⟨p, ws, rfl, SqL.of s1, i2⟩
      · cases e3
        obtain ⟨v, rfl, i⟩ := i1.one
        obtain ⟨p, ws, rfl, s1, i2⟩ := i.scr g1.gh
        exact ⟨p, ws, rfl, s1, i2⟩
      · cases e3
    obtain ⟨p, ys, rfl, s1, i2⟩ := at_
    have lay : ∀ d ∈ ds, d.py.canLay0 = true := fun d hd => by
      have h1 := hc.1
      unfold sortOk at h1
      rw [Bool.and_eq_true] at h1
      have := List.all_eq_true.mp h1.2 d hd
      rw [Bool.and_eq_true] at this
      exact this.2
    refine ⟨p, ys, ds, fun x d => Is K G1 x d, rfl, s1, each_is g1.gh i2 lay, hc.1, hc.2, fun zs l hzs hl => ?_⟩
    have nl := g1.gh.free hl
    refine q l zs G1 _ ⟨g1.s, g1.g, fun a u n => ?_, fun a u n e => ?_⟩ (g1.same.free hl) nl upd_same (isl_each hzs)
    · rw [upd_ne (ne_of_none n nl)]; exact g1.gh a u n
    · obtain ⟨n1, e5⟩ := g1.out a u n e
      exact ⟨n1, by rw [upd_ne (ne_of_none e5 hl)]; exact e5⟩
  · cases e4
theorem df_sorted {p pos : Pos} {ta : TA} {e : Expr} {es : List Expr} {ms : En → Option (List D)} (hu : X.A.units + 64 < cLine) (hg : Gl X "sorted") (hm : X.mg "sorted" = none) (ha : DAr X K (e :: es) ta ms) (hK : X.K = K := by rfl)
    (he : starEach (e :: es) X.env = (false, eval e X.env) :: starEach es X.env := by rfl) (hpl : (backTo pos (starEach es X.env)).any (·.1) = false := by rfl) : DF1 X K (.Call (.Name "sorted" p) (e :: es) [] pos) (tCB (rSortD K) ta) (fun env => (ms env).bind sortD) :=
  ⟨pe_callB (call_sortK hu hK) hg hm boot_sorted' ha.p (by decide) (by decide) he hpl, tf_sort ha.d⟩
end

/-! ### enumerate, zip -/
section
variable {X : Cx} {K : PySem.W.Frag} {e e2 : Expr} {p pos tpos : Pos} {elts : List Expr} {kk : Nat} {ta : TA} {ms : En → Option (List D)}
def enumM (ms : En → Option (List D)) (env : En) : Option (List D) := match ms env with
  | some [.lst ds] => some (enumD ds)
  | some [.scr ds] => some (enumD ds)
  | _ => none
theorem di0_enum (hg : Gl X "enumerate") (hm : X.mg "enumerate" = none) (ha : DA X K [e] ta ms) (hK : X.K = K := by rfl) (hs : starEach [e] X.env = [(false, eval e X.env)] := by rfl) : DI0 X K (.Tuple elts kk tpos) (.Call (.Name "enumerate" p) [e] [] pos) (iEnum K ta) (enumM ms) := by
  subst hK
  refine ⟨pi_enum hg hm ha.p hs, fun H0 env σ H G ds R r e q => ?_⟩
  unfold enumM at e
  split at e
  · rename_i es e1
    cases e
    refine ha.d H0 env σ H G _ _ r e1 fun vs G1 H1 g1 i1 => ?_
    cases i1 with
    | cons a b =>
      cases b
      cases a with
      | lst s1 i2 => exact ⟨_, _, rfl, SqL.of (g1.gh _ _ s1), q _ G1 H1 g1 (src_enum (SqL.of s1) i2)⟩
  · rename_i es e1
    cases e
    refine ha.d H0 env σ H G _ _ r e1 fun vs G1 H1 g1 i1 => ?_
    cases i1 with
    | cons a b =>
      cases b
      cases a with
      | scr s1 i2 => exact ⟨_, _, rfl, same_l g1.gh s1, q _ G1 H1 g1 (src_enum s1 i2)⟩
  · cases e
end

/-! ### a comprehension over the keys of a dict that stands still: locked meanwhile, only scalars beside it -/
section
variable {K : PySem.W.Frag}
def scalD : D → Bool
  | .non => true
  | .bl _ => true
  | .int _ => true
  | .str _ => true
  | _ => false
def keep1 : Option Sl → Option Sl
  | some (.val d) => if scalD d = true then some (.val d) else none
  | _ => none
def scalE (env : En) : En := env.map keep1
theorem scal_is {G G' : Hp} {v : V} {d : D} (h : Is K G v d) (e : scalD d = true) : Is K G' v d := by
  cases h with
  | non => exact .non
  | bl b => exact .bl b
  | int i => exact .int i
  | str s => exact .str s
  | tup _ _ => cases e
  | lst _ _ => cases e
  | scr _ _ => cases e
  | dic _ _ _ => cases e
  | obj _ _ _ => cases e
theorem scalE_rp {H0 G H G' H' : Hp} {env : En} {σ : L2.St} (r : Rp K H0 G env σ H) (gh : Same G' H') : Rp K H0 G' (scalE env) σ H' := by
  have at_ : ∀ (i : Nat) (s : Sl), (scalE env)[i]? = some (some s) → ∃ d, s = .val d ∧ scalD d = true ∧ env[i]? = some (some (.val d)) := fun i s e => by
    unfold scalE at e
    rw [List.getElem?_map] at e
    cases h : env[i]? with
    | none => rw [h] at e; cases e
    | some o =>
      rw [h] at e
      have e' : keep1 o = some s := Option.some.inj e
      unfold keep1 at e'
      split at e'
      · split at e'
        · cases e'; exact ⟨_, rfl, by assumption, rfl⟩
        · cases e'
      · cases e'
  refine ⟨gh, by unfold scalE; rw [List.length_map]; exact r.len, fun i s e => ?_, fun i j s t v _ hi _ o => ?_⟩
  · obtain ⟨d, rfl, h1, h2⟩ := at_ i s e
    obtain ⟨v, h3, h4⟩ := r.sl i _ h2
    exact ⟨v, h3, scal_is h4 h1⟩
  · obtain ⟨d, rfl, _, _⟩ := at_ i s hi
    cases o
def keyToD : Key → D
  | .inl i => .int i
  | .inr s => .str s
theorem src_keys {G H : Hp} {a : Addr} {o : Obj} {kvs : List (Key × V)} (h : H a = some (.frz o (.dK kvs))) : Src K (Itk a o kvs) ((kvs.map (·.1)).map keyToD) H G := by
  refine ⟨fun i H x H' => H' = H ∧ ∃ k v, kvs[i]? = some (k, v) ∧ x = kV k, ?_, fun j H x H' d G' e s1 s2 y => ?_⟩
  · have e : ((kvs.map (·.1)).map keyToD).length = kvs.length := by rw [List.length_map, List.length_map]
    rw [e]
    exact walk_keys.mono (fun H' q => q _ _ h) (fun _ _ _ _ _ _ z => z)
  · obtain ⟨e1, k, v, e2, e3⟩ := y
    subst e1 e3
    rw [List.getElem?_map, List.getElem?_map, e2] at e
    cases e
    refine ⟨G', Go.refl s2, ?_⟩
    cases k with
    | inl i => exact .int i
    | inr s => exact .str s
/-- the run of a comprehension, once its walk has begun -/
theorem lc_run {g : TG} {tt : TT} {te : TE} {js vs : List Nat} {bnd : D → En → Option En} {tst : En → Option Bool} {me : En → Option D} (hg : TGd K g js bnd) (ht : TB K tt tst) (he : TD K te me) (hj : ∀ j ∈ js, j ∈ vs)
    {H0 G1 H1 : Hp} {env : En} {σ : L2.St} {J : It} {ds total : List D} {Q : VK} (r : Rp K H0 G1 env σ H1) (s1 : Src K J ds H1 G1) (hz : ds.length ≤ 100000) (e2 : compM bnd tst me (wipeE env vs) ds = some total)
    (q : ∀ p as G' H', Go G1 H1 G' H' → H1 p = none → G' p = none → H' p = some (.lst as) → IsL K G' as total → Q (.ref p) H') :
    ∀ A, H1 A = none → ∃ W : Nat → Nat → Hp → Prop, (∃ m, W 0 m (upd H1 A (.lst []))) ∧ ∀ i m H, W i m H →
      (J.stop i H ∧ Q (.ref A) H) ∨ (J.go i H ∧ ∃ Nx : Hp → Prop, (∀ H', Nx H' → ∃ m', m' < m ∧ W (i + 1) m' H') ∧ ∀ x H', J.yld i H x H' → g x (wipe σ vs) H' fun σ2 H2 => wipe σ2 vs = wipe σ vs ∧ tt σ2 H2 fun b H3 =>
        if b = true then te σ2 H3 fun y H4 => ∃ acc, H4 A = some (.lst acc) ∧ acc.length < sizeLine ∧ Nx (upd H4 A (.lst (acc ++ [y]))) else Nx H3) := fun A hA => by
  have gh1 := r.gh
  obtain ⟨Y, w, y⟩ := s1.ex
  have nA : G1 A = none := gh1.free hA
  refine lc_it w (fun i H' => ∃ G' acc as rs, Go G1 H1 G' H' ∧ G' A = none ∧ H' A = some (.lst acc) ∧ IsL K G' acc as ∧ as.length ≤ i ∧ compM bnd tst me (wipeE env vs) (ds.drop i) = some rs ∧ as ++ rs = total) ?_ (fun i H' _ ⟨G', acc, as, rs, gg, _⟩ => gg.same) (fun i x H' H2 hlt p hy => ?_) (fun H' p => ?_)
  · refine ⟨G1, [], [], total, ⟨gh1, Same.refl G1, fun a u e => ?_, fun a u n e => ⟨n, ?_⟩⟩, nA, upd_same, .nil, Nat.zero_le _, by simpa using e2, rfl⟩
    · rw [upd_ne (ne_of_none e nA)]; exact gh1 a u e
    · rw [upd_ne (ne_of_none e hA)]; exact e
  · obtain ⟨G', acc, as, rs, gg, nA', eA, ia, hl, ec, et⟩ := p
    rw [List.drop_eq_getElem_cons hlt] at ec
    obtain ⟨env1, a1, a2⟩ := bind_some_of ec
    obtain ⟨b, a3, a4⟩ := bind_some_of a2
    obtain ⟨G2, g2, ix⟩ := y i H' x H2 ds[i] G' (List.getElem?_eq_getElem hlt) gg.g gg.gh hy
    have r2 : Rp K H0 G2 (wipeE env vs) (wipe σ vs) H2 := (wipe_ofs vs r).go (gg.trans g2)
    refine hg H0 _ _ H2 G2 x _ env1 _ r2 ix a1 fun σ2 r3 l3 k3 => ⟨wipe_same hj l3 k3, ?_⟩
    refine ht H0 env1 σ2 H2 G2 b _ r3 a3 fun G3 H3 g3 => ?_
    have gt : Go G1 H1 G3 H3 := (gg.trans g2).trans g3
    obtain ⟨nA3, eA3⟩ := (g2.trans g3).out A _ nA' eA
    cases b with
    | false =>
      have a5 := (if_neg (c := false = true) Bool.false_ne_true).symm.trans a4
      exact iteF ⟨G3, acc, as, rs, gt, nA3, eA3, ia.mono (g2.trans g3).g, by omega, a5, et⟩
    | true =>
      have a5 := (if_pos (c := true = true) rfl).symm.trans a4
      obtain ⟨yd, a6, a7⟩ := bind_some_of a5
      obtain ⟨rs', a8, a9⟩ := bind_some_of a7
      cases a9
      refine iteT (he H0 env1 σ2 H3 G3 yd _ (r3.go g3) a6 fun v G4 H4 g4 i4 => ?_)
      obtain ⟨nA4, eA4⟩ := g4.out A _ nA3 eA3
      have il : acc.length = as.length := ia.len
      refine ⟨acc, eA4, ?_, G4, acc ++ [v], as ++ [yd], rs', ⟨gt.s, gt.g.trans g4.g, fun a u e => ?_, fun a u n e => ?_⟩, nA4, upd_same, (ia.mono ((g2.trans g3).trans g4).g).append (.cons i4 .nil), by rw [List.length_append]; simp; omega, a8, by rw [List.append_assoc]; exact et⟩
      · have : acc.length < 100000 := by omega
        exact Nat.lt_of_lt_of_le this (by decide)
      · rw [upd_ne (ne_of_none e nA4)]; exact g4.gh a u e
      · obtain ⟨n5, e5⟩ := (gt.trans g4).out a u n e
        exact ⟨n5, by rw [upd_ne (ne_of_none e hA)]; exact e5⟩
  · obtain ⟨G', acc, as, rs, gg, nA', eA, ia, hl, ec, et⟩ := p
    rw [List.drop_length] at ec
    cases ec
    rw [List.append_nil] at et
    subst et
    exact q A acc G' H' gg hA nA' eA ia
/-- H without a -/
def hide (H : Hp) (a : Addr) : Hp := fun b => if b = a then none else H b
theorem hide_same {H : Hp} {a : Addr} : hide H a a = none := by unfold hide; rw [if_pos rfl]
theorem hide_ne {H : Hp} {a b : Addr} (h : b ≠ a) : hide H a b = H b := by unfold hide; rw [if_neg h]
def lcKeysM (i : Nat) (vs : List Nat) (bnd : D → En → Option En) (tst : En → Option Bool) (elt : En → Option D) (env : En) : Option D := match env[i]? with
  | some (some (.val (.dic ks _))) => if ks.length ≤ 100000 then (compM bnd tst elt (wipeE (scalE env) vs) (ks.map keyToD)).bind fun r => some (.lst r) else none
  | _ => none
theorem td_lcKeys {g : TG} {tt : TT} {te : TE} {js vs : List Nat} {bnd : D → En → Option En} {tst : En → Option Bool} {me : En → Option D} (i : Nat) (hg : TGd K g js bnd) (ht : TB K tt tst) (he : TD K te me) (hj : ∀ j ∈ js, j ∈ vs) : TD K (tLockE (tLc (iKeys (tVar i)) g tt te vs)) (lcKeysM i vs bnd tst me) := fun H0 env σ H G d Q r e q => by
  unfold lcKeysM at e
  split at e
  · rename_i ks ds e1
    split at e
    · rename_i hz
      obtain ⟨total, e2, e3⟩ := bind_some_of e
      cases e3
      obtain ⟨v, hσ, iv⟩ := r.sl i _ e1
      cases iv with
      | dic ga hk iv =>
        rename_i a kvs
        have ha := r.gh _ _ ga
        refine ⟨a, .dK kvs, ha, trivial, fun od => ?_⟩
        have gh1 : Same (hide G a) (upd H a (.frz od (.dK kvs))) := fun b u e => by
          by_cases hb : b = a
          · subst hb; rw [hide_same] at e; cases e
          · rw [hide_ne hb] at e; rw [upd_ne hb]; exact r.gh b u e
        refine ⟨_, hσ, a, od, rfl, .inl ⟨kvs, upd_same, ?_⟩⟩
        have ekl : ((kvs.map (·.1)).map keyToD).length ≤ 100000 := by rw [List.length_map, hk]; exact hz
        refine lc_run (Q := fun v H2 => H2 a = some (.frz od (.dK kvs)) ∧ Q v (upd H2 a (.dK kvs))) hg ht he hj (scalE_rp r gh1) (src_keys upd_same) ekl (by rw [hk]; exact e2) fun p as G' H' gg hp np e4 i4 => ?_
        obtain ⟨na, ea⟩ := gg.out a _ hide_same upd_same
        refine ⟨ea, ?_⟩
        have hpa : p ≠ a := fun z => by rw [z, upd_same] at hp; cases hp
        have hpH : H p = none := by rw [upd_ne hpa] at hp; exact hp
        have g1 : Go G H (upd G' a (.dK kvs)) (upd H' a (.dK kvs)) := by
          refine ⟨r.gh, fun b u e => ?_, fun b u e => ?_, fun b u n e => ?_⟩
          · by_cases hb : b = a
            · subst hb; rw [upd_same]; rw [ga] at e; exact e
            · rw [upd_ne hb]; exact gg.g b u (by rw [hide_ne hb]; exact e)
          · by_cases hb : b = a
            · subst hb; rw [upd_same] at e ⊢; exact e
            · rw [upd_ne hb] at e ⊢; exact gg.gh b u e
          · have hb : b ≠ a := fun z => by rw [z, ga] at n; cases n
            rw [upd_ne hb, upd_ne hb]
            exact gg.out b u (by rw [hide_ne hb]; exact n) (by rw [upd_ne hb]; exact e)
        have np2 : upd G' a (.dK kvs) p = none := by rw [upd_ne hpa]; exact np
        have e5 : upd H' a (.dK kvs) p = some (.lst as) := by rw [upd_ne hpa]; exact e4
        refine q (.ref p) _ _ (g1.fix hpH np2 e5) (.lst upd_same ((i4.mono ?_).mono (same_upd np2)))
        exact same_upd na
    · cases e
  · cases e
end
section
variable {X : Cx} {K : PySem.W.Frag} {elt tg : Expr} {ifs : List Expr} {scope : Scope} {own : List (Str × Nat)} {pos p : Pos} {g : TG} {tt : TT} {te : TE} {js : List Nat} {wi : TI}
def orM' (m n : En → Option D) (env : En) : Option D := match m env with
  | some d => some d
  | none => n env
/-- a comprehension over a name that may hold a dict, or a list -/
theorem de_lcAny {x : Str} {mi : En → Option (List D)} {bnd : D → En → Option En} {tst : En → Option Bool} {me : En → Option D} (i : Nat) (hc : X.calm = true) (hN : X.N.Nodup) (hi : DI1 X K tg (.Name x p) wi mi) (hpv : PE X (.Name x p) (tVar i)) (ok : BlkOk X.N X.env.scope scope own)
    (hg : ∀ (s : Shared) (H : Hp) (C : Addr) (cl : List (Str × Addr)) (fp : List Addr), DG (X.blk s H scope (compEnvC scope cl C X.env) fp) K tg g js bnd) (ht : ∀ (s : Shared) (H : Hp) (C : Addr) (cl : List (Str × Addr)) (fp : List Addr), DTs (X.blk s H scope (compEnvC scope cl C X.env) fp) K ifs tt tst)
    (he : ∀ (s : Shared) (H : Hp) (C : Addr) (cl : List (Str × Addr)) (fp : List Addr), DE (X.blk s H scope (compEnvC scope cl C X.env) fp) K elt te me) (hj : js.all (fun j => (own.map (·.2)).contains j) = true) (h0 : Shared) (hs : ∀ y, foldedSetIterable (.Name x p) X.env y = pure y := by intro _; rfl) :
    DE X K (.ListComp elt [⟨tg, .Name x p, ifs, 0⟩] scope pos) (fun σ H Q => tLockE (tLc (iKeys (tVar i)) g tt te (own.map (·.2))) σ H Q ∨ tLc wi g tt te (own.map (·.2)) σ H Q) (orM' (lcKeysM i (own.map (·.2)) bnd tst me) (asLst (lcM (own.map (·.2)) mi bnd tst me))) := by
  have hj' : ∀ j ∈ js, j ∈ own.map (·.2) := fun j hm => by
    have := List.all_eq_true.mp hj j hm
    simpa using this
  have G1 := (hg h0 (fun _ => none) 0 [] []).d
  have T1 := (ht h0 (fun _ => none) 0 [] []).d
  have E1 := (he h0 (fun _ => none) 0 [] []).d
  refine ⟨PE.or (pe_lock (pe_lc hc hN (pi_keys hpv) ok (fun s H C cl fp => (hg s H C cl fp).p) (fun s H C cl fp => (ht s H C cl fp).p) (fun s H C cl fp => (he s H C cl fp).p) hs)) (pe_lc hc hN hi.p ok (fun s H C cl fp => (hg s H C cl fp).p) (fun s H C cl fp => (ht s H C cl fp).p) (fun s H C cl fp => (he s H C cl fp).p) hs), fun H0 env σ H G d Q r e q => ?_⟩
  unfold orM' at e
  split at e
  · rename_i e1
    cases e
    exact .inl (td_lcKeys i G1 T1 E1 hj' H0 env σ H G _ Q r e1 q)
  · exact .inr ((tf_lc hi.d G1 T1 E1 hj').d H0 env σ H G _ Q r e q)
end

/-! ### calls with keywords alone -/
structure DK (X : Cx) (K : PySem.W.Frag) (kws : List Keyword) (t : TA) (m : En → Option (List D)) : Prop where
  p : PK X kws t
  d : TAd K t m
section
variable {X : Cx} {K : PySem.W.Frag} {e : Expr} {kws : List Keyword} {te : TE} {t tk : TA} {nm : Option Str} {kpos pos p : Pos} {m : En → Option D} {ms : En → Option (List D)}
theorem dk_nil : DK X K [] tNil (fun _ => some []) := ⟨pk_nil, tad_nil⟩
theorem dk_cons (h1 : DE X K e te m) (h2 : DK X K kws t ms) : DK X K (⟨nm, e, kpos⟩ :: kws) (tCons te t) (consM m ms) := by
  refine ⟨pk_cons h1.p h2.p, fun H0 env σ H G ds Q r e q => ?_⟩
  obtain ⟨d, ds', e1, e2, rfl⟩ := consM_some e
  refine h1.d H0 env σ H G d _ r e1 fun v G1 H1 g1 i1 => ?_
  exact h2.d H0 env σ H1 G1 ds' _ (r.go g1) e2 fun vs G2 H2 g2 i2 => q _ G2 H2 (g1.trans g2) (.cons (i1.mono g2.g) i2)
end
end Dl

set_option Elab.async false
set_option linter.all false
set_option maxRecDepth 100000
set_option maxHeartbeats 2000000
/-! Values as data: keywords, short names, the law's own end. -/
namespace Dl
open PySem PySem.Spec PyProof.Rows L2
abbrev cI (i : Int) : En → Option D := fun _ => some (.int i)
abbrev cS (s : Str) : En → Option D := fun _ => some (.str s)
abbrev cB (b : Bool) : En → Option D := fun _ => some (.bl b)
abbrev cN : En → Option D := fun _ => some .non
abbrev nilM : En → Option (List D) := fun _ => some []
abbrev lstF (ms : En → Option (List D)) : En → Option (List D) := fun env => (ms env).bind fun ds => if ds.length ≤ 100000 then some ds else none
abbrev listF (ms : En → Option (List D)) : En → Option (List D) := fun env => (ms env).bind listD
abbrev sortF (ms : En → Option (List D)) : En → Option (List D) := fun env => (ms env).bind sortD
abbrev unM (f : D → Option D) (m : En → Option D) : En → Option D := fun env => (m env).bind f
abbrev noP : En → Option (Option Int) := fun _ => some none
abbrev yesM : En → Option Bool := fun _ => some true
abbrev nextM : En → Option Out := fun env => some (.nx env)
abbrev retF (m : En → Option D) : En → Option Out := fun env => retM m (frzAll env)
abbrev retN : En → Option Out := fun _ => some (.rt .non)
abbrev frzM (is : List Nat) (ms : En → Option Out) : En → Option Out := fun env => ms (frzL is env)
abbrev newDict (i : Nat) : En → Option Out := fun env => some (.nx (env.set i (some (.ownd [] []))))
abbrev breakM : En → Option Out := fun env => some (.bk env)
abbrev contM : En → Option Out := fun env => some (.ct env)

section
variable {X : Cx} {K : PySem.W.Frag} {a b c : Expr} {ta tb tc : TE} {pos : Pos} {ma mb mc : En → Option D}
def chainM (ma mb mc : En → Option D) (f g : D → D → Option D) (env : En) : Option D := (ma env).bind fun d => (mb env).bind fun e => (f d e).bind fun
  | .bl true => (mc env).bind fun z => g e z
  | .bl false => some (.bl false)
  | _ => none
end
/-! ### keywords alone -/
section
variable {P : Program} {w : World} {K : PySem.W.Frag} {mg : Str → Option Value} {base : Heap}
/-- .. and binds its parameters by keywords in their order, too -/
structure DFK (P : Program) (w : World) (K : PySem.W.Frag) (mg : Str → Option Value) (base : Heap) (x : Str) (k : Nat) (ps : List Str) (f : List D → Option D) : Prop where
  ex : ∃ (fa : Addr) (fd : FuncData), mg x = some (.ref fa) ∧ PySem.W.keepIn K (.ref fa) = true ∧ Binds K fd ps [] ∧ FnOk P w K mg base CX0 k fa fd ps (spD K f) ∧ ∀ (s : Shared) (ws : List Value), ws.length = ps.length → BindsTo s fd ⟨[], ps.zip ws⟩ (ps.zip ws)
theorem DFK.df {x : Str} {k : Nat} {ps : List Str} {f : List D → Option D} (h : DFK P w K mg base x k ps f) : DF P w K mg base x k ps f := let ⟨fa, fd, a, b, c, d, _⟩ := h.ex; ⟨fa, fd, a, b, c, d⟩
/-- how a def binds by keywords -/
theorem kw_of {x qual : Str} {st : Stmt} {fa : Addr} {fd : FuncData} {ps : List Str} (F : Fun K x qual st fa fd)
    (h : ∀ (kV doc pm : Value) (an : Option Addr) (cdv ct : Value) (us : List Value), us.length = ps.length → bindArgs (PySem.W.fnOf x qual (defArgs st) (defBody st) (defScope st) .none kV doc pm an cdv ct) ⟨[], ps.zip us⟩ = pure (ps.zip us)) (s : Shared) (ws : List Value) (hl : ws.length = ps.length) : BindsTo s fd ⟨[], ps.zip ws⟩ (ps.zip ws) := by
  obtain ⟨_, _, v1, v2, v3, v4, v5, v6, _, rfl, _, _⟩ := F.ex
  exact .of_eq (h v1 v2 v3 v4 v5 v6 ws hl)
end
section
variable {X : Cx} {K : PySem.W.Frag} {kws : List Keyword} {tk : TA} {pos p : Pos} {ms : En → Option (List D)}
theorem de_callK {x : Str} {k j : Nat} {ps : List Str} {f : List D → Option D} (F : DFK X.prog X.w K X.mg X.base x k ps f) (hr : Room j X.A) (hg : Gl X x) (ha : DK X K kws tk ms) (hkj : k ≤ j) (hK : X.K = K := by rfl)
    (hall : (backToKw pos (keywordEach kws X.env)).all (·.1.isSome) = true := by rfl) (hks : (backToKw pos (keywordEach kws X.env)).filterMap (·.1) = ps := by rfl) (hdb : (x == ("__debug__" : Str)) = false := by decide)
    (hpl : ((backTo pos (starEach [] X.env)).any (·.1) || (backToKw pos (keywordEach kws X.env)).any (·.1.isNone)) = false := by rfl) : DE X K (.Call (.Name x p) [] kws pos) (fun σ H Q => tk σ H fun vs H1 => spD K f vs H1 Q E0) (callM f ms) := by
  subst hK
  obtain ⟨fa, fd, hm, hk, hb, F, hkw⟩ := F.ex
  refine ⟨⟨fun pins s σ H Q I h => ?_⟩, fun H0 env σ H G z Q rp e q => ?_⟩
  · refine wpAny_Call_Name_kw (ld_glob I hg hm ?_ hdb)
    refine PySem.W.callWith_KW0 (h₀ := X.base) I.ok.mod.kin hk hall (thn (ha.p.run pos pins s σ H _ I h) fun ws s2 ⟨zs, H2, I2, rz, q2⟩ => ⟨I2.kIn, ?_⟩) hpl
    rw [hks]
    have hl : ws.length = ps.length := by rw [← rz.length]; exact F.len _ _ _ _ q2
    refine wpAny_call (codeAny_mono (F.run X.A X.stack s2 H2 ⟨[], ps.zip ws⟩ ws zs Q E0 (hr.mono hkj) I2.env0 (hkw s2 ws hl) rz q2) fun r s' hq => ?_)
    cases r with
    | error e => exact hq.elim
    | ok fl =>
      cases fl with
      | ret u => exact I2.after hq
      | next => exact False.elim hq
      | brk => exact False.elim hq
      | cont => exact False.elim hq
  · obtain ⟨ds, e1, e2⟩ := bind_some_of e
    exact ha.d H0 env σ H G ds _ rp e1 fun vs G1 H1 g1 i1 => ⟨G1, ds, z, g1.gh, i1, e2, fun v G2 H2 g2 i2 => q v G2 H2 (g1.trans g2) i2⟩
end
/-- a def's function, told otherwise -/
theorem DF.as {P : Program} {w : World} {K : PySem.W.Frag} {mg : Str → Option Value} {base : Heap} {x : Str} {k : Nat} {ps : List Str} {f g : List D → Option D} (h : DF P w K mg base x k ps f) (e : f = g) : DF P w K mg base x k ps g := e ▸ h
/-- more calls allowed -/
theorem DF.mono {P : Program} {w : World} {K : PySem.W.Frag} {mg : Str → Option Value} {base : Heap} {x : Str} {k k' : Nat} {ps : List Str} {f : List D → Option D} (h : DF P w K mg base x k ps f) (e : k ≤ k') : DF P w K mg base x k' ps f :=
  let ⟨fa, fd, a, b, c, d⟩ := h.ex; ⟨fa, fd, a, b, c, d.mono e⟩
/-- a def that may not be called at all -/
theorem fn_zero {P : Program} {w : World} {K : PySem.W.Frag} {mg : Str → Option Value} {base : Heap} {fa : Addr} {fd : FuncData} {ps : List Str} {k : Nat} : FnOk P w K mg base CX0 k fa fd ps (spD K fun _ => none) := by
  have no : ∀ vs H Q E, ¬ spD K (fun _ => none) vs H Q E := fun vs H Q E h => by
    obtain ⟨G, ds, d, _, _, e, _⟩ := h
    cases e
  exact ⟨fun vs H Q E h => absurd h (no vs H Q E), fun A outer s H args us vs Q E _ _ _ _ h => absurd h (no vs H Q E)⟩
/-- what the law is asked at -/
theorem law_sp {K : PySem.W.Frag} {H : Hp} {a : Addr} {ns : List Int} {f : List D → Option D} (hS : SqL K H a (ns.map V.int)) (h : f [.scr (ns.map D.int)] = some (.bl true)) : spD K f [.ref a] H (fun v _ => v = .bl true) fun _ _ _ => False := by
  have il : ∀ l : List Int, IsL K H (l.map V.int) (l.map D.int) := fun l => by
    induction l with
    | nil => exact .nil
    | cons x r ih => exact .cons (.int x) ih
  exact ⟨H, [.scr (ns.map D.int)], .bl true, Same.refl H, .cons (.scr hS (il ns)) .nil, h, fun v G' H' _ i => by cases i; rfl⟩
end Dl

set_option Elab.async false
set_option linter.all false
set_option maxRecDepth 100000
set_option maxHeartbeats 4000000
namespace My
open PySem PySem.Spec PyProof.Rows L2 Dl
def topS (i : Nat) : Stmt := PySem.Challenge.pw_twowaysigns_k10_fillings_composed.main.body.getD i (.Pass ⟨0, 0, 0, 0⟩)

/-! ### in_variable_order -/
abbrev s_in_variable_order : Stmt := topS 1
abbrev n_in_variable_order : List Str := ["variables", "keyed", "variable", "_", "name"]
theorem sc_in_variable_order : FnScope n_in_variable_order ["variables"] (defScope s_in_variable_order) := ⟨rfl, rfl, rfl, by decide +kernel, rfl, by decide +kernel, by decide +kernel⟩
def m_in_variable_order : En → Option Out :=
    (seqM (setM 1 (asLst (sortF (consM (orM' (lcKeysM 0 [2] (bndN 2) yesM (tupM (consM (callM lenD (consM (nameV 2) nilM)) (consM (nameV 2) nilM)))) (asLst (lcM [2] (itemsA (nameV 0)) (bndN 2) yesM (tupM (consM (callM lenD (consM (nameV 2) nilM)) (consM (nameV 2) nilM)))))) nilM))))
    (retF (callM tupleD (consM (asLst (lcM [3, 4] (itemsA (nameV 1)) (bndT 2 (bndC (bndN 3) (bndC (bndN 4) bndNil))) yesM (nameV 4))) nilM))))
def f_in_variable_order : List D → Option D := bodyM 1 5 m_in_variable_order
section
variable {P : Program} {w : World} {K : PySem.W.Frag} {mg : Str → Option Value} {base : Heap} {fa : Addr} {fd : FuncData}
theorem ok_in_variable_order (F : Fun K "in_variable_order" "in_variable_order" s_in_variable_order fa fd) (z_len : mg "len" = none) (z_sorted : mg "sorted" = none) (z_tuple : mg "tuple" = none) : FnOk P w K mg base CX0 1 fa fd ["variables"] (spD K f_in_variable_order) :=
  fn_ok (k := 0) F sc_in_variable_order fun cdv A outer s0 H E hr =>
    (dss_cons (ds_set 1 (DF1.e (df_sorted hr.units (by rfl) z_sorted (dar_cons (dr_of (de_lcAny (own := [("variable", 2)]) 0 rfl sc_in_variable_order.nd (di1_seq (dr_of (de_name 0))) (pv 0) (blkOk_by (own := [("variable", 2)]) (N := n_in_variable_order) (sc := defScope s_in_variable_order) (by decide +kernel)) (fun _ _ _ _ _ => (dg_name 2 sc_in_variable_order.nd)) (fun _ _ _ _ _ => dts_nil) (fun _ _ _ _ _ => (de_tup (da_cons (de_callB (call_lenA rfl) rc_len (by rfl) z_len PySem.boot_len (dar_cons (dr_of (de_name 2)) dar_nil)) (da_cons (de_name 2) da_nil)))) (by rfl) s0)) dar_nil))) sc_in_variable_order.nd)
    (dss_one (ds_ret (de_callTy (call_tupleK rfl) rc_tuple (by rfl) z_tuple boot_tuple (dar_cons (dr_of (DF1.e (DLc.toDF1 (dlc (own := [("_", 3), ("name", 4)]) rfl sc_in_variable_order.nd (di1_seq (dr_of (de_name 1))) (blkOk_by (own := [("_", 3), ("name", 4)]) (N := n_in_variable_order) (sc := defScope s_in_variable_order) (by decide +kernel)) (fun _ _ _ _ _ => (dg_tup rfl (dgs_cons (dg_name 3 sc_in_variable_order.nd) (dgs_cons (dg_name 4 sc_in_variable_order.nd) dgs_nil)))) (fun _ _ _ _ _ => dts_nil) (fun _ _ _ _ _ => (de_name 4)) (by rfl) s0)))) dar_nil)))))
end

/-! ### _replaced -/
abbrev s_replaced : Stmt := topS 6
abbrev n_replaced : List Str := ["term", "named", "argument"]
theorem sc_replaced : FnScope n_replaced ["term", "named"] (defScope s_replaced) := ⟨rfl, rfl, rfl, by decide +kernel, rfl, by decide +kernel, by decide +kernel⟩
def m_replaced (self : List D → Option D) : En → Option Out :=
    (seqM (ifM (boolM (unM (isiD "str") (nameV 0))) (retF (bind3 (nameV 1) (nameV 0) (nameV 0) get2D)) nextM)
    (retF (bind2 (tupM (consM (bind2 (nameV 0) (cI 0) ixD) nilM)) (callM tupleD (consM (asLst (lcM [2] (itemsA (slM (nameV 0) (partM (cI 1)) noP)) (bndN 2) yesM (callM self (consM (nameV 2) (consM (nameV 1) nilM))))) nilM)) addD)))
def f_replaced_ : Nat → List D → Option D
  | 0 => fun _ => none
  | n + 1 => bodyM 2 3 (m_replaced (f_replaced_ n))
def f_replaced : List D → Option D := f_replaced_ 24
section
variable {P : Program} {w : World} {K : PySem.W.Frag} {mg : Str → Option Value} {base : Heap} {fa : Addr} {fd : FuncData}
theorem ok1_replaced {self : List D → Option D} {k : Nat} (hk : 0 ≤ k) (F : Fun K "_replaced" "_replaced" s_replaced fa fd) (z_isinstance : mg "isinstance" = none) (z_str : mg "str" = none) (z_tuple : mg "tuple" = none) (F_replaced : DF P w K mg base "_replaced" k ["term", "named"] self) : FnOk P w K mg base CX0 (k + 1) fa fd ["term", "named"] (spD K (bodyM 2 3 (m_replaced self))) :=
  fn_ok F sc_replaced fun cdv A outer s0 H E hr =>
    (dss_cons (ds_if (dt_val (de_isi (T := "str") (Tn := "str") (dr_of (de_name 0)) (by rfl) z_isinstance (by rfl) z_str boot_str))
    (dss_one (ds_ret (de_get2 (hu_of hr) (dr_of (de_name 1)) (dr_of (de_name 0)) (de_name 0) ⟨rfl, rfl, rfl, rfl⟩)))
    dss_nil)
    (dss_one (ds_ret (de_op (op_addA rfl) ro_add (dr_of (de_tup (da_cons (de_ix (hu_of hr) (dr_of (de_name 0)) (dr_of de_int)) da_nil))) (dr_of (de_callTy (call_tupleK rfl) rc_tuple (by rfl) z_tuple boot_tuple (dar_cons (dr_of (DF1.e (DLc.toDF1 (dlc (own := [("argument", 2)]) rfl sc_replaced.nd (di1_seq (dr_of (de_slice (dr_of (de_name 0)) (do_some (dr_of de_int)) do_none))) (blkOk_by (own := [("argument", 2)]) (N := n_replaced) (sc := defScope s_replaced) (by decide +kernel)) (fun _ _ _ _ _ => (dg_name 2 sc_replaced.nd)) (fun _ _ _ _ _ => dts_nil) (fun _ _ _ _ _ => (de_call F_replaced hr (by rfl) (da_cons (de_name 2) (da_cons (de_name 1) da_nil)) (by omega))) (by rfl) s0)))) dar_nil)))))))
theorem ok2_replaced (F : Fun K "_replaced" "_replaced" s_replaced fa fd) (z_isinstance : mg "isinstance" = none) (z_str : mg "str" = none) (z_tuple : mg "tuple" = none) (hm : mg "_replaced" = some (.ref fa)) (hb : Binds K fd ["term", "named"] []) : ∀ n : Nat, FnOk P w K mg base CX0 (0 + n) fa fd ["term", "named"] (spD K (f_replaced_ n))
  | 0 => fn_zero
  | n + 1 => ok1_replaced (Nat.le_add_right _ _) F z_isinstance z_str z_tuple ⟨fa, fd, hm, F.kp, hb, ok2_replaced F z_isinstance z_str z_tuple hm hb n⟩
end

/-! ### fill_term -/
abbrev s_fill_term : Stmt := topS 3
abbrev n_fill_term : List Str := ["term", "filling", "variable", "new"]
theorem sc_fill_term : FnScope n_fill_term ["term", "filling"] (defScope s_fill_term) := ⟨rfl, rfl, rfl, by decide +kernel, rfl, by decide +kernel, by decide +kernel⟩
def m_fill_term : En → Option Out :=
    (retF (callM f_replaced (consM (nameV 0) (consM (asDic (dcM [2, 3] (itemsA (nameV 1)) (bndT 2 (bndC (bndN 2) (bndC (bndN 3) bndNil))) yesM (nameV 2) (nameV 3))) nilM))))
def f_fill_term : List D → Option D := bodyM 2 4 m_fill_term
section
variable {P : Program} {w : World} {K : PySem.W.Frag} {mg : Str → Option Value} {base : Heap} {fa : Addr} {fd : FuncData}
theorem ok_fill_term (F : Fun K "fill_term" "fill_term" s_fill_term fa fd) (F_replaced : DF P w K mg base "_replaced" 24 ["term", "named"] f_replaced) : FnOk P w K mg base CX0 25 fa fd ["term", "filling"] (spD K f_fill_term) :=
  fn_ok (k := 24) F sc_fill_term fun cdv A outer s0 H E hr =>
    (dss_one (ds_ret (de_call F_replaced hr (by rfl) (da_cons (de_name 0) (da_cons (DFd.e (dfd_dc (own := [("variable", 2), ("new", 3)]) rfl sc_fill_term.nd (di1_seq (dr_of (de_name 1))) (blkOk_by (own := [("variable", 2), ("new", 3)]) (N := n_fill_term) (sc := defScope s_fill_term) (by decide +kernel)) (fun _ _ _ _ _ => (dg_tup rfl (dgs_cons (dg_name 2 sc_fill_term.nd) (dgs_cons (dg_name 3 sc_fill_term.nd) dgs_nil)))) (fun _ _ _ _ _ => dts_nil) (fun _ _ _ _ _ => (de_name 2)) (fun _ _ _ _ _ => (de_name 3)) (by rfl) s0)) da_nil)) (by omega))))
end

/-! ### fill_row -/
abbrev s_fill_row : Stmt := topS 4
abbrev n_fill_row : List Str := ["row", "filling", "named", "variable", "new", "term"]
theorem sc_fill_row : FnScope n_fill_row ["row", "filling"] (defScope s_fill_row) := ⟨rfl, rfl, rfl, by decide +kernel, rfl, by decide +kernel, by decide +kernel⟩
def m_fill_row : En → Option Out :=
    (seqM (setM 2 (asDic (dcM [3, 4] (itemsA (nameV 1)) (bndT 2 (bndC (bndN 3) (bndC (bndN 4) bndNil))) yesM (nameV 3) (nameV 4))))
    (retF (callM tupleD (consM (asLst (lcM [5] (itemsA (nameV 0)) (bndN 5) yesM (callM f_replaced (consM (nameV 5) (consM (nameV 2) nilM))))) nilM))))
def f_fill_row : List D → Option D := bodyM 2 6 m_fill_row
section
variable {P : Program} {w : World} {K : PySem.W.Frag} {mg : Str → Option Value} {base : Heap} {fa : Addr} {fd : FuncData}
theorem ok_fill_row (F : Fun K "fill_row" "fill_row" s_fill_row fa fd) (F_replaced : DF P w K mg base "_replaced" 24 ["term", "named"] f_replaced) (z_tuple : mg "tuple" = none) : FnOk P w K mg base CX0 25 fa fd ["row", "filling"] (spD K f_fill_row) :=
  fn_ok (k := 24) F sc_fill_row fun cdv A outer s0 H E hr =>
    (dss_cons (ds_set 2 (DFd.e (dfd_dc (own := [("variable", 3), ("new", 4)]) rfl sc_fill_row.nd (di1_seq (dr_of (de_name 1))) (blkOk_by (own := [("variable", 3), ("new", 4)]) (N := n_fill_row) (sc := defScope s_fill_row) (by decide +kernel)) (fun _ _ _ _ _ => (dg_tup rfl (dgs_cons (dg_name 3 sc_fill_row.nd) (dgs_cons (dg_name 4 sc_fill_row.nd) dgs_nil)))) (fun _ _ _ _ _ => dts_nil) (fun _ _ _ _ _ => (de_name 3)) (fun _ _ _ _ _ => (de_name 4)) (by rfl) s0)) sc_fill_row.nd)
    (dss_one (ds_ret (de_callTy (call_tupleK rfl) rc_tuple (by rfl) z_tuple boot_tuple (dar_cons (dr_of (DF1.e (DLc.toDF1 (dlc (own := [("term", 5)]) rfl sc_fill_row.nd (di1_seq (dr_of (de_name 0))) (blkOk_by (own := [("term", 5)]) (N := n_fill_row) (sc := defScope s_fill_row) (by decide +kernel)) (fun _ _ _ _ _ => (dg_name 5 sc_fill_row.nd)) (fun _ _ _ _ _ => dts_nil) (fun _ _ _ _ _ => (de_call F_replaced hr (by rfl) (da_cons (de_name 5) (da_cons (de_name 2) da_nil)) (by omega))) (by rfl) s0)))) dar_nil)))))
end

/-! ### composed -/
abbrev s_composed : Stmt := topS 5
abbrev n_composed : List Str := ["one", "two", "news", "variable", "new", "name"]
theorem sc_composed : FnScope n_composed ["one", "two"] (defScope s_composed) := ⟨rfl, rfl, rfl, by decide +kernel, rfl, by decide +kernel, by decide +kernel⟩
def l1_composed : En → Option Out := (dputM 2 (nameV 3) (callM f_fill_term (consM (nameV 4) (consM (nameV 1) nilM))))
def m_composed : En → Option Out :=
    (seqM (setOwndM 2 (dcM [3, 4] (itemsA (nameV 1)) (bndT 2 (bndC (bndN 3) (bndC (bndN 4) bndNil))) yesM (nameV 3) (nameV 4)))
    (seqM (forM (itemsA (nameV 0)) (bndT 2 (bndC (bndN 3) (bndC (bndN 4) bndNil))) l1_composed)
    (retF (callM tupleD (consM (asLst (lcM [5] (itemsA (callM f_in_variable_order (consM (nameV 2) nilM))) (bndN 5) (boolM (bind2 (bind2 (nameR 2) (nameV 5) ixD) (nameV 5) neD)) (tupM (consM (nameV 5) (consM (bind2 (nameR 2) (nameV 5) ixD) nilM))))) nilM)))))
def f_composed : List D → Option D := bodyM 2 6 m_composed
section
variable {P : Program} {w : World} {K : PySem.W.Frag} {mg : Str → Option Value} {base : Heap} {fa : Addr} {fd : FuncData}
theorem ok_composed (F : Fun K "composed" "composed" s_composed fa fd) (F_in_variable_order : DF P w K mg base "in_variable_order" 1 ["variables"] f_in_variable_order) (K_fill_term : DFK P w K mg base "fill_term" 25 ["term", "filling"] f_fill_term) (z_tuple : mg "tuple" = none) : FnOk P w K mg base CX0 26 fa fd ["one", "two"] (spD K f_composed) :=
  fn_ok (k := 25) F sc_composed fun cdv A outer s0 H E hr =>
    (dss_cons (ds_setOwnd 2 (dfd_dc (own := [("variable", 3), ("new", 4)]) rfl sc_composed.nd (di1_seq (dr_of (de_name 1))) (blkOk_by (own := [("variable", 3), ("new", 4)]) (N := n_composed) (sc := defScope s_composed) (by decide +kernel)) (fun _ _ _ _ _ => (dg_tup rfl (dgs_cons (dg_name 3 sc_composed.nd) (dgs_cons (dg_name 4 sc_composed.nd) dgs_nil)))) (fun _ _ _ _ _ => dts_nil) (fun _ _ _ _ _ => (de_name 3)) (fun _ _ _ _ _ => (de_name 4)) (by rfl) s0) sc_composed.nd)
    (dss_cons (ds_for PassesOwn.never rfl (di0_seq (de_name 0)) (dg_tup rfl (dgs_cons (dg_name 3 sc_composed.nd) (dgs_cons (dg_name 4 sc_composed.nd) dgs_nil))) (dss_one (ds_dput 2 (hu_of hr) (de_name 3) (de_call K_fill_term.df hr (by rfl) (da_cons (de_name 4) (da_cons (de_name 1) da_nil)) (by omega)))))
    (dss_one (ds_ret (de_callTy (call_tupleK rfl) rc_tuple (by rfl) z_tuple boot_tuple (dar_cons (dr_of (DF1.e (DLc.toDF1 (dlc (own := [("name", 5)]) rfl sc_composed.nd (di1_seq (dr_of (de_call F_in_variable_order hr (by rfl) (da_cons (de_name 2) da_nil) (by omega)))) (blkOk_by (own := [("name", 5)]) (N := n_composed) (sc := defScope s_composed) (by decide +kernel)) (fun _ _ _ _ _ => (dg_name 5 sc_composed.nd)) (fun _ _ _ _ _ => (dts_one (dt_cmp (op_neK hr.units rfl) ro_ne (dr_of (de_ix (hu_of hr) (dr_name 2) (dr_of (de_name 5)))) (dr_of (de_name 5)) (nomark _)))) (fun _ _ _ _ _ => (de_tup (da_cons (de_name 5) (da_cons (de_ix (hu_of hr) (dr_name 2) (dr_of (de_name 5))) da_nil)))) (by rfl) s0)))) dar_nil))))))
end

/-! ### _law_cell -/
abbrev s_law_cell : Stmt := topS 8
abbrev n_law_cell : List Str := ["script", "k", "seed", "cell"]
theorem sc_law_cell : FnScope n_law_cell ["script", "k"] (defScope s_law_cell) := ⟨rfl, rfl, rfl, by decide +kernel, rfl, by decide +kernel, by decide +kernel⟩
def l1_law_cell : En → Option Out := (setM 2 (bind2 (callM intD (consM (bind2 (bind2 (nameV 2) (cI 31) mulD) (bind2 (callM intD (consM (nameV 3) nilM)) (cI 1000003) modD) addD) nilM)) (cI 1000003) modD))
def m_law_cell : En → Option Out :=
    (seqM (ifM (boolM (bind2 (nameV 1) (callM lenD (consM (nameV 0) nilM)) (cmpD fun i j => decide (i < j)))) (retF (bind2 (nameV 0) (nameV 1) ixD)) nextM)
    (seqM (setM 2 (cI 17))
    (seqM (forM (itemsA (nameV 0)) (bndN 3) l1_law_cell)
    (retF (bind2 (callM intD (consM (bind2 (bind2 (bind2 (nameV 2) (cI 7) addD) (bind2 (nameV 1) (cI 3) addD) mulD) (cI 69621) mulD) nilM)) (cI 2147483647) modD)))))
def f_law_cell : List D → Option D := bodyM 2 4 m_law_cell
section
variable {P : Program} {w : World} {K : PySem.W.Frag} {mg : Str → Option Value} {base : Heap} {fa : Addr} {fd : FuncData}
theorem ok_law_cell (F : Fun K "_law_cell" "_law_cell" s_law_cell fa fd) (z_int : mg "int" = none) (z_len : mg "len" = none) : FnOk P w K mg base CX0 1 fa fd ["script", "k"] (spD K f_law_cell) :=
  fn_ok (k := 0) F sc_law_cell fun cdv A outer s0 H E hr =>
    (dss_cons (ds_if (dt_cmp op_lt (ro_cmp fun i j => decide (i < j)) (dr_of (de_name 1)) (dr_of (de_callB (call_lenA rfl) rc_len (by rfl) z_len PySem.boot_len (dar_cons (dr_of (de_name 0)) dar_nil))) (nomark _))
    (dss_one (ds_ret (de_ix (hu_of hr) (dr_of (de_name 0)) (dr_of (de_name 1)))))
    dss_nil)
    (dss_cons (ds_set 2 de_int sc_law_cell.nd)
    (dss_cons (ds_for PassesOwn.never rfl (di0_seq (de_name 0)) (dg_name 3 sc_law_cell.nd) (dss_one (ds_set 2 (de_op op_mod ro_mod (dr_of (de_callTy call_int1 rc_int (by rfl) z_int boot_int (dar_cons (dr_of (de_op (op_addA rfl) ro_add (dr_of (de_op op_mulA ro_mul (dr_of (de_name 2)) (dr_of de_int))) (dr_of (de_op op_mod ro_mod (dr_of (de_callTy call_int1 rc_int (by rfl) z_int boot_int (dar_cons (dr_of (de_name 3)) dar_nil))) (dr_of de_int))))) dar_nil))) (dr_of de_int)) sc_law_cell.nd)))
    (dss_one (ds_ret (de_op op_mod ro_mod (dr_of (de_callTy call_int1 rc_int (by rfl) z_int boot_int (dar_cons (dr_of (de_op op_mulA ro_mul (dr_of (de_op op_mulA ro_mul (dr_of (de_op (op_addA rfl) ro_add (dr_of (de_name 2)) (dr_of de_int))) (dr_of (de_op (op_addA rfl) ro_add (dr_of (de_name 1)) (dr_of de_int))))) (dr_of de_int))) dar_nil))) (dr_of de_int)))))))
end

/-! ### _law_digits -/
abbrev s_law_digits : Stmt := topS 9
abbrev n_law_digits : List Str := ["cell", "sizes", "series", "rest", "seed", "k", "size", "twice"]
theorem sc_law_digits : FnScope n_law_digits ["cell", "sizes"] (defScope s_law_digits) := ⟨rfl, rfl, rfl, by decide +kernel, rfl, by decide +kernel, by decide +kernel⟩
def l1_law_digits : En → Option Out := (seqM (appM 2 (bind2 (callM intD (consM (nameV 3) nilM)) (nameV 6) modD))
    (setM 3 (bind2 (callM intD (consM (nameV 3) nilM)) (nameV 6) fdivD)))
def l2_law_digits : En → Option Out := (seqM (setM 4 (bind2 (callM intD (consM (bind2 (bind2 (bind2 (nameV 4) (cI 48271) mulD) (bind2 (cI 974711) (nameV 5) mulD) addD) (cI 12345) addD) nilM)) (cI 2147483647) modD))
    (seqM (setM 7 (bind2 (callM intD (consM (bind2 (nameV 4) (bind2 (bind2 (nameV 4) (cI 65537) fdivD) (cI 3) addD) mulD) nilM)) (cI 2147483629) modD))
    (appM 2 (bind2 (bind2 (nameV 7) (cI 19) fdivD) (bind2 (nameV 1) (nameV 5) ixD) modD))))
def m_law_digits : En → Option Out :=
    (seqM (setOwnM 2 (lstF nilM))
    (seqM (setM 3 (callM intD (consM (nameV 0) nilM)))
    (seqM (ifM (boolM (bind2 (nameV 3) (bind2 (cI 10) (cI 18) powD) (cmpD fun i j => decide (j ≤ i)))) (seqM (setM 3 (bind2 (nameV 3) (bind2 (cI 10) (cI 18) powD) subD))
    (seqM (forM (itemsA (nameV 1)) (bndN 6) l1_law_digits)
    (retF (nameV 2)))) nextM)
    (seqM (setM 4 (bind2 (callM intD (consM (nameV 3) nilM)) (cI 2147483629) modD))
    (seqM (forM (rngM1 (consM (callM lenD (consM (nameV 1) nilM)) nilM)) (bndN 5) l2_law_digits)
    (retF (nameV 2)))))))
def f_law_digits : List D → Option D := bodyM 2 8 m_law_digits
section
variable {P : Program} {w : World} {K : PySem.W.Frag} {mg : Str → Option Value} {base : Heap} {fa : Addr} {fd : FuncData}
theorem ok_law_digits (F : Fun K "_law_digits" "_law_digits" s_law_digits fa fd) (z_int : mg "int" = none) (z_len : mg "len" = none) (z_range : mg "range" = none) : FnOk P w K mg base CX0 1 fa fd ["cell", "sizes"] (spD K f_law_digits) :=
  fn_ok (k := 0) F sc_law_digits fun cdv A outer s0 H E hr =>
    (dss_cons (ds_setOwn 2 (df_lst da_nil) sc_law_digits.nd)
    (dss_cons (ds_set 3 (de_callTy call_int1 rc_int (by rfl) z_int boot_int (dar_cons (dr_of (de_name 0)) dar_nil)) sc_law_digits.nd)
    (dss_cons (ds_if (dt_cmp op_ge (ro_cmp fun i j => decide (j ≤ i)) (dr_of (de_name 3)) (dr_of (de_op op_pow ro_pow (dr_of de_int) (dr_of de_int))) (nomark _))
    (dss_cons (ds_set 3 (de_op op_sub ro_sub (dr_of (de_name 3)) (dr_of (de_op op_pow ro_pow (dr_of de_int) (dr_of de_int)))) sc_law_digits.nd)
    (dss_cons (ds_for PassesOwn.never rfl (di0_seq (de_name 1)) (dg_name 6 sc_law_digits.nd) (dss_cons (ds_append 2 (de_op op_mod ro_mod (dr_of (de_callTy call_int1 rc_int (by rfl) z_int boot_int (dar_cons (dr_of (de_name 3)) dar_nil))) (dr_of (de_name 6))))
    (dss_one (ds_set 3 (de_op op_fdivW ro_fdiv (dr_of (de_callTy call_int1 rc_int (by rfl) z_int boot_int (dar_cons (dr_of (de_name 3)) dar_nil))) (dr_of (de_name 6))) sc_law_digits.nd))))
    (dss_one (ds_ret (de_name 2)))))
    dss_nil)
    (dss_cons (ds_set 4 (de_op op_mod ro_mod (dr_of (de_callTy call_int1 rc_int (by rfl) z_int boot_int (dar_cons (dr_of (de_name 3)) dar_nil))) (dr_of de_int)) sc_law_digits.nd)
    (dss_cons (ds_for PassesOwn.never rfl (di0_range1 (by rfl) z_range (dar_cons (dr_of (de_callB (call_lenA rfl) rc_len (by rfl) z_len PySem.boot_len (dar_cons (dr_of (de_name 1)) dar_nil))) dar_nil)) (dg_name 5 sc_law_digits.nd) (dss_cons (ds_set 4 (de_op op_mod ro_mod (dr_of (de_callTy call_int1 rc_int (by rfl) z_int boot_int (dar_cons (dr_of (de_op (op_addA rfl) ro_add (dr_of (de_op (op_addA rfl) ro_add (dr_of (de_op op_mulA ro_mul (dr_of (de_name 4)) (dr_of de_int))) (dr_of (de_op op_mulA ro_mul (dr_of de_int) (dr_of (de_name 5)))))) (dr_of de_int))) dar_nil))) (dr_of de_int)) sc_law_digits.nd)
    (dss_cons (ds_set 7 (de_op op_mod ro_mod (dr_of (de_callTy call_int1 rc_int (by rfl) z_int boot_int (dar_cons (dr_of (de_op op_mulA ro_mul (dr_of (de_name 4)) (dr_of (de_op (op_addA rfl) ro_add (dr_of (de_op op_fdivW ro_fdiv (dr_of (de_name 4)) (dr_of de_int))) (dr_of de_int))))) dar_nil))) (dr_of de_int)) sc_law_digits.nd)
    (dss_one (ds_append 2 (de_op op_mod ro_mod (dr_of (de_op op_fdivW ro_fdiv (dr_of (de_name 7)) (dr_of de_int))) (dr_of (de_ix (hu_of hr) (dr_of (de_name 1)) (dr_of (de_name 5))))))))))
    (dss_one (ds_ret (de_name 2))))))))
end

/-! ### _law_labels -/
abbrev s_law_labels : Stmt := topS 10
abbrev n_law_labels : List Str := ["series", "signs", "word", "rest", "k", "at", "other", "ends"]
theorem sc_law_labels : FnScope n_law_labels ["series"] (defScope s_law_labels) := ⟨rfl, rfl, rfl, by decide +kernel, rfl, by decide +kernel, by decide +kernel⟩
def l1_law_labels : En → Option Out := (seqM (setM 2 (bind2 (nameV 2) (bind2 (nameV 1) (bind2 (callM intD (consM (nameV 3) nilM)) (cI 36) modD) ixD) addD))
    (setM 3 (bind2 (callM intD (consM (nameV 3) nilM)) (cI 36) fdivD)))
def m_law_labels : En → Option Out :=
    (seqM (setM 1 (cS "abcdefghijklmnopqrstuvwxyz0123456789"))
    (seqM (setM 2 (bind2 (nameV 1) (callM intD (consM (bind2 (nameV 0) (cI 3) ixD) nilM)) ixD))
    (seqM (setM 3 (callM intD (consM (bind2 (nameV 0) (cI 4) ixD) nilM)))
    (seqM (forM (rngM1 (consM (cI 7) nilM)) (bndN 4) l1_law_labels)
    (seqM (setM 5 (bind2 (callM intD (consM (bind2 (nameV 0) (cI 1) ixD) nilM)) (bind2 (callM intD (consM (bind2 (nameV 0) (cI 2) ixD) nilM)) (cI 1) addD) modD))
    (seqM (ifM (boolM (bind2 (bind2 (nameV 0) (cI 0) ixD) (cI 0) eqD)) (retF (lstM (consM (cS "a") (consM (cS "f2") (consM (cS "join") (consM (cS "b") (consM (cS "g") (consM (cS "zero") (consM (cS "h1") (consM (cS "pair") (consM (cS "k") (consM (cS "c9") nilM)))))))))))) nextM)
    (seqM (ifM (boolM (bind2 (bind2 (nameV 0) (cI 0) ixD) (cI 1) eqD)) (seqM (setM 7 (asLst (lcM [4] (rngM1 (consM (cI 10) nilM)) (bndN 4) yesM (bind2 (nameV 1) (bind2 (callM intD (consM (bind2 (bind2 (nameV 0) (cI 3) ixD) (nameV 4) addD) nilM)) (bind2 (lstM (consM (cI 36) (consM (cI 26) nilM))) (callM intD (consM (bind2 (nameV 5) (cI 0) eqD) nilM)) ixD) modD) ixD))))
    (retF (asLst (lcM [4] (rngM1 (consM (cI 10) nilM)) (bndN 4) yesM (bind2 (bind2 (slM (nameV 2) noP (partM (nameV 5))) (bind2 (nameV 7) (nameV 4) ixD) addD) (slM (nameV 2) (partM (bind2 (nameV 5) (cI 1) addD)) (partM (bind2 (callM intD (consM (bind2 (nameV 0) (cI 2) ixD) nilM)) (cI 1) addD))) addD))))) nextM)
    (seqM (setM 6 (bind2 (nameV 1) (bind2 (callM intD (consM (bind2 (bind2 (nameV 0) (cI 3) ixD) (cI 1) addD) nilM)) (cI 26) modD) ixD))
    (retF (bind2 (asLst (lcM [4] (rngM1 (consM (cI 8) nilM)) (bndN 4) yesM (slM (nameV 2) noP (partM (bind2 (nameV 4) (cI 1) addD))))) (lstM (consM (nameV 6) (consM (bind2 (nameV 6) (slM (nameV 2) (partM (cI 1)) (partM (cI 2))) addD) nilM))) addD))))))))))
def f_law_labels : List D → Option D := bodyM 1 8 m_law_labels
section
variable {P : Program} {w : World} {K : PySem.W.Frag} {mg : Str → Option Value} {base : Heap} {fa : Addr} {fd : FuncData}
theorem ok_law_labels (F : Fun K "_law_labels" "_law_labels" s_law_labels fa fd) (z_int : mg "int" = none) (z_range : mg "range" = none) : FnOk P w K mg base CX0 1 fa fd ["series"] (spD K f_law_labels) :=
  fn_ok (k := 0) F sc_law_labels fun cdv A outer s0 H E hr =>
    (dss_cons (ds_set 1 de_str sc_law_labels.nd)
    (dss_cons (ds_set 2 (de_ix (hu_of hr) (dr_of (de_name 1)) (dr_of (de_callTy call_int1 rc_int (by rfl) z_int boot_int (dar_cons (dr_of (de_ix (hu_of hr) (dr_of (de_name 0)) (dr_of de_int))) dar_nil)))) sc_law_labels.nd)
    (dss_cons (ds_set 3 (de_callTy call_int1 rc_int (by rfl) z_int boot_int (dar_cons (dr_of (de_ix (hu_of hr) (dr_of (de_name 0)) (dr_of de_int))) dar_nil)) sc_law_labels.nd)
    (dss_cons (ds_for PassesOwn.never rfl (di0_range1 (by rfl) z_range (dar_cons (dr_of de_int) dar_nil)) (dg_name 4 sc_law_labels.nd) (dss_cons (ds_set 2 (de_op (op_addA rfl) ro_add (dr_of (de_name 2)) (dr_of (de_ix (hu_of hr) (dr_of (de_name 1)) (dr_of (de_op op_mod ro_mod (dr_of (de_callTy call_int1 rc_int (by rfl) z_int boot_int (dar_cons (dr_of (de_name 3)) dar_nil))) (dr_of de_int)))))) sc_law_labels.nd)
    (dss_one (ds_set 3 (de_op op_fdivW ro_fdiv (dr_of (de_callTy call_int1 rc_int (by rfl) z_int boot_int (dar_cons (dr_of (de_name 3)) dar_nil))) (dr_of de_int)) sc_law_labels.nd))))
    (dss_cons (ds_set 5 (de_op op_mod ro_mod (dr_of (de_callTy call_int1 rc_int (by rfl) z_int boot_int (dar_cons (dr_of (de_ix (hu_of hr) (dr_of (de_name 0)) (dr_of de_int))) dar_nil))) (dr_of (de_op (op_addA rfl) ro_add (dr_of (de_callTy call_int1 rc_int (by rfl) z_int boot_int (dar_cons (dr_of (de_ix (hu_of hr) (dr_of (de_name 0)) (dr_of de_int))) dar_nil))) (dr_of de_int)))) sc_law_labels.nd)
    (dss_cons (ds_if (dt_cmp (op_eqK hr.units rfl) ro_eq (dr_of (de_ix (hu_of hr) (dr_of (de_name 0)) (dr_of de_int))) (dr_of de_int) (nomark _))
    (dss_one (ds_ret (de_lst (da_cons de_str (da_cons de_str (da_cons de_str (da_cons de_str (da_cons de_str (da_cons de_str (da_cons de_str (da_cons de_str (da_cons de_str (da_cons de_str da_nil)))))))))))))
    dss_nil)
    (dss_cons (ds_if (dt_cmp (op_eqK hr.units rfl) ro_eq (dr_of (de_ix (hu_of hr) (dr_of (de_name 0)) (dr_of de_int))) (dr_of de_int) (nomark _))
    (dss_cons (ds_set 7 (DF1.e (DLc.toDF1 (dlc (own := [("k", 4)]) rfl sc_law_labels.nd (DI0.to1 (di0_range1 (by rfl) z_range (dar_cons (dr_of de_int) dar_nil))) (blkOk_by (own := [("k", 4)]) (N := n_law_labels) (sc := defScope s_law_labels) (by decide +kernel)) (fun _ _ _ _ _ => (dg_name 4 sc_law_labels.nd)) (fun _ _ _ _ _ => dts_nil) (fun _ _ _ _ _ => (de_ix (hu_of hr) (dr_of (de_name 1)) (dr_of (de_op op_mod ro_mod (dr_of (de_callTy call_int1 rc_int (by rfl) z_int boot_int (dar_cons (dr_of (de_op (op_addA rfl) ro_add (dr_of (de_ix (hu_of hr) (dr_of (de_name 0)) (dr_of de_int))) (dr_of (de_name 4)))) dar_nil))) (dr_of (de_ix (hu_of hr) (dr_of (de_lst (da_cons de_int (da_cons de_int da_nil)))) (dr_of (de_callTy call_int1 rc_int (by rfl) z_int boot_int (dar_cons (dr_of (de_cmp (op_eqK hr.units rfl) ro_eq (dr_of (de_name 5)) (dr_of de_int) (nomark _))) dar_nil))))))))) (by rfl) s0))) sc_law_labels.nd)
    (dss_one (ds_ret (DF1.e (DLc.toDF1 (dlc (own := [("k", 4)]) rfl sc_law_labels.nd (DI0.to1 (di0_range1 (by rfl) z_range (dar_cons (dr_of de_int) dar_nil))) (blkOk_by (own := [("k", 4)]) (N := n_law_labels) (sc := defScope s_law_labels) (by decide +kernel)) (fun _ _ _ _ _ => (dg_name 4 sc_law_labels.nd)) (fun _ _ _ _ _ => dts_nil) (fun _ _ _ _ _ => (de_op (op_addA rfl) ro_add (dr_of (de_op (op_addA rfl) ro_add (dr_of (de_slice (dr_of (de_name 2)) do_none (do_some (dr_of (de_name 5))))) (dr_of (de_ix (hu_of hr) (dr_of (de_name 7)) (dr_of (de_name 4)))))) (dr_of (de_slice (dr_of (de_name 2)) (do_some (dr_of (de_op (op_addA rfl) ro_add (dr_of (de_name 5)) (dr_of de_int)))) (do_some (dr_of (de_op (op_addA rfl) ro_add (dr_of (de_callTy call_int1 rc_int (by rfl) z_int boot_int (dar_cons (dr_of (de_ix (hu_of hr) (dr_of (de_name 0)) (dr_of de_int))) dar_nil))) (dr_of de_int)))))))) (by rfl) s0))))))
    dss_nil)
    (dss_cons (ds_set 6 (de_ix (hu_of hr) (dr_of (de_name 1)) (dr_of (de_op op_mod ro_mod (dr_of (de_callTy call_int1 rc_int (by rfl) z_int boot_int (dar_cons (dr_of (de_op (op_addA rfl) ro_add (dr_of (de_ix (hu_of hr) (dr_of (de_name 0)) (dr_of de_int))) (dr_of de_int))) dar_nil))) (dr_of de_int)))) sc_law_labels.nd)
    (dss_one (ds_ret (de_op (op_addA rfl) ro_add (dr_of (DF1.e (DLc.toDF1 (dlc (own := [("k", 4)]) rfl sc_law_labels.nd (DI0.to1 (di0_range1 (by rfl) z_range (dar_cons (dr_of de_int) dar_nil))) (blkOk_by (own := [("k", 4)]) (N := n_law_labels) (sc := defScope s_law_labels) (by decide +kernel)) (fun _ _ _ _ _ => (dg_name 4 sc_law_labels.nd)) (fun _ _ _ _ _ => dts_nil) (fun _ _ _ _ _ => (de_slice (dr_of (de_name 2)) do_none (do_some (dr_of (de_op (op_addA rfl) ro_add (dr_of (de_name 4)) (dr_of de_int)))))) (by rfl) s0)))) (dr_of (de_lst (da_cons (de_name 6) (da_cons (de_op (op_addA rfl) ro_add (dr_of (de_name 6)) (dr_of (de_slice (dr_of (de_name 2)) (do_some (dr_of de_int)) (do_some (dr_of de_int))))) da_nil)))))))))))))))
end

/-! ### _law_symbols -/
abbrev s_law_symbols : Stmt := topS 11
abbrev n_law_symbols : List Str := ["series", "menu", "plan", "symbols", "rest", "many", "k", "at", "picked"]
theorem sc_law_symbols : FnScope n_law_symbols ["series", "menu"] (defScope s_law_symbols) := ⟨rfl, rfl, rfl, by decide +kernel, rfl, by decide +kernel, by decide +kernel⟩
def l1_law_symbols : En → Option Out := (seqM (setM 7 (bind2 (callM intD (consM (nameV 4) nilM)) (callM lenD (consM (nameR 2) nilM)) modD))
    (seqM (setM 4 (bind2 (callM intD (consM (nameV 4) nilM)) (callM lenD (consM (nameR 2) nilM)) fdivD))
    (seqM (popAtM 2 (nameV 7) (bndN 8))
    (appM 3 (tupM (consM (bind2 (nameV 1) (bind2 (callM intD (consM (bind2 (bind2 (nameV 0) (cI 0) ixD) (bind2 (cI 3) (nameV 6) mulD) addD) nilM)) (cI 10) modD) ixD) (consM (bind2 (nameV 8) (cI 0) ixD) (consM (bind2 (nameV 8) (cI 1) ixD) nilM))))))))
def m_law_symbols : En → Option Out :=
    (seqM (setOwnM 2 (lstF (consM (lstM (consM (cI 0) (consM (cB false) nilM))) (consM (lstM (consM (cI 2) (consM (cB true) nilM))) nilM))))
    (seqM (ifM (boolM (bind2 (bind2 (nameV 0) (cI 1) ixD) (cI 0) (cmpD fun i j => decide (j < i)))) (appM 2 (lstM (consM (cI 0) (consM (cB false) nilM)))) nextM)
    (seqM (ifM (boolM (bind2 (bind2 (nameV 0) (cI 2) ixD) (cI 0) (cmpD fun i j => decide (j < i)))) (appM 2 (lstM (consM (cI 1) (consM (cB false) nilM)))) nextM)
    (seqM (ifM (boolM (bind2 (bind2 (nameV 0) (cI 2) ixD) (cI 3) eqD)) (appM 2 (lstM (consM (cI 1) (consM (cB false) nilM)))) nextM)
    (seqM (ifM (boolM (bind2 (bind2 (nameV 0) (cI 3) ixD) (cI 0) (cmpD fun i j => decide (j < i)))) (appM 2 (lstM (consM (cI 2) (consM (cB false) nilM)))) nextM)
    (seqM (ifM (boolM (bind2 (bind2 (nameV 0) (cI 3) ixD) (cI 3) eqD)) (appM 2 (lstM (consM (cI 2) (consM (cB false) nilM)))) nextM)
    (seqM (ifM (boolM (bind2 (bind2 (nameV 0) (cI 4) ixD) (cI 3) eqD)) (appM 2 (lstM (consM (cI 2) (consM (cB true) nilM)))) nextM)
    (seqM (ifM (boolM (bind2 (bind2 (nameV 0) (cI 5) ixD) (cI 2) eqD)) (appM 2 (lstM (consM (cI 0) (consM (cB false) nilM)))) nextM)
    (seqM (setOwnM 3 (lstF nilM))
    (seqM (setM 4 (callM intD (consM (bind2 (nameV 0) (cI 6) ixD) nilM)))
    (seqM (setM 5 (callM lenD (consM (nameR 2) nilM)))
    (seqM (forM (rngM1 (consM (nameV 5) nilM)) (bndN 6) l1_law_symbols)
    (retF (nameV 3))))))))))))))
def f_law_symbols : List D → Option D := bodyM 2 9 m_law_symbols
section
variable {P : Program} {w : World} {K : PySem.W.Frag} {mg : Str → Option Value} {base : Heap} {fa : Addr} {fd : FuncData}
theorem ok_law_symbols (F : Fun K "_law_symbols" "_law_symbols" s_law_symbols fa fd) (z_int : mg "int" = none) (z_len : mg "len" = none) (z_range : mg "range" = none) : FnOk P w K mg base CX0 1 fa fd ["series", "menu"] (spD K f_law_symbols) :=
  fn_ok (k := 0) F sc_law_symbols fun cdv A outer s0 H E hr =>
    (dss_cons (ds_setOwn 2 (df_lst (da_cons (de_lst (da_cons de_int (da_cons de_bl da_nil))) (da_cons (de_lst (da_cons de_int (da_cons de_bl da_nil))) da_nil))) sc_law_symbols.nd)
    (dss_cons (ds_if (dt_cmp op_gt (ro_cmp fun i j => decide (j < i)) (dr_of (de_ix (hu_of hr) (dr_of (de_name 0)) (dr_of de_int))) (dr_of de_int) (nomark _))
    (dss_one (ds_append 2 (de_lst (da_cons de_int (da_cons de_bl da_nil)))))
    dss_nil)
    (dss_cons (ds_if (dt_cmp op_gt (ro_cmp fun i j => decide (j < i)) (dr_of (de_ix (hu_of hr) (dr_of (de_name 0)) (dr_of de_int))) (dr_of de_int) (nomark _))
    (dss_one (ds_append 2 (de_lst (da_cons de_int (da_cons de_bl da_nil)))))
    dss_nil)
    (dss_cons (ds_if (dt_cmp (op_eqK hr.units rfl) ro_eq (dr_of (de_ix (hu_of hr) (dr_of (de_name 0)) (dr_of de_int))) (dr_of de_int) (nomark _))
    (dss_one (ds_append 2 (de_lst (da_cons de_int (da_cons de_bl da_nil)))))
    dss_nil)
    (dss_cons (ds_if (dt_cmp op_gt (ro_cmp fun i j => decide (j < i)) (dr_of (de_ix (hu_of hr) (dr_of (de_name 0)) (dr_of de_int))) (dr_of de_int) (nomark _))
    (dss_one (ds_append 2 (de_lst (da_cons de_int (da_cons de_bl da_nil)))))
    dss_nil)
    (dss_cons (ds_if (dt_cmp (op_eqK hr.units rfl) ro_eq (dr_of (de_ix (hu_of hr) (dr_of (de_name 0)) (dr_of de_int))) (dr_of de_int) (nomark _))
    (dss_one (ds_append 2 (de_lst (da_cons de_int (da_cons de_bl da_nil)))))
    dss_nil)
    (dss_cons (ds_if (dt_cmp (op_eqK hr.units rfl) ro_eq (dr_of (de_ix (hu_of hr) (dr_of (de_name 0)) (dr_of de_int))) (dr_of de_int) (nomark _))
    (dss_one (ds_append 2 (de_lst (da_cons de_int (da_cons de_bl da_nil)))))
    dss_nil)
    (dss_cons (ds_if (dt_cmp (op_eqK hr.units rfl) ro_eq (dr_of (de_ix (hu_of hr) (dr_of (de_name 0)) (dr_of de_int))) (dr_of de_int) (nomark _))
    (dss_one (ds_append 2 (de_lst (da_cons de_int (da_cons de_bl da_nil)))))
    dss_nil)
    (dss_cons (ds_setOwn 3 (df_lst da_nil) sc_law_symbols.nd)
    (dss_cons (ds_set 4 (de_callTy call_int1 rc_int (by rfl) z_int boot_int (dar_cons (dr_of (de_ix (hu_of hr) (dr_of (de_name 0)) (dr_of de_int))) dar_nil)) sc_law_symbols.nd)
    (dss_cons (ds_set 5 (de_callB (call_lenA rfl) rc_len (by rfl) z_len PySem.boot_len (dar_cons (dr_name 2) dar_nil)) sc_law_symbols.nd)
    (dss_cons (ds_for PassesOwn.never rfl (di0_range1 (by rfl) z_range (dar_cons (dr_of (de_name 5)) dar_nil)) (dg_name 6 sc_law_symbols.nd) (dss_cons (ds_set 7 (de_op op_mod ro_mod (dr_of (de_callTy call_int1 rc_int (by rfl) z_int boot_int (dar_cons (dr_of (de_name 4)) dar_nil))) (dr_of (de_callB (call_lenA rfl) rc_len (by rfl) z_len PySem.boot_len (dar_cons (dr_name 2) dar_nil)))) sc_law_symbols.nd)
    (dss_cons (ds_set 4 (de_op op_fdivW ro_fdiv (dr_of (de_callTy call_int1 rc_int (by rfl) z_int boot_int (dar_cons (dr_of (de_name 4)) dar_nil))) (dr_of (de_callB (call_lenA rfl) rc_len (by rfl) z_len PySem.boot_len (dar_cons (dr_name 2) dar_nil)))) sc_law_symbols.nd)
    (dss_cons (ds_popAt 2 (dg_name 8 sc_law_symbols.nd) (de_name 7))
    (dss_one (ds_append 3 (de_tup (da_cons (de_ix (hu_of hr) (dr_of (de_name 1)) (dr_of (de_op op_mod ro_mod (dr_of (de_callTy call_int1 rc_int (by rfl) z_int boot_int (dar_cons (dr_of (de_op (op_addA rfl) ro_add (dr_of (de_ix (hu_of hr) (dr_of (de_name 0)) (dr_of de_int))) (dr_of (de_op op_mulA ro_mul (dr_of de_int) (dr_of (de_name 6)))))) dar_nil))) (dr_of de_int)))) (da_cons (de_ix (hu_of hr) (dr_of (de_name 8)) (dr_of de_int)) (da_cons (de_ix (hu_of hr) (dr_of (de_name 8)) (dr_of de_int)) da_nil))))))))))
    (dss_one (ds_ret (de_name 3)))))))))))))))
end

/-! ### _law_term -/
abbrev s_law_term : Stmt := topS 12
abbrev n_law_term : List Str := ["symbols", "names", "series", "at", "depth", "digit", "behind", "chance", "menu", "chosen", "parts", "k", "inner", "symbol"]
theorem sc_law_term : FnScope n_law_term ["symbols", "names", "series", "at", "depth"] (defScope s_law_term) := ⟨rfl, rfl, rfl, by decide +kernel, rfl, by decide +kernel, by decide +kernel⟩
def l1_law_term (self : List D → Option D) : En → Option Out := (seqM (setM 12 (callM self (consM (nameV 0) (consM (nameV 1) (consM (nameV 2) (consM (nameV 6) (consM (bind2 (nameV 4) (cI 1) subD) nilM)))))))
    (seqM (appM 10 (bind2 (nameV 12) (cI 0) ixD))
    (setM 6 (bind2 (nameV 12) (cI 1) ixD))))
def m_law_term (self : List D → Option D) : En → Option Out :=
    (seqM (setM 5 (cI 0))
    (seqM (ifM (boolM (bind2 (nameV 3) (callM lenD (consM (nameV 2) nilM)) (cmpD fun i j => decide (i < j)))) (setM 5 (callM intD (consM (bind2 (nameV 2) (nameV 3) ixD) nilM))) nextM)
    (seqM (setM 6 (bind2 (nameV 3) (cI 1) addD))
    (seqM (setM 7 (cI 5))
    (seqM (setM 8 (asLst (lcM [13] (itemsA (nameV 0)) (bndN 13) (boolM (bind2 (bind2 (nameV 13) (cI 1) ixD) (cI 0) eqD)) (nameV 13))))
    (seqM (ifM (boolM (bind2 (nameV 4) (cI 1) eqD)) (seqM (setM 7 (cI 3))
    (setM 8 (bind2 (asLst (listF (consM (nameV 0) nilM))) (asLst (lcM [13] (itemsA (nameV 0)) (bndN 13) (boolM (bind2 (nameV 13) (cI 2) ixD)) (nameV 13))) addD))) nextM)
    (seqM (ifM (boolM (bind2 (nameV 4) (cI 2) (cmpD fun i j => decide (j ≤ i)))) (seqM (setM 7 (cI 1))
    (seqM (setM 8 (bind2 (asLst (lcM [13] (itemsA (nameV 0)) (bndN 13) (boolM (bind2 (bind2 (nameV 13) (cI 1) ixD) (cI 0) (cmpD fun i j => decide (j < i)))) (nameV 13))) (asLst (lcM [13] (itemsA (nameV 0)) (bndN 13) (boolM (bind2 (nameV 13) (cI 2) ixD)) (nameV 13))) addD))
    (ifM (boolM (bind2 (bind2 (bind2 (nameV 5) (cI 120) fdivD) (cI 10) modD) (cI 1) eqD)) (setM 8 (asLst (lcM [13] (itemsA (nameV 0)) (bndN 13) (boolM (bind2 (bind2 (nameV 13) (cI 1) ixD) (cI 0) eqD)) (nameV 13)))) nextM))) nextM)
    (seqM (ifM (andM (boolM (bind2 (callM lenD (consM (nameV 1) nilM)) (cI 0) (cmpD fun i j => decide (j < i)))) (boolM (bind2 (bind2 (nameV 5) (cI 10) modD) (nameV 7) (cmpD fun i j => decide (i < j))))) (retF (lstM (consM (bind2 (nameV 1) (bind2 (bind2 (nameV 5) (cI 10) fdivD) (callM lenD (consM (nameV 1) nilM)) modD) ixD) (consM (nameV 6) nilM)))) nextM)
    (seqM (setM 9 (bind2 (nameV 8) (bind2 (bind2 (nameV 5) (cI 10) fdivD) (callM lenD (consM (nameV 8) nilM)) modD) ixD))
    (seqM (setOwnM 10 (lstF (consM (bind2 (nameV 9) (cI 0) ixD) nilM)))
    (seqM (forM (rngM1 (consM (bind2 (nameV 9) (cI 1) ixD) nilM)) (bndN 11) (l1_law_term self))
    (retF (lstM (consM (callM tupleD (consM (nameR 10) nilM)) (consM (nameV 6) nilM)))))))))))))))
def f_law_term_ : Nat → List D → Option D
  | 0 => fun _ => none
  | n + 1 => bodyM 5 14 (m_law_term (f_law_term_ n))
def f_law_term : List D → Option D := f_law_term_ 8
section
variable {P : Program} {w : World} {K : PySem.W.Frag} {mg : Str → Option Value} {base : Heap} {fa : Addr} {fd : FuncData}
theorem ok1_law_term {self : List D → Option D} {k : Nat} (hk : 0 ≤ k) (F : Fun K "_law_term" "_law_term" s_law_term fa fd) (z_int : mg "int" = none) (z_len : mg "len" = none) (z_list : mg "list" = none) (z_range : mg "range" = none) (z_tuple : mg "tuple" = none) (F_law_term : DF P w K mg base "_law_term" k ["symbols", "names", "series", "at", "depth"] self) : FnOk P w K mg base CX0 (k + 1) fa fd ["symbols", "names", "series", "at", "depth"] (spD K (bodyM 5 14 (m_law_term self))) :=
  fn_ok F sc_law_term fun cdv A outer s0 H E hr =>
    (dss_cons (ds_set 5 de_int sc_law_term.nd)
    (dss_cons (ds_if (dt_cmp op_lt (ro_cmp fun i j => decide (i < j)) (dr_of (de_name 3)) (dr_of (de_callB (call_lenA rfl) rc_len (by rfl) z_len PySem.boot_len (dar_cons (dr_of (de_name 2)) dar_nil))) (nomark _))
    (dss_one (ds_set 5 (de_callTy call_int1 rc_int (by rfl) z_int boot_int (dar_cons (dr_of (de_ix (hu_of hr) (dr_of (de_name 2)) (dr_of (de_name 3)))) dar_nil)) sc_law_term.nd))
    dss_nil)
    (dss_cons (ds_set 6 (de_op (op_addA rfl) ro_add (dr_of (de_name 3)) (dr_of de_int)) sc_law_term.nd)
    (dss_cons (ds_set 7 de_int sc_law_term.nd)
    (dss_cons (ds_setLc 8 (dlc (own := [("symbol", 13)]) rfl sc_law_term.nd (di1_seq (dr_of (de_name 0))) (blkOk_by (own := [("symbol", 13)]) (N := n_law_term) (sc := defScope s_law_term) (by decide +kernel)) (fun _ _ _ _ _ => (dg_name 13 sc_law_term.nd)) (fun _ _ _ _ _ => (dts_one (dt_cmp (op_eqK hr.units rfl) ro_eq (dr_of (de_ix (hu_of hr) (dr_of (de_name 13)) (dr_of de_int))) (dr_of de_int) (nomark _)))) (fun _ _ _ _ _ => (de_name 13)) (by rfl) s0))
    (dss_cons (ds_if (dt_cmp (op_eqK hr.units rfl) ro_eq (dr_of (de_name 4)) (dr_of de_int) (nomark _))
    (dss_cons (ds_set 7 de_int sc_law_term.nd)
    (dss_one (ds_set 8 (de_op (op_addA rfl) ro_add (dr_of (DF1.e (df_list (by rfl) z_list (dar_cons (dr_of (de_name 0)) dar_nil)))) (dr_of (DF1.e (DLc.toDF1 (dlc (own := [("symbol", 13)]) rfl sc_law_term.nd (di1_seq (dr_of (de_name 0))) (blkOk_by (own := [("symbol", 13)]) (N := n_law_term) (sc := defScope s_law_term) (by decide +kernel)) (fun _ _ _ _ _ => (dg_name 13 sc_law_term.nd)) (fun _ _ _ _ _ => (dts_one (dt_val (de_ix (hu_of hr) (dr_of (de_name 13)) (dr_of de_int))))) (fun _ _ _ _ _ => (de_name 13)) (by rfl) s0))))) sc_law_term.nd)))
    dss_nil)
    (dss_cons (ds_if (dt_cmp op_ge (ro_cmp fun i j => decide (j ≤ i)) (dr_of (de_name 4)) (dr_of de_int) (nomark _))
    (dss_cons (ds_set 7 de_int sc_law_term.nd)
    (dss_cons (ds_set 8 (de_op (op_addA rfl) ro_add (dr_of (DF1.e (DLc.toDF1 (dlc (own := [("symbol", 13)]) rfl sc_law_term.nd (di1_seq (dr_of (de_name 0))) (blkOk_by (own := [("symbol", 13)]) (N := n_law_term) (sc := defScope s_law_term) (by decide +kernel)) (fun _ _ _ _ _ => (dg_name 13 sc_law_term.nd)) (fun _ _ _ _ _ => (dts_one (dt_cmp op_gt (ro_cmp fun i j => decide (j < i)) (dr_of (de_ix (hu_of hr) (dr_of (de_name 13)) (dr_of de_int))) (dr_of de_int) (nomark _)))) (fun _ _ _ _ _ => (de_name 13)) (by rfl) s0)))) (dr_of (DF1.e (DLc.toDF1 (dlc (own := [("symbol", 13)]) rfl sc_law_term.nd (di1_seq (dr_of (de_name 0))) (blkOk_by (own := [("symbol", 13)]) (N := n_law_term) (sc := defScope s_law_term) (by decide +kernel)) (fun _ _ _ _ _ => (dg_name 13 sc_law_term.nd)) (fun _ _ _ _ _ => (dts_one (dt_val (de_ix (hu_of hr) (dr_of (de_name 13)) (dr_of de_int))))) (fun _ _ _ _ _ => (de_name 13)) (by rfl) s0))))) sc_law_term.nd)
    (dss_one (ds_if (dt_cmp (op_eqK hr.units rfl) ro_eq (dr_of (de_op op_mod ro_mod (dr_of (de_op op_fdivW ro_fdiv (dr_of (de_name 5)) (dr_of de_int))) (dr_of de_int))) (dr_of de_int) (nomark _))
    (dss_one (ds_setLc 8 (dlc (own := [("symbol", 13)]) rfl sc_law_term.nd (di1_seq (dr_of (de_name 0))) (blkOk_by (own := [("symbol", 13)]) (N := n_law_term) (sc := defScope s_law_term) (by decide +kernel)) (fun _ _ _ _ _ => (dg_name 13 sc_law_term.nd)) (fun _ _ _ _ _ => (dts_one (dt_cmp (op_eqK hr.units rfl) ro_eq (dr_of (de_ix (hu_of hr) (dr_of (de_name 13)) (dr_of de_int))) (dr_of de_int) (nomark _)))) (fun _ _ _ _ _ => (de_name 13)) (by rfl) s0)))
    dss_nil))))
    dss_nil)
    (dss_cons (ds_if (dt_w (dw_and (dt_cmp op_gt (ro_cmp fun i j => decide (j < i)) (dr_of (de_callB (call_lenA rfl) rc_len (by rfl) z_len PySem.boot_len (dar_cons (dr_of (de_name 1)) dar_nil))) (dr_of de_int) (nomark _)) (dw_and1 (dt_cmp op_lt (ro_cmp fun i j => decide (i < j)) (dr_of (de_op op_mod ro_mod (dr_of (de_name 5)) (dr_of de_int))) (dr_of (de_name 7)) (nomark _)))))
    (dss_one (ds_ret (de_lst (da_cons (de_ix (hu_of hr) (dr_of (de_name 1)) (dr_of (de_op op_mod ro_mod (dr_of (de_op op_fdivW ro_fdiv (dr_of (de_name 5)) (dr_of de_int))) (dr_of (de_callB (call_lenA rfl) rc_len (by rfl) z_len PySem.boot_len (dar_cons (dr_of (de_name 1)) dar_nil)))))) (da_cons (de_name 6) da_nil)))))
    dss_nil)
    (dss_cons (ds_set 9 (de_ix (hu_of hr) (dr_of (de_name 8)) (dr_of (de_op op_mod ro_mod (dr_of (de_op op_fdivW ro_fdiv (dr_of (de_name 5)) (dr_of de_int))) (dr_of (de_callB (call_lenA rfl) rc_len (by rfl) z_len PySem.boot_len (dar_cons (dr_of (de_name 8)) dar_nil)))))) sc_law_term.nd)
    (dss_cons (ds_setOwn 10 (df_lst (da_cons (de_ix (hu_of hr) (dr_of (de_name 9)) (dr_of de_int)) da_nil)) sc_law_term.nd)
    (dss_cons (ds_for PassesOwn.never rfl (di0_range1 (by rfl) z_range (dar_cons (dr_of (de_ix (hu_of hr) (dr_of (de_name 9)) (dr_of de_int))) dar_nil)) (dg_name 11 sc_law_term.nd) (dss_cons (ds_set 12 (de_call F_law_term hr (by rfl) (da_cons (de_name 0) (da_cons (de_name 1) (da_cons (de_name 2) (da_cons (de_name 6) (da_cons (de_op op_sub ro_sub (dr_of (de_name 4)) (dr_of de_int)) da_nil))))) (by omega)) sc_law_term.nd)
    (dss_cons (ds_append 10 (de_ix (hu_of hr) (dr_of (de_name 12)) (dr_of de_int)))
    (dss_one (ds_set 6 (de_ix (hu_of hr) (dr_of (de_name 12)) (dr_of de_int)) sc_law_term.nd)))))
    (dss_one (ds_ret (de_lst (da_cons (de_callTy (call_tupleK rfl) rc_tuple (by rfl) z_tuple boot_tuple (dar_cons (dr_name 10) dar_nil)) (da_cons (de_name 6) da_nil))))))))))))))))
theorem ok2_law_term (F : Fun K "_law_term" "_law_term" s_law_term fa fd) (z_int : mg "int" = none) (z_len : mg "len" = none) (z_list : mg "list" = none) (z_range : mg "range" = none) (z_tuple : mg "tuple" = none) (hm : mg "_law_term" = some (.ref fa)) (hb : Binds K fd ["symbols", "names", "series", "at", "depth"] []) : ∀ n : Nat, FnOk P w K mg base CX0 (0 + n) fa fd ["symbols", "names", "series", "at", "depth"] (spD K (f_law_term_ n))
  | 0 => fn_zero
  | n + 1 => ok1_law_term (Nat.le_add_right _ _) F z_int z_len z_list z_range z_tuple ⟨fa, fd, hm, F.kp, hb, ok2_law_term F z_int z_len z_list z_range z_tuple hm hb n⟩
end

/-! ### _law_full -/
abbrev s_law_full : Stmt := topS 13
abbrev n_law_full : List Str := ["symbols", "names", "series", "at", "depth", "pairs", "former", "symbol"]
theorem sc_law_full : FnScope n_law_full ["symbols", "names", "series", "at", "depth"] (defScope s_law_full) := ⟨rfl, rfl, rfl, by decide +kernel, rfl, by decide +kernel, by decide +kernel⟩
def m_law_full (self : List D → Option D) : En → Option Out :=
    (seqM (ifM (boolM (bind2 (nameV 4) (cI 0) eqD)) (retF (bind2 (nameV 1) (bind2 (callM intD (consM (bind2 (nameV 2) (nameV 3) ixD) nilM)) (callM lenD (consM (nameV 1) nilM)) modD) ixD)) nextM)
    (seqM (setM 5 (asLst (lcM [7] (itemsA (nameV 0)) (bndN 7) (boolM (bind2 (bind2 (nameV 7) (cI 1) ixD) (cI 2) eqD)) (bind2 (nameV 7) (cI 0) ixD))))
    (seqM (setM 6 (callM self (consM (nameV 0) (consM (nameV 1) (consM (nameV 2) (consM (bind2 (bind2 (cI 2) (nameV 3) mulD) (cI 1) addD) (consM (bind2 (nameV 4) (cI 1) subD) nilM)))))))
    (retF (tupM (consM (bind2 (nameV 5) (bind2 (callM intD (consM (bind2 (nameV 2) (nameV 3) ixD) nilM)) (callM lenD (consM (nameV 5) nilM)) modD) ixD) (consM (nameV 6) (consM (callM self (consM (nameV 0) (consM (nameV 1) (consM (nameV 2) (consM (bind2 (bind2 (cI 2) (nameV 3) mulD) (cI 2) addD) (consM (bind2 (nameV 4) (cI 1) subD) nilM)))))) nilM))))))))
def f_law_full_ : Nat → List D → Option D
  | 0 => fun _ => none
  | n + 1 => bodyM 5 8 (m_law_full (f_law_full_ n))
def f_law_full : List D → Option D := f_law_full_ 8
section
variable {P : Program} {w : World} {K : PySem.W.Frag} {mg : Str → Option Value} {base : Heap} {fa : Addr} {fd : FuncData}
theorem ok1_law_full {self : List D → Option D} {k : Nat} (hk : 0 ≤ k) (F : Fun K "_law_full" "_law_full" s_law_full fa fd) (z_int : mg "int" = none) (z_len : mg "len" = none) (F_law_full : DF P w K mg base "_law_full" k ["symbols", "names", "series", "at", "depth"] self) : FnOk P w K mg base CX0 (k + 1) fa fd ["symbols", "names", "series", "at", "depth"] (spD K (bodyM 5 8 (m_law_full self))) :=
  fn_ok F sc_law_full fun cdv A outer s0 H E hr =>
    (dss_cons (ds_if (dt_cmp (op_eqK hr.units rfl) ro_eq (dr_of (de_name 4)) (dr_of de_int) (nomark _))
    (dss_one (ds_ret (de_ix (hu_of hr) (dr_of (de_name 1)) (dr_of (de_op op_mod ro_mod (dr_of (de_callTy call_int1 rc_int (by rfl) z_int boot_int (dar_cons (dr_of (de_ix (hu_of hr) (dr_of (de_name 2)) (dr_of (de_name 3)))) dar_nil))) (dr_of (de_callB (call_lenA rfl) rc_len (by rfl) z_len PySem.boot_len (dar_cons (dr_of (de_name 1)) dar_nil))))))))
    dss_nil)
    (dss_cons (ds_setLc 5 (dlc (own := [("symbol", 7)]) rfl sc_law_full.nd (di1_seq (dr_of (de_name 0))) (blkOk_by (own := [("symbol", 7)]) (N := n_law_full) (sc := defScope s_law_full) (by decide +kernel)) (fun _ _ _ _ _ => (dg_name 7 sc_law_full.nd)) (fun _ _ _ _ _ => (dts_one (dt_cmp (op_eqK hr.units rfl) ro_eq (dr_of (de_ix (hu_of hr) (dr_of (de_name 7)) (dr_of de_int))) (dr_of de_int) (nomark _)))) (fun _ _ _ _ _ => (de_ix (hu_of hr) (dr_of (de_name 7)) (dr_of de_int))) (by rfl) s0))
    (dss_cons (ds_set 6 (de_call F_law_full hr (by rfl) (da_cons (de_name 0) (da_cons (de_name 1) (da_cons (de_name 2) (da_cons (de_op (op_addA rfl) ro_add (dr_of (de_op op_mulA ro_mul (dr_of de_int) (dr_of (de_name 3)))) (dr_of de_int)) (da_cons (de_op op_sub ro_sub (dr_of (de_name 4)) (dr_of de_int)) da_nil))))) (by omega)) sc_law_full.nd)
    (dss_one (ds_ret (de_tup (da_cons (de_ix (hu_of hr) (dr_of (de_name 5)) (dr_of (de_op op_mod ro_mod (dr_of (de_callTy call_int1 rc_int (by rfl) z_int boot_int (dar_cons (dr_of (de_ix (hu_of hr) (dr_of (de_name 2)) (dr_of (de_name 3)))) dar_nil))) (dr_of (de_callB (call_lenA rfl) rc_len (by rfl) z_len PySem.boot_len (dar_cons (dr_of (de_name 5)) dar_nil)))))) (da_cons (de_name 6) (da_cons (de_call F_law_full hr (by rfl) (da_cons (de_name 0) (da_cons (de_name 1) (da_cons (de_name 2) (da_cons (de_op (op_addA rfl) ro_add (dr_of (de_op op_mulA ro_mul (dr_of de_int) (dr_of (de_name 3)))) (dr_of de_int)) (da_cons (de_op op_sub ro_sub (dr_of (de_name 4)) (dr_of de_int)) da_nil))))) (by omega)) da_nil)))))))))
theorem ok2_law_full (F : Fun K "_law_full" "_law_full" s_law_full fa fd) (z_int : mg "int" = none) (z_len : mg "len" = none) (hm : mg "_law_full" = some (.ref fa)) (hb : Binds K fd ["symbols", "names", "series", "at", "depth"] []) : ∀ n : Nat, FnOk P w K mg base CX0 (0 + n) fa fd ["symbols", "names", "series", "at", "depth"] (spD K (f_law_full_ n))
  | 0 => fn_zero
  | n + 1 => ok1_law_full (Nat.le_add_right _ _) F z_int z_len ⟨fa, fd, hm, F.kp, hb, ok2_law_full F z_int z_len hm hb n⟩
end

/-! ### _law_fill -/
abbrev s_law_fill : Stmt := topS 14
abbrev n_law_fill : List Str := ["writing", "table", "item"]
theorem sc_law_fill : FnScope n_law_fill ["writing", "table"] (defScope s_law_fill) := ⟨rfl, rfl, rfl, by decide +kernel, rfl, by decide +kernel, by decide +kernel⟩
def m_law_fill (self : List D → Option D) : En → Option Out :=
    (seqM (ifM (boolM (unM (isiD "str") (nameV 0))) (retF (bind3 (nameV 1) (nameV 0) (nameV 0) get2D)) nextM)
    (retF (callM tupleD (consM (bind2 (lstM (consM (bind2 (nameV 0) (cI 0) ixD) nilM)) (asLst (lcM [2] (itemsA (slM (nameV 0) (partM (cI 1)) noP)) (bndN 2) yesM (callM self (consM (nameV 2) (consM (nameV 1) nilM))))) addD) nilM))))
def f_law_fill_ : Nat → List D → Option D
  | 0 => fun _ => none
  | n + 1 => bodyM 2 3 (m_law_fill (f_law_fill_ n))
def f_law_fill : List D → Option D := f_law_fill_ 24
section
variable {P : Program} {w : World} {K : PySem.W.Frag} {mg : Str → Option Value} {base : Heap} {fa : Addr} {fd : FuncData}
theorem ok1_law_fill {self : List D → Option D} {k : Nat} (hk : 0 ≤ k) (F : Fun K "_law_fill" "_law_fill" s_law_fill fa fd) (z_isinstance : mg "isinstance" = none) (z_str : mg "str" = none) (z_tuple : mg "tuple" = none) (F_law_fill : DF P w K mg base "_law_fill" k ["writing", "table"] self) : FnOk P w K mg base CX0 (k + 1) fa fd ["writing", "table"] (spD K (bodyM 2 3 (m_law_fill self))) :=
  fn_ok F sc_law_fill fun cdv A outer s0 H E hr =>
    (dss_cons (ds_if (dt_val (de_isi (T := "str") (Tn := "str") (dr_of (de_name 0)) (by rfl) z_isinstance (by rfl) z_str boot_str))
    (dss_one (ds_ret (de_get2 (hu_of hr) (dr_of (de_name 1)) (dr_of (de_name 0)) (de_name 0) ⟨rfl, rfl, rfl, rfl⟩)))
    dss_nil)
    (dss_one (ds_ret (de_callTy (call_tupleK rfl) rc_tuple (by rfl) z_tuple boot_tuple (dar_cons (dr_of (de_op (op_addA rfl) ro_add (dr_of (de_lst (da_cons (de_ix (hu_of hr) (dr_of (de_name 0)) (dr_of de_int)) da_nil))) (dr_of (DF1.e (DLc.toDF1 (dlc (own := [("item", 2)]) rfl sc_law_fill.nd (di1_seq (dr_of (de_slice (dr_of (de_name 0)) (do_some (dr_of de_int)) do_none))) (blkOk_by (own := [("item", 2)]) (N := n_law_fill) (sc := defScope s_law_fill) (by decide +kernel)) (fun _ _ _ _ _ => (dg_name 2 sc_law_fill.nd)) (fun _ _ _ _ _ => dts_nil) (fun _ _ _ _ _ => (de_call F_law_fill hr (by rfl) (da_cons (de_name 2) (da_cons (de_name 1) da_nil)) (by omega))) (by rfl) s0)))))) dar_nil)))))
theorem ok2_law_fill (F : Fun K "_law_fill" "_law_fill" s_law_fill fa fd) (z_isinstance : mg "isinstance" = none) (z_str : mg "str" = none) (z_tuple : mg "tuple" = none) (hm : mg "_law_fill" = some (.ref fa)) (hb : Binds K fd ["writing", "table"] []) : ∀ n : Nat, FnOk P w K mg base CX0 (0 + n) fa fd ["writing", "table"] (spD K (f_law_fill_ n))
  | 0 => fn_zero
  | n + 1 => ok1_law_fill (Nat.le_add_right _ _) F z_isinstance z_str z_tuple ⟨fa, fd, hm, F.kp, hb, ok2_law_fill F z_isinstance z_str z_tuple hm hb n⟩
end

/-! ### _law_menu -/
abbrev s_law_menu : Stmt := topS 15
abbrev n_law_menu : List Str := ["series", "many", "letters", "letter", "word", "at", "menu", "k", "ending"]
theorem sc_law_menu : FnScope n_law_menu ["series", "many"] (defScope s_law_menu) := ⟨rfl, rfl, rfl, by decide +kernel, rfl, by decide +kernel, by decide +kernel⟩
def m_law_menu : En → Option Out :=
    (seqM (setM 2 (cS "ABCDEFGHIJKLMNOPQRSTUVWXYZ"))
    (seqM (setM 3 (bind2 (nameV 2) (callM intD (consM (bind2 (nameV 0) (cI 2) ixD) nilM)) ixD))
    (seqM (setM 4 (bind2 (nameV 3) (slM (callM strOfD (consM (bind2 (cI 100000) (callM intD (consM (bind2 (nameV 0) (cI 4) ixD) nilM)) addD) nilM)) (partM (cI 1)) noP) addD))
    (seqM (setM 5 (callM intD (consM (bind2 (nameV 0) (cI 3) ixD) nilM)))
    (seqM (setM 6 (lstM (consM (cS "X") (consM (cS "Y2") (consM (cS "A") (consM (cS "Z10") (consM (cS "X1") (consM (cS "B") (consM (cS "K07") (consM (cS "W") nilM))))))))))
    (seqM (ifM (boolM (bind2 (bind2 (nameV 0) (cI 0) ixD) (cI 1) eqD)) (setM 6 (asLst (lcM [8] (itemsA (lstM (consM (cS "1") (consM (cS "") (consM (cS "01") (consM (cS "10") (consM (cS "2") (consM (cS "00001") (consM (cS "11") (consM (cS "0") nilM)))))))))) (bndN 8) yesM (bind2 (nameV 3) (nameV 8) addD)))) nextM)
    (seqM (ifM (andM (boolM (bind2 (bind2 (nameV 0) (cI 0) ixD) (cI 2) eqD)) (boolM (bind2 (nameV 5) (cI 0) eqD))) (setM 6 (asLst (lcM [7] (rngM1 (consM (cI 8) nilM)) (bndN 7) yesM (bind2 (bind2 (nameV 2) (bind2 (callM intD (consM (bind2 (bind2 (nameV 0) (cI 2) ixD) (bind2 (cI 3) (nameV 7) mulD) addD) nilM)) (cI 26) modD) ixD) (slM (nameV 4) (partM (cI 1)) noP) addD)))) nextM)
    (seqM (ifM (andM (boolM (bind2 (bind2 (nameV 0) (cI 0) ixD) (cI 2) eqD)) (boolM (bind2 (nameV 5) (cI 0) (cmpD fun i j => decide (j < i))))) (setM 6 (asLst (lcM [7] (rngM1 (consM (cI 8) nilM)) (bndN 7) yesM (bind2 (bind2 (slM (nameV 4) noP (partM (nameV 5))) (callM strOfD (consM (bind2 (callM intD (consM (bind2 (bind2 (nameV 0) (cI 4) ixD) (bind2 (cI 3) (nameV 7) mulD) addD) nilM)) (cI 10) modD) nilM)) addD) (slM (nameV 4) (partM (bind2 (nameV 5) (cI 1) addD)) noP) addD)))) nextM)
    (retF (asLst (lcM [7] (rngM1 (consM (nameV 1) nilM)) (bndN 7) yesM (bind2 (nameV 6) (bind2 (callM intD (consM (bind2 (bind2 (nameV 0) (cI 1) ixD) (bind2 (cI 3) (nameV 7) mulD) addD) nilM)) (cI 8) modD) ixD))))))))))))
def f_law_menu : List D → Option D := bodyM 2 9 m_law_menu
section
variable {P : Program} {w : World} {K : PySem.W.Frag} {mg : Str → Option Value} {base : Heap} {fa : Addr} {fd : FuncData}
theorem ok_law_menu (F : Fun K "_law_menu" "_law_menu" s_law_menu fa fd) (z_int : mg "int" = none) (z_range : mg "range" = none) (z_str : mg "str" = none) : FnOk P w K mg base CX0 1 fa fd ["series", "many"] (spD K f_law_menu) :=
  fn_ok (k := 0) F sc_law_menu fun cdv A outer s0 H E hr =>
    (dss_cons (ds_set 2 de_str sc_law_menu.nd)
    (dss_cons (ds_set 3 (de_ix (hu_of hr) (dr_of (de_name 2)) (dr_of (de_callTy call_int1 rc_int (by rfl) z_int boot_int (dar_cons (dr_of (de_ix (hu_of hr) (dr_of (de_name 0)) (dr_of de_int))) dar_nil)))) sc_law_menu.nd)
    (dss_cons (ds_set 4 (de_op (op_addA rfl) ro_add (dr_of (de_name 3)) (dr_of (de_slice (dr_of (de_callTy call_str_int rc_str (by rfl) z_str boot_str (dar_cons (dr_of (de_op (op_addA rfl) ro_add (dr_of de_int) (dr_of (de_callTy call_int1 rc_int (by rfl) z_int boot_int (dar_cons (dr_of (de_ix (hu_of hr) (dr_of (de_name 0)) (dr_of de_int))) dar_nil))))) dar_nil))) (do_some (dr_of de_int)) do_none))) sc_law_menu.nd)
    (dss_cons (ds_set 5 (de_callTy call_int1 rc_int (by rfl) z_int boot_int (dar_cons (dr_of (de_ix (hu_of hr) (dr_of (de_name 0)) (dr_of de_int))) dar_nil)) sc_law_menu.nd)
    (dss_cons (ds_set 6 (de_lst (da_cons de_str (da_cons de_str (da_cons de_str (da_cons de_str (da_cons de_str (da_cons de_str (da_cons de_str (da_cons de_str da_nil))))))))) sc_law_menu.nd)
    (dss_cons (ds_if (dt_cmp (op_eqK hr.units rfl) ro_eq (dr_of (de_ix (hu_of hr) (dr_of (de_name 0)) (dr_of de_int))) (dr_of de_int) (nomark _))
    (dss_one (ds_set 6 (DF1.e (DLc.toDF1 (dlc (own := [("ending", 8)]) rfl sc_law_menu.nd (di1_seq (dr_of (de_lst (da_cons de_str (da_cons de_str (da_cons de_str (da_cons de_str (da_cons de_str (da_cons de_str (da_cons de_str (da_cons de_str da_nil))))))))))) (blkOk_by (own := [("ending", 8)]) (N := n_law_menu) (sc := defScope s_law_menu) (by decide +kernel)) (fun _ _ _ _ _ => (dg_name 8 sc_law_menu.nd)) (fun _ _ _ _ _ => dts_nil) (fun _ _ _ _ _ => (de_op (op_addA rfl) ro_add (dr_of (de_name 3)) (dr_of (de_name 8)))) (by rfl) s0))) sc_law_menu.nd))
    dss_nil)
    (dss_cons (ds_if (dt_w (dw_and (dt_cmp (op_eqK hr.units rfl) ro_eq (dr_of (de_ix (hu_of hr) (dr_of (de_name 0)) (dr_of de_int))) (dr_of de_int) (nomark _)) (dw_and1 (dt_cmp (op_eqK hr.units rfl) ro_eq (dr_of (de_name 5)) (dr_of de_int) (nomark _)))))
    (dss_one (ds_set 6 (DF1.e (DLc.toDF1 (dlc (own := [("k", 7)]) rfl sc_law_menu.nd (DI0.to1 (di0_range1 (by rfl) z_range (dar_cons (dr_of de_int) dar_nil))) (blkOk_by (own := [("k", 7)]) (N := n_law_menu) (sc := defScope s_law_menu) (by decide +kernel)) (fun _ _ _ _ _ => (dg_name 7 sc_law_menu.nd)) (fun _ _ _ _ _ => dts_nil) (fun _ _ _ _ _ => (de_op (op_addA rfl) ro_add (dr_of (de_ix (hu_of hr) (dr_of (de_name 2)) (dr_of (de_op op_mod ro_mod (dr_of (de_callTy call_int1 rc_int (by rfl) z_int boot_int (dar_cons (dr_of (de_op (op_addA rfl) ro_add (dr_of (de_ix (hu_of hr) (dr_of (de_name 0)) (dr_of de_int))) (dr_of (de_op op_mulA ro_mul (dr_of de_int) (dr_of (de_name 7)))))) dar_nil))) (dr_of de_int))))) (dr_of (de_slice (dr_of (de_name 4)) (do_some (dr_of de_int)) do_none)))) (by rfl) s0))) sc_law_menu.nd))
    dss_nil)
    (dss_cons (ds_if (dt_w (dw_and (dt_cmp (op_eqK hr.units rfl) ro_eq (dr_of (de_ix (hu_of hr) (dr_of (de_name 0)) (dr_of de_int))) (dr_of de_int) (nomark _)) (dw_and1 (dt_cmp op_gt (ro_cmp fun i j => decide (j < i)) (dr_of (de_name 5)) (dr_of de_int) (nomark _)))))
    (dss_one (ds_set 6 (DF1.e (DLc.toDF1 (dlc (own := [("k", 7)]) rfl sc_law_menu.nd (DI0.to1 (di0_range1 (by rfl) z_range (dar_cons (dr_of de_int) dar_nil))) (blkOk_by (own := [("k", 7)]) (N := n_law_menu) (sc := defScope s_law_menu) (by decide +kernel)) (fun _ _ _ _ _ => (dg_name 7 sc_law_menu.nd)) (fun _ _ _ _ _ => dts_nil) (fun _ _ _ _ _ => (de_op (op_addA rfl) ro_add (dr_of (de_op (op_addA rfl) ro_add (dr_of (de_slice (dr_of (de_name 4)) do_none (do_some (dr_of (de_name 5))))) (dr_of (de_callTy call_str_int rc_str (by rfl) z_str boot_str (dar_cons (dr_of (de_op op_mod ro_mod (dr_of (de_callTy call_int1 rc_int (by rfl) z_int boot_int (dar_cons (dr_of (de_op (op_addA rfl) ro_add (dr_of (de_ix (hu_of hr) (dr_of (de_name 0)) (dr_of de_int))) (dr_of (de_op op_mulA ro_mul (dr_of de_int) (dr_of (de_name 7)))))) dar_nil))) (dr_of de_int))) dar_nil))))) (dr_of (de_slice (dr_of (de_name 4)) (do_some (dr_of (de_op (op_addA rfl) ro_add (dr_of (de_name 5)) (dr_of de_int)))) do_none)))) (by rfl) s0))) sc_law_menu.nd))
    dss_nil)
    (dss_one (ds_ret (DF1.e (DLc.toDF1 (dlc (own := [("k", 7)]) rfl sc_law_menu.nd (DI0.to1 (di0_range1 (by rfl) z_range (dar_cons (dr_of (de_name 1)) dar_nil))) (blkOk_by (own := [("k", 7)]) (N := n_law_menu) (sc := defScope s_law_menu) (by decide +kernel)) (fun _ _ _ _ _ => (dg_name 7 sc_law_menu.nd)) (fun _ _ _ _ _ => dts_nil) (fun _ _ _ _ _ => (de_ix (hu_of hr) (dr_of (de_name 6)) (dr_of (de_op op_mod ro_mod (dr_of (de_callTy call_int1 rc_int (by rfl) z_int boot_int (dar_cons (dr_of (de_op (op_addA rfl) ro_add (dr_of (de_ix (hu_of hr) (dr_of (de_name 0)) (dr_of de_int))) (dr_of (de_op op_mulA ro_mul (dr_of de_int) (dr_of (de_name 7)))))) dar_nil))) (dr_of de_int))))) (by rfl) s0)))))))))))))
end

/-! ### _law_filling -/
abbrev s_law_filling : Stmt := topS 16
abbrev n_law_filling : List Str := ["script", "at", "symbols", "names", "depth", "shape", "pairs", "k", "name", "digits"]
theorem sc_law_filling : FnScope n_law_filling ["script", "at", "symbols", "names", "depth"] (defScope s_law_filling) := ⟨rfl, rfl, rfl, by decide +kernel, rfl, by decide +kernel, by decide +kernel⟩
def l1_law_filling : En → Option Out := (seqM (setM 8 (bind2 (nameV 3) (bind2 (bind2 (callM intD (consM (bind2 (nameV 5) (cI 1) ixD) nilM)) (bind2 (bind2 (lstM (consM (cI 1) (consM (cI 5) nilM))) (bind2 (nameV 5) (cI 2) ixD) ixD) (nameV 7) mulD) addD) (cI 6) modD) ixD))
    (seqM (setM 9 (callM f_law_digits (consM (callM f_law_cell (consM (nameV 0) (consM (bind2 (bind2 (nameV 1) (cI 1) addD) (nameV 7) addD) nilM))) (consM (bind2 (lstM (consM (cI 1200) nilM)) (cI 7) mulD) nilM))))
    (appM 6 (tupM (consM (nameV 8) (consM (bind2 (callM f_law_term (consM (nameV 2) (consM (nameV 3) (consM (nameV 9) (consM (cI 0) (consM (callM minD (consM (nameV 4) (consM (bind2 (nameV 5) (bind2 (cI 3) (nameV 7) addD) ixD) nilM))) nilM)))))) (cI 0) ixD) nilM))))))
def m_law_filling : En → Option Out :=
    (seqM (setM 5 (callM f_law_digits (consM (callM f_law_cell (consM (nameV 0) (consM (nameV 1) nilM))) (consM (lstM (consM (cI 6) (consM (cI 6) (consM (cI 2) (consM (cI 3) (consM (cI 3) (consM (cI 3) (consM (cI 3) (consM (cI 3) nilM))))))))) nilM))))
    (seqM (setOwnM 6 (lstF nilM))
    (seqM (forM (rngM1 (consM (bind2 (nameV 5) (cI 0) ixD) nilM)) (bndN 7) l1_law_filling)
    (retF (nameV 6)))))
def f_law_filling : List D → Option D := bodyM 5 10 m_law_filling
section
variable {P : Program} {w : World} {K : PySem.W.Frag} {mg : Str → Option Value} {base : Heap} {fa : Addr} {fd : FuncData}
theorem ok_law_filling (F : Fun K "_law_filling" "_law_filling" s_law_filling fa fd) (F_law_cell : DF P w K mg base "_law_cell" 1 ["script", "k"] f_law_cell) (F_law_digits : DF P w K mg base "_law_digits" 1 ["cell", "sizes"] f_law_digits) (F_law_term : DF P w K mg base "_law_term" 8 ["symbols", "names", "series", "at", "depth"] f_law_term) (z_int : mg "int" = none) (z_min : mg "min" = none) (z_range : mg "range" = none) : FnOk P w K mg base CX0 9 fa fd ["script", "at", "symbols", "names", "depth"] (spD K f_law_filling) :=
  fn_ok (k := 8) F sc_law_filling fun cdv A outer s0 H E hr =>
    (dss_cons (ds_set 5 (de_call F_law_digits hr (by rfl) (da_cons (de_call F_law_cell hr (by rfl) (da_cons (de_name 0) (da_cons (de_name 1) da_nil)) (by omega)) (da_cons (de_lst (da_cons de_int (da_cons de_int (da_cons de_int (da_cons de_int (da_cons de_int (da_cons de_int (da_cons de_int (da_cons de_int da_nil))))))))) da_nil)) (by omega)) sc_law_filling.nd)
    (dss_cons (ds_setOwn 6 (df_lst da_nil) sc_law_filling.nd)
    (dss_cons (ds_for PassesOwn.never rfl (di0_range1 (by rfl) z_range (dar_cons (dr_of (de_ix (hu_of hr) (dr_of (de_name 5)) (dr_of de_int))) dar_nil)) (dg_name 7 sc_law_filling.nd) (dss_cons (ds_set 8 (de_ix (hu_of hr) (dr_of (de_name 3)) (dr_of (de_op op_mod ro_mod (dr_of (de_op (op_addA rfl) ro_add (dr_of (de_callTy call_int1 rc_int (by rfl) z_int boot_int (dar_cons (dr_of (de_ix (hu_of hr) (dr_of (de_name 5)) (dr_of de_int))) dar_nil))) (dr_of (de_op op_mulA ro_mul (dr_of (de_ix (hu_of hr) (dr_of (de_lst (da_cons de_int (da_cons de_int da_nil)))) (dr_of (de_ix (hu_of hr) (dr_of (de_name 5)) (dr_of de_int))))) (dr_of (de_name 7)))))) (dr_of de_int)))) sc_law_filling.nd)
    (dss_cons (ds_set 9 (de_call F_law_digits hr (by rfl) (da_cons (de_call F_law_cell hr (by rfl) (da_cons (de_name 0) (da_cons (de_op (op_addA rfl) ro_add (dr_of (de_op (op_addA rfl) ro_add (dr_of (de_name 1)) (dr_of de_int))) (dr_of (de_name 7))) da_nil)) (by omega)) (da_cons (de_op op_mulA ro_mul (dr_of (de_lst (da_cons de_int da_nil))) (dr_of de_int)) da_nil)) (by omega)) sc_law_filling.nd)
    (dss_one (ds_append 6 (de_tup (da_cons (de_name 8) (da_cons (de_ix (hu_of hr) (dr_of (de_call F_law_term hr (by rfl) (da_cons (de_name 2) (da_cons (de_name 3) (da_cons (de_name 9) (da_cons de_int (da_cons (de_callB (call_min2 rfl) rc_min (by rfl) z_min (by decide +kernel) (dar_cons (dr_of (de_name 4)) (dar_cons (dr_of (de_ix (hu_of hr) (dr_of (de_name 5)) (dr_of (de_op (op_addA rfl) ro_add (dr_of de_int) (dr_of (de_name 7)))))) dar_nil))) da_nil))))) (by omega))) (dr_of de_int)) da_nil))))))))
    (dss_one (ds_ret (de_name 6))))))
end

/-! ### _law_table -/
abbrev s_law_table : Stmt := topS 17
abbrev n_law_table : List Str := ["pairs", "table", "pair"]
theorem sc_law_table : FnScope n_law_table ["pairs"] (defScope s_law_table) := ⟨rfl, rfl, rfl, by decide +kernel, rfl, by decide +kernel, by decide +kernel⟩
def l1_law_table : En → Option Out := (dputM 1 (bind2 (nameV 2) (cI 0) ixD) (bind2 (nameV 2) (cI 1) ixD))
def m_law_table : En → Option Out :=
    (seqM (newDict 1)
    (seqM (forM (itemsA (nameV 0)) (bndN 2) l1_law_table)
    (retF (nameV 1))))
def f_law_table : List D → Option D := bodyM 1 3 m_law_table
section
variable {P : Program} {w : World} {K : PySem.W.Frag} {mg : Str → Option Value} {base : Heap} {fa : Addr} {fd : FuncData}
theorem ok_law_table (F : Fun K "_law_table" "_law_table" s_law_table fa fd) : FnOk P w K mg base CX0 1 fa fd ["pairs"] (spD K f_law_table) :=
  fn_ok (k := 0) F sc_law_table fun cdv A outer s0 H E hr =>
    (dss_cons (ds_setDict 1 sc_law_table.nd)
    (dss_cons (ds_for PassesOwn.never rfl (di0_seq (de_name 0)) (dg_name 2 sc_law_table.nd) (dss_one (ds_dput 1 (hu_of hr) (de_ix (hu_of hr) (dr_of (de_name 2)) (dr_of de_int)) (de_ix (hu_of hr) (dr_of (de_name 2)) (dr_of de_int)))))
    (dss_one (ds_ret (de_name 1)))))
end

/-! ### _law_due -/
abbrev s_law_due : Stmt := topS 18
abbrev n_law_due : List Str := ["names", "fillings", "pairs", "key", "image", "pairs_of_one", "name"]
theorem sc_law_due : FnScope n_law_due ["names", "fillings"] (defScope s_law_due) := ⟨rfl, rfl, rfl, by decide +kernel, rfl, by decide +kernel, by decide +kernel⟩
def l1_law_due : En → Option Out := (setM 4 (callM f_law_fill (consM (nameV 4) (consM (callM f_law_table (consM (nameV 5) nilM)) nilM))))
def l2_law_due : En → Option Out := (seqM (setM 4 (bind2 (nameV 3) (cI 1) ixD))
    (seqM (forM (itemsA (nameV 1)) (bndN 5) l1_law_due)
    (ifM (boolM (bind2 (nameV 4) (bind2 (nameV 3) (cI 1) ixD) neD)) (appM 2 (tupM (consM (bind2 (nameV 3) (cI 1) ixD) (consM (nameV 4) nilM)))) nextM)))
def m_law_due : En → Option Out :=
    (seqM (setOwnM 2 (lstF nilM))
    (seqM (forM (itemsA (asLst (sortF (consM (asLst (lcM [6] (itemsA (nameV 0)) (bndN 6) yesM (tupM (consM (callM lenD (consM (nameV 6) nilM)) (consM (nameV 6) nilM))))) nilM)))) (bndN 3) l2_law_due)
    (retF (callM tupleD (consM (nameR 2) nilM)))))
def f_law_due : List D → Option D := bodyM 2 7 m_law_due
section
variable {P : Program} {w : World} {K : PySem.W.Frag} {mg : Str → Option Value} {base : Heap} {fa : Addr} {fd : FuncData}
theorem ok_law_due (F : Fun K "_law_due" "_law_due" s_law_due fa fd) (F_law_fill : DF P w K mg base "_law_fill" 24 ["writing", "table"] f_law_fill) (F_law_table : DF P w K mg base "_law_table" 1 ["pairs"] f_law_table) (z_len : mg "len" = none) (z_sorted : mg "sorted" = none) (z_tuple : mg "tuple" = none) : FnOk P w K mg base CX0 25 fa fd ["names", "fillings"] (spD K f_law_due) :=
  fn_ok (k := 24) F sc_law_due fun cdv A outer s0 H E hr =>
    (dss_cons (ds_setOwn 2 (df_lst da_nil) sc_law_due.nd)
    (dss_cons (ds_for PassesOwn.never rfl (di0_seq (DF1.e (df_sorted hr.units (by rfl) z_sorted (dar_cons (dr_of (DF1.e (DLc.toDF1 (dlc (own := [("name", 6)]) rfl sc_law_due.nd (di1_seq (dr_of (de_name 0))) (blkOk_by (own := [("name", 6)]) (N := n_law_due) (sc := defScope s_law_due) (by decide +kernel)) (fun _ _ _ _ _ => (dg_name 6 sc_law_due.nd)) (fun _ _ _ _ _ => dts_nil) (fun _ _ _ _ _ => (de_tup (da_cons (de_callB (call_lenA rfl) rc_len (by rfl) z_len PySem.boot_len (dar_cons (dr_of (de_name 6)) dar_nil)) (da_cons (de_name 6) da_nil)))) (by rfl) s0)))) dar_nil)))) (dg_name 3 sc_law_due.nd) (dss_cons (ds_set 4 (de_ix (hu_of hr) (dr_of (de_name 3)) (dr_of de_int)) sc_law_due.nd)
    (dss_cons (ds_for PassesOwn.never rfl (di0_seq (de_name 1)) (dg_name 5 sc_law_due.nd) (dss_one (ds_set 4 (de_call F_law_fill hr (by rfl) (da_cons (de_name 4) (da_cons (de_call F_law_table hr (by rfl) (da_cons (de_name 5) da_nil) (by omega)) da_nil)) (by omega)) sc_law_due.nd)))
    (dss_one (ds_if (dt_cmp (op_neK hr.units rfl) ro_ne (dr_of (de_name 4)) (dr_of (de_ix (hu_of hr) (dr_of (de_name 3)) (dr_of de_int))) (nomark _))
    (dss_one (ds_append 2 (de_tup (da_cons (de_ix (hu_of hr) (dr_of (de_name 3)) (dr_of de_int)) (da_cons (de_name 4) da_nil)))))
    dss_nil)))))
    (dss_one (ds_ret (de_callTy (call_tupleK rfl) rc_tuple (by rfl) z_tuple boot_tuple (dar_cons (dr_name 2) dar_nil))))))
end

/-! ### _law_filled_rightly -/
abbrev s_law_filled_rightly : Stmt := topS 19
abbrev n_law_filled_rightly : List Str := ["drawn", "former", "latter", "told", "listed", "first", "both"]
theorem sc_law_filled_rightly : FnScope n_law_filled_rightly ["drawn", "former", "latter", "told"] (defScope s_law_filled_rightly) := ⟨rfl, rfl, rfl, by decide +kernel, rfl, by decide +kernel, by decide +kernel⟩
def m_law_filled_rightly : En → Option Out :=
    (seqM (setM 4 (asLst (listF (consM (nameV 1) nilM))))
    (seqM (setM 5 (callM f_fill_term (consM (nameV 0) (consM (nameV 4) nilM))))
    (seqM (ifM (orM (boolM (bind2 (nameV 5) (callM f_law_fill (consM (nameV 0) (consM (callM f_law_table (consM (nameV 1) nilM)) nilM))) neD)) (boolM (bind2 (nameV 4) (asLst (listF (consM (nameV 1) nilM))) neD))) (retF (cB false)) nextM)
    (seqM (setM 6 (callM f_law_fill (consM (nameV 5) (consM (callM f_law_table (consM (nameV 2) nilM)) nilM))))
    (seqM (ifM (boolM (bind2 (callM f_fill_term (consM (nameV 5) (consM (callM tupleD (consM (nameV 2) nilM)) nilM))) (nameV 6) neD)) (retF (cB false)) nextM)
    (retF (andV (bind2 (callM f_fill_term (consM (nameV 0) (consM (nameV 3) nilM))) (nameV 6) eqD) (bind2 (callM f_fill_term (consM (nameV 0) (consM (lstM nilM) nilM))) (nameV 0) eqD))))))))
def f_law_filled_rightly : List D → Option D := bodyM 4 7 m_law_filled_rightly
section
variable {P : Program} {w : World} {K : PySem.W.Frag} {mg : Str → Option Value} {base : Heap} {fa : Addr} {fd : FuncData}
theorem ok_law_filled_rightly (F : Fun K "_law_filled_rightly" "_law_filled_rightly" s_law_filled_rightly fa fd) (K_fill_term : DFK P w K mg base "fill_term" 25 ["term", "filling"] f_fill_term) (F_law_fill : DF P w K mg base "_law_fill" 24 ["writing", "table"] f_law_fill) (F_law_table : DF P w K mg base "_law_table" 1 ["pairs"] f_law_table) (z_list : mg "list" = none) (z_tuple : mg "tuple" = none) : FnOk P w K mg base CX0 26 fa fd ["drawn", "former", "latter", "told"] (spD K f_law_filled_rightly) :=
  fn_ok (k := 25) F sc_law_filled_rightly fun cdv A outer s0 H E hr =>
    (dss_cons (ds_set 4 (DF1.e (df_list (by rfl) z_list (dar_cons (dr_of (de_name 1)) dar_nil))) sc_law_filled_rightly.nd)
    (dss_cons (ds_set 5 (de_call K_fill_term.df hr (by rfl) (da_cons (de_name 0) (da_cons (de_name 4) da_nil)) (by omega)) sc_law_filled_rightly.nd)
    (dss_cons (ds_if (dt_w (dw_or (dt_cmp (op_neK hr.units rfl) ro_ne (dr_of (de_name 5)) (dr_of (de_call F_law_fill hr (by rfl) (da_cons (de_name 0) (da_cons (de_call F_law_table hr (by rfl) (da_cons (de_name 1) da_nil) (by omega)) da_nil)) (by omega))) (nomark _)) (dw_or1 (dt_cmp (op_neK hr.units rfl) ro_ne (dr_of (de_name 4)) (dr_of (DF1.e (df_list (by rfl) z_list (dar_cons (dr_of (de_name 1)) dar_nil)))) (nomark _)))))
    (dss_one (ds_ret de_bl))
    dss_nil)
    (dss_cons (ds_set 6 (de_call F_law_fill hr (by rfl) (da_cons (de_name 5) (da_cons (de_call F_law_table hr (by rfl) (da_cons (de_name 2) da_nil) (by omega)) da_nil)) (by omega)) sc_law_filled_rightly.nd)
    (dss_cons (ds_if (dt_cmp (op_neK hr.units rfl) ro_ne (dr_of (de_callK K_fill_term hr (by rfl) (dk_cons (de_name 5) (dk_cons (de_callTy (call_tupleK rfl) rc_tuple (by rfl) z_tuple boot_tuple (dar_cons (dr_of (de_name 2)) dar_nil)) dk_nil)) (by omega))) (dr_of (de_name 6)) (nomark _))
    (dss_one (ds_ret de_bl))
    dss_nil)
    (dss_one (ds_ret (de_and (de_cmp (op_eqK hr.units rfl) ro_eq (dr_of (de_call K_fill_term.df hr (by rfl) (da_cons (de_name 0) (da_cons (de_name 3) da_nil)) (by omega))) (dr_of (de_name 6)) (nomark _)) (de_one (de_cmp (op_eqK hr.units rfl) ro_eq (dr_of (de_call K_fill_term.df hr (by rfl) (da_cons (de_name 0) (da_cons (de_lst da_nil) da_nil)) (by omega))) (dr_of (de_name 0)) (nomark _)))))))))))
end

/-! ### law -/
abbrev s_law : Stmt := topS 20
abbrev n_law : List Str := ["script", "head", "symbols", "names", "former", "latter", "three", "handed", "told", "due", "whole", "series", "k", "drawn", "small", "large", "wide", "great", "behind", "filled_row", "copy", "many", "returning"]
theorem sc_law : FnScope n_law ["script"] (defScope s_law) := ⟨rfl, rfl, rfl, by decide +kernel, rfl, by decide +kernel, by decide +kernel⟩
def l1_law : En → Option Out := (appM 11 (bind2 (callM f_law_term (consM (nameV 2) (consM (nameV 3) (consM (callM f_law_digits (consM (callM f_law_cell (consM (nameV 0) (consM (bind2 (cI 19) (nameV 12) addD) nilM))) (consM (bind2 (lstM (consM (cI 1200) nilM)) (cI 7) mulD) nilM))) (consM (cI 0) (consM (cI 2) nilM)))))) (cI 0) ixD))
def l2_law : En → Option Out := (ifM (orM (notM (boolM (callM f_law_filled_rightly (consM (nameV 13) (consM (nameV 4) (consM (nameV 5) (consM (nameV 8) nilM))))))) (notM (boolM (callM f_law_filled_rightly (consM (nameV 13) (consM (nameV 5) (consM (nameV 6) (consM (callM f_composed (consM (nameV 5) (consM (nameV 6) nilM))) nilM)))))))) (retF (cB false)) nextM)
def m_law : En → Option Out :=
    (seqM (setM 1 (callM f_law_digits (consM (callM f_law_cell (consM (nameV 0) (consM (cI 0) nilM))) (consM (lstM (consM (cI 10) (consM (cI 6) (consM (cI 4) (consM (cI 4) (consM (cI 4) (consM (cI 3) (consM (cI 362880) (consM (cI 4) (consM (cI 5) (consM (cI 7) (consM (cI 4) nilM)))))))))))) nilM))))
    (seqM (setM 2 (callM f_law_symbols (consM (nameV 1) (consM (callM f_law_labels (consM (callM f_law_digits (consM (callM f_law_cell (consM (nameV 0) (consM (cI 60) nilM))) (consM (lstM (consM (cI 3) (consM (cI 8) (consM (cI 8) (consM (cI 26) (consM (bind2 (cI 36) (cI 7) powD) nilM)))))) nilM))) nilM)) nilM))))
    (seqM (setM 3 (callM f_law_menu (consM (callM f_law_digits (consM (callM f_law_cell (consM (nameV 0) (consM (cI 61) nilM))) (consM (lstM (consM (cI 3) (consM (cI 8) (consM (cI 26) (consM (cI 6) (consM (cI 100000) nilM)))))) nilM))) (consM (cI 6) nilM))))
    (seqM (setM 4 (callM f_law_filling (consM (nameV 0) (consM (cI 1) (consM (nameV 2) (consM (nameV 3) (consM (cI 2) nilM)))))))
    (seqM (setM 5 (callM f_law_filling (consM (nameV 0) (consM (cI 7) (consM (nameV 2) (consM (nameV 3) (consM (cI 1) nilM)))))))
    (seqM (setM 6 (callM f_law_filling (consM (nameV 0) (consM (cI 13) (consM (nameV 2) (consM (nameV 3) (consM (cI 1) nilM)))))))
    (seqM (ifM (boolM (bind2 (bind2 (nameV 1) (cI 7) ixD) (cI 1) eqD)) (seqM (setM 21 (bind2 (cI 2) (bind2 (nameV 1) (cI 8) ixD) addD))
    (seqM (setM 4 (asLst (lcM [12] (rngM1 (consM (nameV 21) nilM)) (bndN 12) yesM (tupM (consM (bind2 (nameV 3) (nameV 12) ixD) (consM (bind2 (nameV 3) (bind2 (bind2 (nameV 12) (cI 1) addD) (nameV 21) modD) ixD) nilM))))))
    (seqM (setOwnM 22 (lcM [12] (rngM1 (consM (nameV 21) nilM)) (bndN 12) yesM (tupM (consM (bind2 (nameV 3) (bind2 (bind2 (nameV 12) (cI 1) addD) (nameV 21) modD) ixD) (consM (bind2 (nameV 3) (nameV 12) ixD) nilM)))))
    (seqM (ifM (boolM (bind2 (bind2 (nameV 1) (cI 9) ixD) (nameV 21) (cmpD fun i j => decide (i < j)))) (setItM 22 (bind2 (nameV 1) (cI 9) ixD) (tupM (consM (bind2 (bind2 (nameR 22) (bind2 (nameV 1) (cI 9) ixD) ixD) (cI 0) ixD) (consM (bind2 (bind2 (bind2 (nameV 5) (lstM (consM (tupM (consM (cS "X") (consM (bind2 (nameV 3) (cI 0) ixD) nilM))) nilM)) addD) (cI 0) ixD) (cI 1) ixD) nilM)))) nextM)
    (frzM [22] (setM 5 (nameV 22))))))) nextM)
    (seqM (setM 7 (lstM (consM (asLst (listF (consM (nameV 4) nilM))) (consM (asLst (listF (consM (nameV 5) nilM))) nilM))))
    (seqM (setM 8 (callM f_composed (consM (bind2 (nameV 7) (cI 0) ixD) (consM (bind2 (nameV 7) (cI 1) ixD) nilM))))
    (seqM (setM 9 (callM f_law_due (consM (nameV 3) (consM (lstM (consM (nameV 4) (consM (nameV 5) nilM))) nilM))))
    (seqM (ifM (orM (boolM (bind2 (nameV 8) (nameV 9) neD)) (orM (boolM (bind2 (callM f_composed (consM (callM tupleD (consM (nameV 4) nilM)) (consM (callM tupleD (consM (nameV 5) nilM)) nilM))) (nameV 9) neD)) (boolM (bind2 (nameV 7) (lstM (consM (nameV 4) (consM (nameV 5) nilM))) neD)))) (retF (cB false)) nextM)
    (seqM (ifM (orM (boolM (bind2 (callM f_composed (consM (lstM nilM) (consM (nameV 5) nilM))) (callM f_law_due (consM (nameV 3) (consM (lstM (consM (nameV 5) nilM)) nilM))) neD)) (boolM (bind2 (callM f_composed (consM (nameV 4) (consM (tupM nilM) nilM))) (callM f_law_due (consM (nameV 3) (consM (lstM (consM (nameV 4) nilM)) nilM))) neD))) (retF (cB false)) nextM)
    (seqM (setM 10 (callM f_law_due (consM (nameV 3) (consM (lstM (consM (nameV 4) (consM (nameV 5) (consM (nameV 6) nilM)))) nilM))))
    (seqM (ifM (orM (boolM (bind2 (callM f_composed (consM (nameV 8) (consM (nameV 6) nilM))) (nameV 10) neD)) (boolM (bind2 (callM f_composed (consM (nameV 4) (consM (callM f_composed (consM (nameV 5) (consM (nameV 6) nilM))) nilM))) (nameV 10) neD))) (retF (cB false)) nextM)
    (seqM (setOwnM 11 (lstF nilM))
    (seqM (forM (rngM1 (consM (bind2 (cI 1) (bind2 (nameV 1) (cI 10) ixD) addD) nilM)) (bndN 12) l1_law)
    (seqM (frzM [11] (forM (itemsA (nameV 11)) (bndN 13) l2_law))
    (seqM (setM 14 (bind2 (callM f_law_term (consM (nameV 2) (consM (nameV 3) (consM (callM f_law_digits (consM (callM f_law_cell (consM (nameV 0) (consM (cI 23) nilM))) (consM (bind2 (lstM (consM (cI 1200) nilM)) (cI 3) mulD) nilM))) (consM (cI 0) (consM (cI 1) nilM)))))) (cI 0) ixD))
    (seqM (setM 15 (callM f_law_full (consM (nameV 2) (consM (nameV 3) (consM (callM f_law_digits (consM (callM f_law_cell (consM (nameV 0) (consM (cI 24) nilM))) (consM (bind2 (lstM (consM (cI 60) nilM)) (cI 15) mulD) nilM))) (consM (cI 0) (consM (cI 3) nilM)))))))
    (seqM (setM 16 (asLst (lcM [12] (rngM1 (consM (cI 3) nilM)) (bndN 12) yesM (tupM (consM (bind2 (nameV 3) (nameV 12) ixD) (consM (callM f_law_full (consM (nameV 2) (consM (nameV 3) (consM (callM f_law_digits (consM (callM f_law_cell (consM (nameV 0) (consM (bind2 (cI 25) (nameV 12) addD) nilM))) (consM (bind2 (lstM (consM (cI 60) nilM)) (cI 15) mulD) nilM))) (consM (cI 0) (consM (cI 3) nilM)))))) nilM))))))
    (seqM (setM 17 (callM f_law_fill (consM (nameV 15) (consM (callM f_law_table (consM (nameV 16) nilM)) nilM))))
    (seqM (ifM (orM (boolM (bind2 (callM f_fill_term (consM (nameV 15) (consM (nameV 16) nilM))) (nameV 17) neD)) (boolM (bind2 (callM f_fill_row (consM (lstM (consM (nameV 14) (consM (nameV 15) nilM))) (consM (nameV 16) nilM))) (tupM (consM (callM f_law_fill (consM (nameV 14) (consM (callM f_law_table (consM (nameV 16) nilM)) nilM))) (consM (nameV 17) nilM))) neD))) (retF (cB false)) nextM)
    (seqM (ifM (boolM (bind2 (callM f_composed (consM (lstM (consM (tupM (consM (bind2 (nameV 3) (cI 5) ixD) (consM (nameV 15) nilM))) nilM)) (consM (nameV 16) nilM))) (callM f_law_due (consM (nameV 3) (consM (lstM (consM (lstM (consM (tupM (consM (bind2 (nameV 3) (cI 5) ixD) (consM (nameV 15) nilM))) nilM)) (consM (nameV 16) nilM))) nilM))) neD)) (retF (cB false)) nextM)
    (seqM (setM 18 (callM f_law_fill (consM (callM f_law_fill (consM (callM f_law_fill (consM (nameV 14) (consM (callM f_law_table (consM (nameV 4) nilM)) nilM))) (consM (callM f_law_table (consM (nameV 5) nilM)) nilM))) (consM (callM f_law_table (consM (nameV 6) nilM)) nilM))))
    (seqM (ifM (orM (boolM (bind2 (callM f_fill_term (consM (callM f_fill_term (consM (callM f_fill_term (consM (nameV 14) (consM (nameV 4) nilM))) (consM (nameV 5) nilM))) (consM (nameV 6) nilM))) (nameV 18) neD)) (boolM (bind2 (callM f_fill_term (consM (nameV 14) (consM (nameV 10) nilM))) (nameV 18) neD))) (retF (cB false)) nextM)
    (seqM (setM 19 (callM tupleD (consM (asLst (lcM [13] (itemsA (nameR 11)) (bndN 13) yesM (callM f_law_fill (consM (nameV 13) (consM (callM f_law_table (consM (nameV 4) nilM)) nilM))))) nilM)))
    (seqM (setM 20 (asLst (listF (consM (nameR 11) nilM))))
    (seqM (ifM (orM (boolM (bind2 (callM f_fill_row (consM (nameV 20) (consM (bind2 (nameV 7) (cI 0) ixD) nilM))) (nameV 19) neD)) (orM (boolM (bind2 (callM f_fill_row (consM (callM tupleD (consM (nameR 11) nilM)) (consM (callM tupleD (consM (nameV 4) nilM)) nilM))) (nameV 19) neD)) (boolM (bind2 (callM f_fill_row (consM (nameV 20) (consM (tupM nilM) nilM))) (callM tupleD (consM (nameR 11) nilM)) neD)))) (retF (cB false)) nextM)
    (seqM (ifM (orM (boolM (bind2 (callM f_fill_row (consM (nameV 20) (consM (nameV 8) nilM))) (callM f_fill_row (consM (nameV 19) (consM (nameV 5) nilM))) neD)) (boolM (bind2 (callM f_fill_row (consM (nameV 19) (consM (nameV 5) nilM))) (callM tupleD (consM (asLst (lcM [13] (itemsA (nameV 19)) (bndN 13) yesM (callM f_law_fill (consM (nameV 13) (consM (callM f_law_table (consM (nameV 5) nilM)) nilM))))) nilM)) neD))) (retF (cB false)) nextM)
    (retF (andV (bind2 (nameV 20) (nameR 11) eqD) (andV (bind2 (nameV 7) (lstM (consM (nameV 4) (consM (nameV 5) nilM))) eqD) (bind2 (callM f_composed (consM (nameV 4) (consM (nameV 5) nilM))) (nameV 9) eqD)))))))))))))))))))))))))))))))))
def f_law : List D → Option D := bodyM 1 23 m_law
section
variable {P : Program} {w : World} {K : PySem.W.Frag} {mg : Str → Option Value} {base : Heap} {fa : Addr} {fd : FuncData}
theorem ok_law (F : Fun K "law" "law" s_law fa fd) (K_fill_term : DFK P w K mg base "fill_term" 25 ["term", "filling"] f_fill_term) (K_fill_row : DFK P w K mg base "fill_row" 25 ["row", "filling"] f_fill_row) (K_composed : DFK P w K mg base "composed" 26 ["one", "two"] f_composed) (F_law_cell : DF P w K mg base "_law_cell" 1 ["script", "k"] f_law_cell) (F_law_digits : DF P w K mg base "_law_digits" 1 ["cell", "sizes"] f_law_digits) (F_law_labels : DF P w K mg base "_law_labels" 1 ["series"] f_law_labels) (F_law_symbols : DF P w K mg base "_law_symbols" 1 ["series", "menu"] f_law_symbols) (F_law_term : DF P w K mg base "_law_term" 8 ["symbols", "names", "series", "at", "depth"] f_law_term) (F_law_full : DF P w K mg base "_law_full" 8 ["symbols", "names", "series", "at", "depth"] f_law_full) (F_law_fill : DF P w K mg base "_law_fill" 24 ["writing", "table"] f_law_fill) (F_law_menu : DF P w K mg base "_law_menu" 1 ["series", "many"] f_law_menu) (F_law_filling : DF P w K mg base "_law_filling" 9 ["script", "at", "symbols", "names", "depth"] f_law_filling) (F_law_table : DF P w K mg base "_law_table" 1 ["pairs"] f_law_table) (F_law_due : DF P w K mg base "_law_due" 25 ["names", "fillings"] f_law_due) (F_law_filled_rightly : DF P w K mg base "_law_filled_rightly" 26 ["drawn", "former", "latter", "told"] f_law_filled_rightly) (z_list : mg "list" = none) (z_range : mg "range" = none) (z_tuple : mg "tuple" = none) : FnOk P w K mg base CX0 27 fa fd ["script"] (spD K f_law) :=
  fn_ok (k := 26) F sc_law fun cdv A outer s0 H E hr =>
    (dss_cons (ds_set 1 (de_call F_law_digits hr (by rfl) (da_cons (de_call F_law_cell hr (by rfl) (da_cons (de_name 0) (da_cons de_int da_nil)) (by omega)) (da_cons (de_lst (da_cons de_int (da_cons de_int (da_cons de_int (da_cons de_int (da_cons de_int (da_cons de_int (da_cons de_int (da_cons de_int (da_cons de_int (da_cons de_int (da_cons de_int da_nil)))))))))))) da_nil)) (by omega)) sc_law.nd)
    (dss_cons (ds_set 2 (de_call F_law_symbols hr (by rfl) (da_cons (de_name 1) (da_cons (de_call F_law_labels hr (by rfl) (da_cons (de_call F_law_digits hr (by rfl) (da_cons (de_call F_law_cell hr (by rfl) (da_cons (de_name 0) (da_cons de_int da_nil)) (by omega)) (da_cons (de_lst (da_cons de_int (da_cons de_int (da_cons de_int (da_cons de_int (da_cons (de_op op_pow ro_pow (dr_of de_int) (dr_of de_int)) da_nil)))))) da_nil)) (by omega)) da_nil) (by omega)) da_nil)) (by omega)) sc_law.nd)
    (dss_cons (ds_set 3 (de_call F_law_menu hr (by rfl) (da_cons (de_call F_law_digits hr (by rfl) (da_cons (de_call F_law_cell hr (by rfl) (da_cons (de_name 0) (da_cons de_int da_nil)) (by omega)) (da_cons (de_lst (da_cons de_int (da_cons de_int (da_cons de_int (da_cons de_int (da_cons de_int da_nil)))))) da_nil)) (by omega)) (da_cons de_int da_nil)) (by omega)) sc_law.nd)
    (dss_cons (ds_set 4 (de_call F_law_filling hr (by rfl) (da_cons (de_name 0) (da_cons de_int (da_cons (de_name 2) (da_cons (de_name 3) (da_cons de_int da_nil))))) (by omega)) sc_law.nd)
    (dss_cons (ds_set 5 (de_call F_law_filling hr (by rfl) (da_cons (de_name 0) (da_cons de_int (da_cons (de_name 2) (da_cons (de_name 3) (da_cons de_int da_nil))))) (by omega)) sc_law.nd)
    (dss_cons (ds_set 6 (de_call F_law_filling hr (by rfl) (da_cons (de_name 0) (da_cons de_int (da_cons (de_name 2) (da_cons (de_name 3) (da_cons de_int da_nil))))) (by omega)) sc_law.nd)
    (dss_cons (ds_if (dt_cmp (op_eqK hr.units rfl) ro_eq (dr_of (de_ix (hu_of hr) (dr_of (de_name 1)) (dr_of de_int))) (dr_of de_int) (nomark _))
    (dss_cons (ds_set 21 (de_op (op_addA rfl) ro_add (dr_of de_int) (dr_of (de_ix (hu_of hr) (dr_of (de_name 1)) (dr_of de_int)))) sc_law.nd)
    (dss_cons (ds_set 4 (DF1.e (DLc.toDF1 (dlc (own := [("k", 12)]) rfl sc_law.nd (DI0.to1 (di0_range1 (by rfl) z_range (dar_cons (dr_of (de_name 21)) dar_nil))) (blkOk_by (own := [("k", 12)]) (N := n_law) (sc := defScope s_law) (by decide +kernel)) (fun _ _ _ _ _ => (dg_name 12 sc_law.nd)) (fun _ _ _ _ _ => dts_nil) (fun _ _ _ _ _ => (de_tup (da_cons (de_ix (hu_of hr) (dr_of (de_name 3)) (dr_of (de_name 12))) (da_cons (de_ix (hu_of hr) (dr_of (de_name 3)) (dr_of (de_op op_mod ro_mod (dr_of (de_op (op_addA rfl) ro_add (dr_of (de_name 12)) (dr_of de_int))) (dr_of (de_name 21))))) da_nil)))) (by rfl) s0))) sc_law.nd)
    (dss_cons (ds_setLcOwn 22 (dlc (own := [("k", 12)]) rfl sc_law.nd (DI0.to1 (di0_range1 (by rfl) z_range (dar_cons (dr_of (de_name 21)) dar_nil))) (blkOk_by (own := [("k", 12)]) (N := n_law) (sc := defScope s_law) (by decide +kernel)) (fun _ _ _ _ _ => (dg_name 12 sc_law.nd)) (fun _ _ _ _ _ => dts_nil) (fun _ _ _ _ _ => (de_tup (da_cons (de_ix (hu_of hr) (dr_of (de_name 3)) (dr_of (de_op op_mod ro_mod (dr_of (de_op (op_addA rfl) ro_add (dr_of (de_name 12)) (dr_of de_int))) (dr_of (de_name 21))))) (da_cons (de_ix (hu_of hr) (dr_of (de_name 3)) (dr_of (de_name 12))) da_nil)))) (by rfl) s0))
    (dss_cons (ds_if (dt_cmp op_lt (ro_cmp fun i j => decide (i < j)) (dr_of (de_ix (hu_of hr) (dr_of (de_name 1)) (dr_of de_int))) (dr_of (de_name 21)) (nomark _))
    (dss_one (ds_setItem 22 (de_ix (hu_of hr) (dr_of (de_name 1)) (dr_of de_int)) (de_tup (da_cons (de_ix (hu_of hr) (dr_of (de_ix (hu_of hr) (dr_name 22) (dr_of (de_ix (hu_of hr) (dr_of (de_name 1)) (dr_of de_int))))) (dr_of de_int)) (da_cons (de_ix (hu_of hr) (dr_of (de_ix (hu_of hr) (dr_of (de_op (op_addA rfl) ro_add (dr_of (de_name 5)) (dr_of (de_lst (da_cons (de_tup (da_cons de_str (da_cons (de_ix (hu_of hr) (dr_of (de_name 3)) (dr_of de_int)) da_nil))) da_nil))))) (dr_of de_int))) (dr_of de_int)) da_nil)))))
    dss_nil)
    (dss_one (ds_frz [22] (ds_set 5 (de_name 22) sc_law.nd)))))))
    dss_nil)
    (dss_cons (ds_set 7 (de_lst (da_cons (DF1.e (df_list (by rfl) z_list (dar_cons (dr_of (de_name 4)) dar_nil))) (da_cons (DF1.e (df_list (by rfl) z_list (dar_cons (dr_of (de_name 5)) dar_nil))) da_nil))) sc_law.nd)
    (dss_cons (ds_set 8 (de_call K_composed.df hr (by rfl) (da_cons (de_ix (hu_of hr) (dr_of (de_name 7)) (dr_of de_int)) (da_cons (de_ix (hu_of hr) (dr_of (de_name 7)) (dr_of de_int)) da_nil)) (by omega)) sc_law.nd)
    (dss_cons (ds_set 9 (de_call F_law_due hr (by rfl) (da_cons (de_name 3) (da_cons (de_lst (da_cons (de_name 4) (da_cons (de_name 5) da_nil))) da_nil)) (by omega)) sc_law.nd)
    (dss_cons (ds_if (dt_w (dw_or (dt_cmp (op_neK hr.units rfl) ro_ne (dr_of (de_name 8)) (dr_of (de_name 9)) (nomark _)) (dw_or (dt_cmp (op_neK hr.units rfl) ro_ne (dr_of (de_call K_composed.df hr (by rfl) (da_cons (de_callTy (call_tupleK rfl) rc_tuple (by rfl) z_tuple boot_tuple (dar_cons (dr_of (de_name 4)) dar_nil)) (da_cons (de_callTy (call_tupleK rfl) rc_tuple (by rfl) z_tuple boot_tuple (dar_cons (dr_of (de_name 5)) dar_nil)) da_nil)) (by omega))) (dr_of (de_name 9)) (nomark _)) (dw_or1 (dt_cmp (op_neK hr.units rfl) ro_ne (dr_of (de_name 7)) (dr_of (de_lst (da_cons (de_name 4) (da_cons (de_name 5) da_nil)))) (nomark _))))))
    (dss_one (ds_ret de_bl))
    dss_nil)
    (dss_cons (ds_if (dt_w (dw_or (dt_cmp (op_neK hr.units rfl) ro_ne (dr_of (de_call K_composed.df hr (by rfl) (da_cons (de_lst da_nil) (da_cons (de_name 5) da_nil)) (by omega))) (dr_of (de_call F_law_due hr (by rfl) (da_cons (de_name 3) (da_cons (de_lst (da_cons (de_name 5) da_nil)) da_nil)) (by omega))) (nomark _)) (dw_or1 (dt_cmp (op_neK hr.units rfl) ro_ne (dr_of (de_callK K_composed hr (by rfl) (dk_cons (de_name 4) (dk_cons (de_tup da_nil) dk_nil)) (by omega))) (dr_of (de_call F_law_due hr (by rfl) (da_cons (de_name 3) (da_cons (de_lst (da_cons (de_name 4) da_nil)) da_nil)) (by omega))) (nomark _)))))
    (dss_one (ds_ret de_bl))
    dss_nil)
    (dss_cons (ds_set 10 (de_call F_law_due hr (by rfl) (da_cons (de_name 3) (da_cons (de_lst (da_cons (de_name 4) (da_cons (de_name 5) (da_cons (de_name 6) da_nil)))) da_nil)) (by omega)) sc_law.nd)
    (dss_cons (ds_if (dt_w (dw_or (dt_cmp (op_neK hr.units rfl) ro_ne (dr_of (de_call K_composed.df hr (by rfl) (da_cons (de_name 8) (da_cons (de_name 6) da_nil)) (by omega))) (dr_of (de_name 10)) (nomark _)) (dw_or1 (dt_cmp (op_neK hr.units rfl) ro_ne (dr_of (de_call K_composed.df hr (by rfl) (da_cons (de_name 4) (da_cons (de_call K_composed.df hr (by rfl) (da_cons (de_name 5) (da_cons (de_name 6) da_nil)) (by omega)) da_nil)) (by omega))) (dr_of (de_name 10)) (nomark _)))))
    (dss_one (ds_ret de_bl))
    dss_nil)
    (dss_cons (ds_setOwn 11 (df_lst da_nil) sc_law.nd)
    (dss_cons (ds_for PassesOwn.never rfl (di0_range1 (by rfl) z_range (dar_cons (dr_of (de_op (op_addA rfl) ro_add (dr_of de_int) (dr_of (de_ix (hu_of hr) (dr_of (de_name 1)) (dr_of de_int))))) dar_nil)) (dg_name 12 sc_law.nd) (dss_one (ds_append 11 (de_ix (hu_of hr) (dr_of (de_call F_law_term hr (by rfl) (da_cons (de_name 2) (da_cons (de_name 3) (da_cons (de_call F_law_digits hr (by rfl) (da_cons (de_call F_law_cell hr (by rfl) (da_cons (de_name 0) (da_cons (de_op (op_addA rfl) ro_add (dr_of de_int) (dr_of (de_name 12))) da_nil)) (by omega)) (da_cons (de_op op_mulA ro_mul (dr_of (de_lst (da_cons de_int da_nil))) (dr_of de_int)) da_nil)) (by omega)) (da_cons de_int (da_cons de_int da_nil))))) (by omega))) (dr_of de_int)))))
    (dss_cons (ds_frz [11] (ds_for PassesOwn.never rfl (di0_seq (de_name 11)) (dg_name 13 sc_law.nd) (dss_one (ds_if (dt_w (dw_or (dt_not (dt_val (de_call F_law_filled_rightly hr (by rfl) (da_cons (de_name 13) (da_cons (de_name 4) (da_cons (de_name 5) (da_cons (de_name 8) da_nil)))) (by omega)))) (dw_or1 (dt_not (dt_val (de_call F_law_filled_rightly hr (by rfl) (da_cons (de_name 13) (da_cons (de_name 5) (da_cons (de_name 6) (da_cons (de_call K_composed.df hr (by rfl) (da_cons (de_name 5) (da_cons (de_name 6) da_nil)) (by omega)) da_nil)))) (by omega)))))))
    (dss_one (ds_ret de_bl))
    dss_nil))))
    (dss_cons (ds_set 14 (de_ix (hu_of hr) (dr_of (de_call F_law_term hr (by rfl) (da_cons (de_name 2) (da_cons (de_name 3) (da_cons (de_call F_law_digits hr (by rfl) (da_cons (de_call F_law_cell hr (by rfl) (da_cons (de_name 0) (da_cons de_int da_nil)) (by omega)) (da_cons (de_op op_mulA ro_mul (dr_of (de_lst (da_cons de_int da_nil))) (dr_of de_int)) da_nil)) (by omega)) (da_cons de_int (da_cons de_int da_nil))))) (by omega))) (dr_of de_int)) sc_law.nd)
    (dss_cons (ds_set 15 (de_call F_law_full hr (by rfl) (da_cons (de_name 2) (da_cons (de_name 3) (da_cons (de_call F_law_digits hr (by rfl) (da_cons (de_call F_law_cell hr (by rfl) (da_cons (de_name 0) (da_cons de_int da_nil)) (by omega)) (da_cons (de_op op_mulA ro_mul (dr_of (de_lst (da_cons de_int da_nil))) (dr_of de_int)) da_nil)) (by omega)) (da_cons de_int (da_cons de_int da_nil))))) (by omega)) sc_law.nd)
    (dss_cons (ds_setLc 16 (dlc (own := [("k", 12)]) rfl sc_law.nd (DI0.to1 (di0_range1 (by rfl) z_range (dar_cons (dr_of de_int) dar_nil))) (blkOk_by (own := [("k", 12)]) (N := n_law) (sc := defScope s_law) (by decide +kernel)) (fun _ _ _ _ _ => (dg_name 12 sc_law.nd)) (fun _ _ _ _ _ => dts_nil) (fun _ _ _ _ _ => (de_tup (da_cons (de_ix (hu_of hr) (dr_of (de_name 3)) (dr_of (de_name 12))) (da_cons (de_call F_law_full hr (by rfl) (da_cons (de_name 2) (da_cons (de_name 3) (da_cons (de_call F_law_digits hr (by rfl) (da_cons (de_call F_law_cell hr (by rfl) (da_cons (de_name 0) (da_cons (de_op (op_addA rfl) ro_add (dr_of de_int) (dr_of (de_name 12))) da_nil)) (by omega)) (da_cons (de_op op_mulA ro_mul (dr_of (de_lst (da_cons de_int da_nil))) (dr_of de_int)) da_nil)) (by omega)) (da_cons de_int (da_cons de_int da_nil))))) (by omega)) da_nil)))) (by rfl) s0))
    (dss_cons (ds_set 17 (de_call F_law_fill hr (by rfl) (da_cons (de_name 15) (da_cons (de_call F_law_table hr (by rfl) (da_cons (de_name 16) da_nil) (by omega)) da_nil)) (by omega)) sc_law.nd)
    (dss_cons (ds_if (dt_w (dw_or (dt_cmp (op_neK hr.units rfl) ro_ne (dr_of (de_call K_fill_term.df hr (by rfl) (da_cons (de_name 15) (da_cons (de_name 16) da_nil)) (by omega))) (dr_of (de_name 17)) (nomark _)) (dw_or1 (dt_cmp (op_neK hr.units rfl) ro_ne (dr_of (de_call K_fill_row.df hr (by rfl) (da_cons (de_lst (da_cons (de_name 14) (da_cons (de_name 15) da_nil))) (da_cons (de_name 16) da_nil)) (by omega))) (dr_of (de_tup (da_cons (de_call F_law_fill hr (by rfl) (da_cons (de_name 14) (da_cons (de_call F_law_table hr (by rfl) (da_cons (de_name 16) da_nil) (by omega)) da_nil)) (by omega)) (da_cons (de_name 17) da_nil)))) (nomark _)))))
    (dss_one (ds_ret de_bl))
    dss_nil)
    (dss_cons (ds_if (dt_cmp (op_neK hr.units rfl) ro_ne (dr_of (de_call K_composed.df hr (by rfl) (da_cons (de_lst (da_cons (de_tup (da_cons (de_ix (hu_of hr) (dr_of (de_name 3)) (dr_of de_int)) (da_cons (de_name 15) da_nil))) da_nil)) (da_cons (de_name 16) da_nil)) (by omega))) (dr_of (de_call F_law_due hr (by rfl) (da_cons (de_name 3) (da_cons (de_lst (da_cons (de_lst (da_cons (de_tup (da_cons (de_ix (hu_of hr) (dr_of (de_name 3)) (dr_of de_int)) (da_cons (de_name 15) da_nil))) da_nil)) (da_cons (de_name 16) da_nil))) da_nil)) (by omega))) (nomark _))
    (dss_one (ds_ret de_bl))
    dss_nil)
    (dss_cons (ds_set 18 (de_call F_law_fill hr (by rfl) (da_cons (de_call F_law_fill hr (by rfl) (da_cons (de_call F_law_fill hr (by rfl) (da_cons (de_name 14) (da_cons (de_call F_law_table hr (by rfl) (da_cons (de_name 4) da_nil) (by omega)) da_nil)) (by omega)) (da_cons (de_call F_law_table hr (by rfl) (da_cons (de_name 5) da_nil) (by omega)) da_nil)) (by omega)) (da_cons (de_call F_law_table hr (by rfl) (da_cons (de_name 6) da_nil) (by omega)) da_nil)) (by omega)) sc_law.nd)
    (dss_cons (ds_if (dt_w (dw_or (dt_cmp (op_neK hr.units rfl) ro_ne (dr_of (de_call K_fill_term.df hr (by rfl) (da_cons (de_call K_fill_term.df hr (by rfl) (da_cons (de_call K_fill_term.df hr (by rfl) (da_cons (de_name 14) (da_cons (de_name 4) da_nil)) (by omega)) (da_cons (de_name 5) da_nil)) (by omega)) (da_cons (de_name 6) da_nil)) (by omega))) (dr_of (de_name 18)) (nomark _)) (dw_or1 (dt_cmp (op_neK hr.units rfl) ro_ne (dr_of (de_call K_fill_term.df hr (by rfl) (da_cons (de_name 14) (da_cons (de_name 10) da_nil)) (by omega))) (dr_of (de_name 18)) (nomark _)))))
    (dss_one (ds_ret de_bl))
    dss_nil)
    (dss_cons (ds_set 19 (de_callTy (call_tupleK rfl) rc_tuple (by rfl) z_tuple boot_tuple (dar_cons (dr_of (DF1.e (DLc.toDF1 (dlc (own := [("drawn", 13)]) rfl sc_law.nd (di1_seq (dr_name 11)) (blkOk_by (own := [("drawn", 13)]) (N := n_law) (sc := defScope s_law) (by decide +kernel)) (fun _ _ _ _ _ => (dg_name 13 sc_law.nd)) (fun _ _ _ _ _ => dts_nil) (fun _ _ _ _ _ => (de_call F_law_fill hr (by rfl) (da_cons (de_name 13) (da_cons (de_call F_law_table hr (by rfl) (da_cons (de_name 4) da_nil) (by omega)) da_nil)) (by omega))) (by rfl) s0)))) dar_nil)) sc_law.nd)
    (dss_cons (ds_set 20 (DF1.e (df_list (by rfl) z_list (dar_cons (dr_name 11) dar_nil))) sc_law.nd)
    (dss_cons (ds_if (dt_w (dw_or (dt_cmp (op_neK hr.units rfl) ro_ne (dr_of (de_call K_fill_row.df hr (by rfl) (da_cons (de_name 20) (da_cons (de_ix (hu_of hr) (dr_of (de_name 7)) (dr_of de_int)) da_nil)) (by omega))) (dr_of (de_name 19)) (nomark _)) (dw_or (dt_cmp (op_neK hr.units rfl) ro_ne (dr_of (de_call K_fill_row.df hr (by rfl) (da_cons (de_callTy (call_tupleK rfl) rc_tuple (by rfl) z_tuple boot_tuple (dar_cons (dr_name 11) dar_nil)) (da_cons (de_callTy (call_tupleK rfl) rc_tuple (by rfl) z_tuple boot_tuple (dar_cons (dr_of (de_name 4)) dar_nil)) da_nil)) (by omega))) (dr_of (de_name 19)) (nomark _)) (dw_or1 (dt_cmp (op_neK hr.units rfl) ro_ne (dr_of (de_callK K_fill_row hr (by rfl) (dk_cons (de_name 20) (dk_cons (de_tup da_nil) dk_nil)) (by omega))) (dr_of (de_callTy (call_tupleK rfl) rc_tuple (by rfl) z_tuple boot_tuple (dar_cons (dr_name 11) dar_nil))) (nomark _))))))
    (dss_one (ds_ret de_bl))
    dss_nil)
    (dss_cons (ds_if (dt_w (dw_or (dt_cmp (op_neK hr.units rfl) ro_ne (dr_of (de_call K_fill_row.df hr (by rfl) (da_cons (de_name 20) (da_cons (de_name 8) da_nil)) (by omega))) (dr_of (de_call K_fill_row.df hr (by rfl) (da_cons (de_name 19) (da_cons (de_name 5) da_nil)) (by omega))) (nomark _)) (dw_or1 (dt_cmp (op_neK hr.units rfl) ro_ne (dr_of (de_call K_fill_row.df hr (by rfl) (da_cons (de_name 19) (da_cons (de_name 5) da_nil)) (by omega))) (dr_of (de_callTy (call_tupleK rfl) rc_tuple (by rfl) z_tuple boot_tuple (dar_cons (dr_of (DF1.e (DLc.toDF1 (dlc (own := [("drawn", 13)]) rfl sc_law.nd (di1_seq (dr_of (de_name 19))) (blkOk_by (own := [("drawn", 13)]) (N := n_law) (sc := defScope s_law) (by decide +kernel)) (fun _ _ _ _ _ => (dg_name 13 sc_law.nd)) (fun _ _ _ _ _ => dts_nil) (fun _ _ _ _ _ => (de_call F_law_fill hr (by rfl) (da_cons (de_name 13) (da_cons (de_call F_law_table hr (by rfl) (da_cons (de_name 5) da_nil) (by omega)) da_nil)) (by omega))) (by rfl) s0)))) dar_nil))) (nomark _)))))
    (dss_one (ds_ret de_bl))
    dss_nil)
    (dss_one (ds_ret (de_and (de_cmp (op_eqK hr.units rfl) ro_eq (dr_of (de_name 20)) (dr_name 11) (nomark _)) (de_and (de_cmp (op_eqK hr.units rfl) ro_eq (dr_of (de_name 7)) (dr_of (de_lst (da_cons (de_name 4) (da_cons (de_name 5) da_nil)))) (nomark _)) (de_one (de_cmp (op_eqK hr.units rfl) ro_eq (dr_of (de_call K_composed.df hr (by rfl) (da_cons (de_name 4) (da_cons (de_name 5) da_nil)) (by omega))) (dr_of (de_name 9)) (nomark _))))))))))))))))))))))))))))))))))))
end

/-! ### the end -/
theorem all_mk {l : PySem.W.OpenLaw} {w : World} {K : PySem.W.Frag} {h : Heap} {mg : Str → Option Value} {fa : Addr} (X : K.In h) (G : h.Ns mainGlobals mg) (hfa : mg "law" = some (.ref fa))
    {f0 : Addr} {od0 an0 : Option Addr} {sl0 : Array (Option Value)} {oc0 kV0 dc0 pm0 cd0 ct0 : Value}
    (a0 : PySem.W.nsIn K mainGlobals "in_variable_order" = some (some (.ref f0))) (l0 : K.lookup f0 = some ⟨oc0, od0, .func (PySem.W.fnOf "in_variable_order" "in_variable_order" (defArgs s_in_variable_order) (defBody s_in_variable_order) (defScope s_in_variable_order) .none kV0 dc0 pm0 an0 cd0 ct0), sl0⟩) (c0 : PySem.W.codeIn K cd0 "in_variable_order" = true) (k0 : PySem.W.keepIn K (.ref f0) = true)
    {f1 : Addr} {od1 an1 : Option Addr} {sl1 : Array (Option Value)} {oc1 kV1 dc1 pm1 cd1 ct1 : Value}
    (a1 : PySem.W.nsIn K mainGlobals "fill_term" = some (some (.ref f1))) (l1 : K.lookup f1 = some ⟨oc1, od1, .func (PySem.W.fnOf "fill_term" "fill_term" (defArgs s_fill_term) (defBody s_fill_term) (defScope s_fill_term) .none kV1 dc1 pm1 an1 cd1 ct1), sl1⟩) (c1 : PySem.W.codeIn K cd1 "fill_term" = true) (k1 : PySem.W.keepIn K (.ref f1) = true)
    {f2 : Addr} {od2 an2 : Option Addr} {sl2 : Array (Option Value)} {oc2 kV2 dc2 pm2 cd2 ct2 : Value}
    (a2 : PySem.W.nsIn K mainGlobals "fill_row" = some (some (.ref f2))) (l2 : K.lookup f2 = some ⟨oc2, od2, .func (PySem.W.fnOf "fill_row" "fill_row" (defArgs s_fill_row) (defBody s_fill_row) (defScope s_fill_row) .none kV2 dc2 pm2 an2 cd2 ct2), sl2⟩) (c2 : PySem.W.codeIn K cd2 "fill_row" = true) (k2 : PySem.W.keepIn K (.ref f2) = true)
    {f3 : Addr} {od3 an3 : Option Addr} {sl3 : Array (Option Value)} {oc3 kV3 dc3 pm3 cd3 ct3 : Value}
    (a3 : PySem.W.nsIn K mainGlobals "composed" = some (some (.ref f3))) (l3 : K.lookup f3 = some ⟨oc3, od3, .func (PySem.W.fnOf "composed" "composed" (defArgs s_composed) (defBody s_composed) (defScope s_composed) .none kV3 dc3 pm3 an3 cd3 ct3), sl3⟩) (c3 : PySem.W.codeIn K cd3 "composed" = true) (k3 : PySem.W.keepIn K (.ref f3) = true)
    {f4 : Addr} {od4 an4 : Option Addr} {sl4 : Array (Option Value)} {oc4 kV4 dc4 pm4 cd4 ct4 : Value}
    (a4 : PySem.W.nsIn K mainGlobals "_replaced" = some (some (.ref f4))) (l4 : K.lookup f4 = some ⟨oc4, od4, .func (PySem.W.fnOf "_replaced" "_replaced" (defArgs s_replaced) (defBody s_replaced) (defScope s_replaced) .none kV4 dc4 pm4 an4 cd4 ct4), sl4⟩) (c4 : PySem.W.codeIn K cd4 "_replaced" = true) (k4 : PySem.W.keepIn K (.ref f4) = true)
    {f5 : Addr} {od5 an5 : Option Addr} {sl5 : Array (Option Value)} {oc5 kV5 dc5 pm5 cd5 ct5 : Value}
    (a5 : PySem.W.nsIn K mainGlobals "_law_cell" = some (some (.ref f5))) (l5 : K.lookup f5 = some ⟨oc5, od5, .func (PySem.W.fnOf "_law_cell" "_law_cell" (defArgs s_law_cell) (defBody s_law_cell) (defScope s_law_cell) .none kV5 dc5 pm5 an5 cd5 ct5), sl5⟩) (c5 : PySem.W.codeIn K cd5 "_law_cell" = true) (k5 : PySem.W.keepIn K (.ref f5) = true)
    {f6 : Addr} {od6 an6 : Option Addr} {sl6 : Array (Option Value)} {oc6 kV6 dc6 pm6 cd6 ct6 : Value}
    (a6 : PySem.W.nsIn K mainGlobals "_law_digits" = some (some (.ref f6))) (l6 : K.lookup f6 = some ⟨oc6, od6, .func (PySem.W.fnOf "_law_digits" "_law_digits" (defArgs s_law_digits) (defBody s_law_digits) (defScope s_law_digits) .none kV6 dc6 pm6 an6 cd6 ct6), sl6⟩) (c6 : PySem.W.codeIn K cd6 "_law_digits" = true) (k6 : PySem.W.keepIn K (.ref f6) = true)
    {f7 : Addr} {od7 an7 : Option Addr} {sl7 : Array (Option Value)} {oc7 kV7 dc7 pm7 cd7 ct7 : Value}
    (a7 : PySem.W.nsIn K mainGlobals "_law_labels" = some (some (.ref f7))) (l7 : K.lookup f7 = some ⟨oc7, od7, .func (PySem.W.fnOf "_law_labels" "_law_labels" (defArgs s_law_labels) (defBody s_law_labels) (defScope s_law_labels) .none kV7 dc7 pm7 an7 cd7 ct7), sl7⟩) (c7 : PySem.W.codeIn K cd7 "_law_labels" = true) (k7 : PySem.W.keepIn K (.ref f7) = true)
    {f8 : Addr} {od8 an8 : Option Addr} {sl8 : Array (Option Value)} {oc8 kV8 dc8 pm8 cd8 ct8 : Value}
    (a8 : PySem.W.nsIn K mainGlobals "_law_symbols" = some (some (.ref f8))) (l8 : K.lookup f8 = some ⟨oc8, od8, .func (PySem.W.fnOf "_law_symbols" "_law_symbols" (defArgs s_law_symbols) (defBody s_law_symbols) (defScope s_law_symbols) .none kV8 dc8 pm8 an8 cd8 ct8), sl8⟩) (c8 : PySem.W.codeIn K cd8 "_law_symbols" = true) (k8 : PySem.W.keepIn K (.ref f8) = true)
    {f9 : Addr} {od9 an9 : Option Addr} {sl9 : Array (Option Value)} {oc9 kV9 dc9 pm9 cd9 ct9 : Value}
    (a9 : PySem.W.nsIn K mainGlobals "_law_term" = some (some (.ref f9))) (l9 : K.lookup f9 = some ⟨oc9, od9, .func (PySem.W.fnOf "_law_term" "_law_term" (defArgs s_law_term) (defBody s_law_term) (defScope s_law_term) .none kV9 dc9 pm9 an9 cd9 ct9), sl9⟩) (c9 : PySem.W.codeIn K cd9 "_law_term" = true) (k9 : PySem.W.keepIn K (.ref f9) = true)
    {f10 : Addr} {od10 an10 : Option Addr} {sl10 : Array (Option Value)} {oc10 kV10 dc10 pm10 cd10 ct10 : Value}
    (a10 : PySem.W.nsIn K mainGlobals "_law_full" = some (some (.ref f10))) (l10 : K.lookup f10 = some ⟨oc10, od10, .func (PySem.W.fnOf "_law_full" "_law_full" (defArgs s_law_full) (defBody s_law_full) (defScope s_law_full) .none kV10 dc10 pm10 an10 cd10 ct10), sl10⟩) (c10 : PySem.W.codeIn K cd10 "_law_full" = true) (k10 : PySem.W.keepIn K (.ref f10) = true)
    {f11 : Addr} {od11 an11 : Option Addr} {sl11 : Array (Option Value)} {oc11 kV11 dc11 pm11 cd11 ct11 : Value}
    (a11 : PySem.W.nsIn K mainGlobals "_law_fill" = some (some (.ref f11))) (l11 : K.lookup f11 = some ⟨oc11, od11, .func (PySem.W.fnOf "_law_fill" "_law_fill" (defArgs s_law_fill) (defBody s_law_fill) (defScope s_law_fill) .none kV11 dc11 pm11 an11 cd11 ct11), sl11⟩) (c11 : PySem.W.codeIn K cd11 "_law_fill" = true) (k11 : PySem.W.keepIn K (.ref f11) = true)
    {f12 : Addr} {od12 an12 : Option Addr} {sl12 : Array (Option Value)} {oc12 kV12 dc12 pm12 cd12 ct12 : Value}
    (a12 : PySem.W.nsIn K mainGlobals "_law_menu" = some (some (.ref f12))) (l12 : K.lookup f12 = some ⟨oc12, od12, .func (PySem.W.fnOf "_law_menu" "_law_menu" (defArgs s_law_menu) (defBody s_law_menu) (defScope s_law_menu) .none kV12 dc12 pm12 an12 cd12 ct12), sl12⟩) (c12 : PySem.W.codeIn K cd12 "_law_menu" = true) (k12 : PySem.W.keepIn K (.ref f12) = true)
    {f13 : Addr} {od13 an13 : Option Addr} {sl13 : Array (Option Value)} {oc13 kV13 dc13 pm13 cd13 ct13 : Value}
    (a13 : PySem.W.nsIn K mainGlobals "_law_filling" = some (some (.ref f13))) (l13 : K.lookup f13 = some ⟨oc13, od13, .func (PySem.W.fnOf "_law_filling" "_law_filling" (defArgs s_law_filling) (defBody s_law_filling) (defScope s_law_filling) .none kV13 dc13 pm13 an13 cd13 ct13), sl13⟩) (c13 : PySem.W.codeIn K cd13 "_law_filling" = true) (k13 : PySem.W.keepIn K (.ref f13) = true)
    {f14 : Addr} {od14 an14 : Option Addr} {sl14 : Array (Option Value)} {oc14 kV14 dc14 pm14 cd14 ct14 : Value}
    (a14 : PySem.W.nsIn K mainGlobals "_law_table" = some (some (.ref f14))) (l14 : K.lookup f14 = some ⟨oc14, od14, .func (PySem.W.fnOf "_law_table" "_law_table" (defArgs s_law_table) (defBody s_law_table) (defScope s_law_table) .none kV14 dc14 pm14 an14 cd14 ct14), sl14⟩) (c14 : PySem.W.codeIn K cd14 "_law_table" = true) (k14 : PySem.W.keepIn K (.ref f14) = true)
    {f15 : Addr} {od15 an15 : Option Addr} {sl15 : Array (Option Value)} {oc15 kV15 dc15 pm15 cd15 ct15 : Value}
    (a15 : PySem.W.nsIn K mainGlobals "_law_due" = some (some (.ref f15))) (l15 : K.lookup f15 = some ⟨oc15, od15, .func (PySem.W.fnOf "_law_due" "_law_due" (defArgs s_law_due) (defBody s_law_due) (defScope s_law_due) .none kV15 dc15 pm15 an15 cd15 ct15), sl15⟩) (c15 : PySem.W.codeIn K cd15 "_law_due" = true) (k15 : PySem.W.keepIn K (.ref f15) = true)
    {f16 : Addr} {od16 an16 : Option Addr} {sl16 : Array (Option Value)} {oc16 kV16 dc16 pm16 cd16 ct16 : Value}
    (a16 : PySem.W.nsIn K mainGlobals "_law_filled_rightly" = some (some (.ref f16))) (l16 : K.lookup f16 = some ⟨oc16, od16, .func (PySem.W.fnOf "_law_filled_rightly" "_law_filled_rightly" (defArgs s_law_filled_rightly) (defBody s_law_filled_rightly) (defScope s_law_filled_rightly) .none kV16 dc16 pm16 an16 cd16 ct16), sl16⟩) (c16 : PySem.W.codeIn K cd16 "_law_filled_rightly" = true) (k16 : PySem.W.keepIn K (.ref f16) = true)
    {f17 : Addr} {od17 an17 : Option Addr} {sl17 : Array (Option Value)} {oc17 kV17 dc17 pm17 cd17 ct17 : Value}
    (a17 : PySem.W.nsIn K mainGlobals "law" = some (some (.ref f17))) (l17 : K.lookup f17 = some ⟨oc17, od17, .func (PySem.W.fnOf "law" "law" (defArgs s_law) (defBody s_law) (defScope s_law) .none kV17 dc17 pm17 an17 cd17 ct17), sl17⟩) (c17 : PySem.W.codeIn K cd17 "law" = true) (k17 : PySem.W.keepIn K (.ref f17) = true)
    (y_int : PySem.W.nsIn K mainGlobals "int" = some none)
    (y_isinstance : PySem.W.nsIn K mainGlobals "isinstance" = some none)
    (y_len : PySem.W.nsIn K mainGlobals "len" = some none)
    (y_list : PySem.W.nsIn K mainGlobals "list" = some none)
    (y_min : PySem.W.nsIn K mainGlobals "min" = some none)
    (y_range : PySem.W.nsIn K mainGlobals "range" = some none)
    (y_sorted : PySem.W.nsIn K mainGlobals "sorted" = some none)
    (y_str : PySem.W.nsIn K mainGlobals "str" = some none)
    (y_tuple : PySem.W.nsIn K mainGlobals "tuple" = some none)
    : ∃ fd : FuncData, (∀ (s : Shared) (v : Value), BindsTo s fd ⟨[v], []⟩ [("script", v)]) ∧ ∀ base : Heap, K.In base → base.Ns mainGlobals mg → FnOk l.prog w K mg base CX0 27 fa fd ["script"] (spD K f_law) := by
  have e := hfa.symm.trans (PySem.W.mg_of X G a17)
  cases e
  have F0 := fun_mk (st := s_in_variable_order) l0 c0 k0
  have b0 := F0.binds (ps := ["variables"]) fun _ _ _ _ _ _ us hl => match us, hl with | [_], _ => rfl
  have g0 := PySem.W.mg_of X G a0
  have F1 := fun_mk (st := s_fill_term) l1 c1 k1
  have b1 := F1.binds (ps := ["term", "filling"]) fun _ _ _ _ _ _ us hl => match us, hl with | [_, _], _ => rfl
  have g1 := PySem.W.mg_of X G a1
  have q1 := kw_of F1 (ps := ["term", "filling"]) fun _ _ _ _ _ _ us hl => match us, hl with | [_, _], _ => rfl
  have F2 := fun_mk (st := s_fill_row) l2 c2 k2
  have b2 := F2.binds (ps := ["row", "filling"]) fun _ _ _ _ _ _ us hl => match us, hl with | [_, _], _ => rfl
  have g2 := PySem.W.mg_of X G a2
  have q2 := kw_of F2 (ps := ["row", "filling"]) fun _ _ _ _ _ _ us hl => match us, hl with | [_, _], _ => rfl
  have F3 := fun_mk (st := s_composed) l3 c3 k3
  have b3 := F3.binds (ps := ["one", "two"]) fun _ _ _ _ _ _ us hl => match us, hl with | [_, _], _ => rfl
  have g3 := PySem.W.mg_of X G a3
  have q3 := kw_of F3 (ps := ["one", "two"]) fun _ _ _ _ _ _ us hl => match us, hl with | [_, _], _ => rfl
  have F4 := fun_mk (st := s_replaced) l4 c4 k4
  have b4 := F4.binds (ps := ["term", "named"]) fun _ _ _ _ _ _ us hl => match us, hl with | [_, _], _ => rfl
  have g4 := PySem.W.mg_of X G a4
  have F5 := fun_mk (st := s_law_cell) l5 c5 k5
  have b5 := F5.binds (ps := ["script", "k"]) fun _ _ _ _ _ _ us hl => match us, hl with | [_, _], _ => rfl
  have g5 := PySem.W.mg_of X G a5
  have F6 := fun_mk (st := s_law_digits) l6 c6 k6
  have b6 := F6.binds (ps := ["cell", "sizes"]) fun _ _ _ _ _ _ us hl => match us, hl with | [_, _], _ => rfl
  have g6 := PySem.W.mg_of X G a6
  have F7 := fun_mk (st := s_law_labels) l7 c7 k7
  have b7 := F7.binds (ps := ["series"]) fun _ _ _ _ _ _ us hl => match us, hl with | [_], _ => rfl
  have g7 := PySem.W.mg_of X G a7
  have F8 := fun_mk (st := s_law_symbols) l8 c8 k8
  have b8 := F8.binds (ps := ["series", "menu"]) fun _ _ _ _ _ _ us hl => match us, hl with | [_, _], _ => rfl
  have g8 := PySem.W.mg_of X G a8
  have F9 := fun_mk (st := s_law_term) l9 c9 k9
  have b9 := F9.binds (ps := ["symbols", "names", "series", "at", "depth"]) fun _ _ _ _ _ _ us hl => match us, hl with | [_, _, _, _, _], _ => rfl
  have g9 := PySem.W.mg_of X G a9
  have F10 := fun_mk (st := s_law_full) l10 c10 k10
  have b10 := F10.binds (ps := ["symbols", "names", "series", "at", "depth"]) fun _ _ _ _ _ _ us hl => match us, hl with | [_, _, _, _, _], _ => rfl
  have g10 := PySem.W.mg_of X G a10
  have F11 := fun_mk (st := s_law_fill) l11 c11 k11
  have b11 := F11.binds (ps := ["writing", "table"]) fun _ _ _ _ _ _ us hl => match us, hl with | [_, _], _ => rfl
  have g11 := PySem.W.mg_of X G a11
  have F12 := fun_mk (st := s_law_menu) l12 c12 k12
  have b12 := F12.binds (ps := ["series", "many"]) fun _ _ _ _ _ _ us hl => match us, hl with | [_, _], _ => rfl
  have g12 := PySem.W.mg_of X G a12
  have F13 := fun_mk (st := s_law_filling) l13 c13 k13
  have b13 := F13.binds (ps := ["script", "at", "symbols", "names", "depth"]) fun _ _ _ _ _ _ us hl => match us, hl with | [_, _, _, _, _], _ => rfl
  have g13 := PySem.W.mg_of X G a13
  have F14 := fun_mk (st := s_law_table) l14 c14 k14
  have b14 := F14.binds (ps := ["pairs"]) fun _ _ _ _ _ _ us hl => match us, hl with | [_], _ => rfl
  have g14 := PySem.W.mg_of X G a14
  have F15 := fun_mk (st := s_law_due) l15 c15 k15
  have b15 := F15.binds (ps := ["names", "fillings"]) fun _ _ _ _ _ _ us hl => match us, hl with | [_, _], _ => rfl
  have g15 := PySem.W.mg_of X G a15
  have F16 := fun_mk (st := s_law_filled_rightly) l16 c16 k16
  have b16 := F16.binds (ps := ["drawn", "former", "latter", "told"]) fun _ _ _ _ _ _ us hl => match us, hl with | [_, _, _, _], _ => rfl
  have g16 := PySem.W.mg_of X G a16
  have F17 := fun_mk (st := s_law) l17 c17 k17
  have z_int := PySem.W.mg_none_of X G y_int
  have z_isinstance := PySem.W.mg_none_of X G y_isinstance
  have z_len := PySem.W.mg_none_of X G y_len
  have z_list := PySem.W.mg_none_of X G y_list
  have z_min := PySem.W.mg_none_of X G y_min
  have z_range := PySem.W.mg_none_of X G y_range
  have z_sorted := PySem.W.mg_none_of X G y_sorted
  have z_str := PySem.W.mg_none_of X G y_str
  have z_tuple := PySem.W.mg_none_of X G y_tuple
  refine ⟨PySem.W.fnOf "law" "law" (defArgs s_law) (defBody s_law) (defScope s_law) .none kV17 dc17 pm17 an17 cd17 ct17, fun s v => .of_eq rfl, fun base _ _ => ?_⟩
  have D0 : DF l.prog w K mg base "in_variable_order" 1 ["variables"] f_in_variable_order := ⟨f0, _, g0, F0.kp, b0, (ok_in_variable_order (P := l.prog) (w := w) (base := base) F0 z_len z_sorted z_tuple)⟩
  have D4 : DF l.prog w K mg base "_replaced" 24 ["term", "named"] f_replaced := ⟨f4, _, g4, F4.kp, b4, (ok2_replaced (P := l.prog) (w := w) (base := base) F4 z_isinstance z_str z_tuple g4 b4 24)⟩
  have D1 : DFK l.prog w K mg base "fill_term" 25 ["term", "filling"] f_fill_term := ⟨f1, _, g1, F1.kp, b1, (ok_fill_term (P := l.prog) (w := w) (base := base) F1 D4), q1⟩
  have D2 : DFK l.prog w K mg base "fill_row" 25 ["row", "filling"] f_fill_row := ⟨f2, _, g2, F2.kp, b2, (ok_fill_row (P := l.prog) (w := w) (base := base) F2 D4 z_tuple), q2⟩
  have D3 : DFK l.prog w K mg base "composed" 26 ["one", "two"] f_composed := ⟨f3, _, g3, F3.kp, b3, (ok_composed (P := l.prog) (w := w) (base := base) F3 D0 D1 z_tuple), q3⟩
  have D5 : DF l.prog w K mg base "_law_cell" 1 ["script", "k"] f_law_cell := ⟨f5, _, g5, F5.kp, b5, (ok_law_cell (P := l.prog) (w := w) (base := base) F5 z_int z_len)⟩
  have D6 : DF l.prog w K mg base "_law_digits" 1 ["cell", "sizes"] f_law_digits := ⟨f6, _, g6, F6.kp, b6, (ok_law_digits (P := l.prog) (w := w) (base := base) F6 z_int z_len z_range)⟩
  have D7 : DF l.prog w K mg base "_law_labels" 1 ["series"] f_law_labels := ⟨f7, _, g7, F7.kp, b7, (ok_law_labels (P := l.prog) (w := w) (base := base) F7 z_int z_range)⟩
  have D8 : DF l.prog w K mg base "_law_symbols" 1 ["series", "menu"] f_law_symbols := ⟨f8, _, g8, F8.kp, b8, (ok_law_symbols (P := l.prog) (w := w) (base := base) F8 z_int z_len z_range)⟩
  have D9 : DF l.prog w K mg base "_law_term" 8 ["symbols", "names", "series", "at", "depth"] f_law_term := ⟨f9, _, g9, F9.kp, b9, (ok2_law_term (P := l.prog) (w := w) (base := base) F9 z_int z_len z_list z_range z_tuple g9 b9 8)⟩
  have D10 : DF l.prog w K mg base "_law_full" 8 ["symbols", "names", "series", "at", "depth"] f_law_full := ⟨f10, _, g10, F10.kp, b10, (ok2_law_full (P := l.prog) (w := w) (base := base) F10 z_int z_len g10 b10 8)⟩
  have D11 : DF l.prog w K mg base "_law_fill" 24 ["writing", "table"] f_law_fill := ⟨f11, _, g11, F11.kp, b11, (ok2_law_fill (P := l.prog) (w := w) (base := base) F11 z_isinstance z_str z_tuple g11 b11 24)⟩
  have D12 : DF l.prog w K mg base "_law_menu" 1 ["series", "many"] f_law_menu := ⟨f12, _, g12, F12.kp, b12, (ok_law_menu (P := l.prog) (w := w) (base := base) F12 z_int z_range z_str)⟩
  have D13 : DF l.prog w K mg base "_law_filling" 9 ["script", "at", "symbols", "names", "depth"] f_law_filling := ⟨f13, _, g13, F13.kp, b13, (ok_law_filling (P := l.prog) (w := w) (base := base) F13 D5 D6 D9 z_int z_min z_range)⟩
  have D14 : DF l.prog w K mg base "_law_table" 1 ["pairs"] f_law_table := ⟨f14, _, g14, F14.kp, b14, (ok_law_table (P := l.prog) (w := w) (base := base) F14 )⟩
  have D15 : DF l.prog w K mg base "_law_due" 25 ["names", "fillings"] f_law_due := ⟨f15, _, g15, F15.kp, b15, (ok_law_due (P := l.prog) (w := w) (base := base) F15 D11 D14 z_len z_sorted z_tuple)⟩
  have D16 : DF l.prog w K mg base "_law_filled_rightly" 26 ["drawn", "former", "latter", "told"] f_law_filled_rightly := ⟨f16, _, g16, F16.kp, b16, (ok_law_filled_rightly (P := l.prog) (w := w) (base := base) F16 D1 D11 D14 z_list z_tuple)⟩
  exact ok_law F17 D1 D2 D3 D5 D6 D7 D8 D9 D10 D11 D12 D13 D14 D15 D16 z_list z_range z_tuple
end My

set_option Elab.async false
set_option linter.all false
set_option maxRecDepth 100000
set_option maxHeartbeats 2000000
/-! Values as data: the mirrors' words, opened by simp; loops by what holds between their turns. -/
namespace Dl
open PySem PySem.Spec PyProof.Rows L2
theorem frzL_range (env : En) : ∀ k, frzL (List.range k) env = (env.take k).map frz ++ env.drop k
  | 0 => by simp [frzL]
  | k + 1 => by
    have ih := frzL_range env k
    unfold frzL at ih ⊢
    rw [List.range_succ, List.foldl_append, ih]
    show frzAt k _ = _
    unfold frzAt
    by_cases hk : k < env.length
    · have hl : ((env.take k).map frz).length = k := by rw [List.length_map, List.length_take]; omega
      have hd : env.drop k = env[k] :: env.drop (k + 1) := List.drop_eq_getElem_cons hk
      have hg : ((env.take k).map frz ++ env.drop k)[k]? = some env[k] := by
        rw [List.getElem?_append_right (by omega), hl, Nat.sub_self, hd]
        rfl
      rw [hg]
      show ((env.take k).map frz ++ env.drop k).set k (frz env[k]) = _
      rw [List.set_append_right _ _ (by omega), hl, Nat.sub_self, hd]
      rw [List.set_cons_zero]
      rw [List.take_succ_eq_append_getElem hk, List.map_append]
      simp
    · have h1 : env.drop k = [] := List.drop_eq_nil_of_le (by omega)
      have h2 : env.drop (k + 1) = [] := List.drop_eq_nil_of_le (by omega)
      rw [h1, h2, List.append_nil, List.append_nil, List.take_of_length_le (by omega), List.take_of_length_le (by omega), List.set_eq_of_length_le (by rw [List.length_map]; omega)]
theorem frzAll_map (env : En) : frzAll env = env.map frz := by
  unfold frzAll
  rw [frzL_range, List.take_length, List.drop_length, List.append_nil]
@[simp] theorem e_frzAll (env : En) : frzAll env = env.map frz := frzAll_map env
@[simp] theorem e_frz1 (ds : List D) : frz (some (.own ds)) = some (.val (.lst ds)) := rfl
@[simp] theorem e_frz2 (ks : List Key) (ds : List D) : frz (some (.ownd ks ds)) = some (.val (.dic ks ds)) := rfl
@[simp] theorem e_frz3 (d : D) : frz (some (.val d)) = some (.val d) := rfl
@[simp] theorem e_frz4 : frz none = none := rfl
@[simp] theorem e_frzL0 (env : En) : frzL [] env = env := rfl
@[simp] theorem e_frzL1 (i : Nat) (is : List Nat) (env : En) : frzL (i :: is) env = frzL is (frzAt i env) := rfl
@[simp] theorem e_frzAt (i : Nat) (env : En) : frzAt i env = env.set i (frz (env[i]?.getD none)) := rfl
@[simp] theorem e_seqM (m n : En → Option Out) (env : En) : seqM m n env = (m env).bind fun
  | .nx env' => n env'
  | o => some o := rfl
@[simp] theorem e_setM (i : Nat) (m : En → Option D) (env : En) : setM i m env = (m env).bind fun d => some (.nx (env.set i (some (.val d)))) := rfl
@[simp] theorem e_setOwnM (i : Nat) (m : En → Option (List D)) (env : En) : setOwnM i m env = (m env).bind fun d => some (.nx (env.set i (some (.own d)))) := rfl
@[simp] theorem e_setOwndM (i : Nat) (m : En → Option (List Key × List D)) (env : En) : setOwndM i m env = (m env).bind fun d => some (.nx (env.set i (some (.ownd d.1 d.2)))) := rfl
@[simp] theorem e_retM (m : En → Option D) (env : En) : retM m env = (m env).bind fun d => some (.rt d) := rfl
@[simp] theorem e_exprM (m : En → Option D) (env : En) : exprM m env = (m env).bind fun d => some (.nx env) := rfl
@[simp] theorem e_ifM (c : En → Option Bool) (m n : En → Option Out) (env : En) : ifM c m n env = (c env).bind fun b => if b = true then m env else n env := rfl
@[simp] theorem e_ifV (c : En → Option Bool) (m n : En → Option D) (env : En) : ifV c m n env = (c env).bind fun b => if b = true then m env else n env := rfl
@[simp] theorem e_boolM (m : En → Option D) (env : En) : boolM m env = (m env).bind bl1 := by
  unfold boolM
  cases h : m env with
  | none => rfl
  | some d => cases d <;> rfl
@[simp] theorem e_bl1 (b : Bool) : bl1 (.bl b) = some b := rfl
@[simp] theorem e_andM (m n : En → Option Bool) (env : En) : andM m n env = (m env).bind fun b => if b = true then n env else some false := rfl
@[simp] theorem e_orM (m n : En → Option Bool) (env : En) : orM m n env = (m env).bind fun b => if b = true then some true else n env := rfl
@[simp] theorem e_notM (m : En → Option Bool) (env : En) : notM m env = (m env).bind fun b => some (!b) := rfl
@[simp] theorem e_andV (m n : En → Option D) (env : En) : andV m n env = (m env).bind fun d => (bl1 d).bind fun b => if b = true then n env else some (.bl false) := rfl
@[simp] theorem e_orV (m n : En → Option D) (env : En) : orV m n env = (m env).bind fun d => (bl1 d).bind fun b => if b = true then some (.bl true) else n env := rfl
@[simp] theorem e_notV (m : En → Option D) (env : En) : notV m env = (m env).bind fun d => (bl1 d).bind fun b => some (.bl (!b)) := rfl
@[simp] theorem e_bind2 (a b : En → Option D) (f : D → D → Option D) (env : En) : bind2 a b f env = (a env).bind fun d => (b env).bind fun e => f d e := rfl
@[simp] theorem e_bind3 (a b c : En → Option D) (f : D → D → D → Option D) (env : En) : bind3 a b c f env = (a env).bind fun d => (b env).bind fun e => (c env).bind fun g => f d e g := rfl
@[simp] theorem e_consM (m : En → Option D) (ms : En → Option (List D)) (env : En) : consM m ms env = (m env).bind fun d => (ms env).bind fun ds => some (d :: ds) := rfl
@[simp] theorem e_callM (f : List D → Option D) (ms : En → Option (List D)) (env : En) : callM f ms env = (ms env).bind f := rfl
@[simp] theorem e_tupM (ms : En → Option (List D)) (env : En) : tupM ms env = (ms env).bind fun ds => if ds.length ≤ 100000 then some (.tup ds) else none := rfl
@[simp] theorem e_lstM (ms : En → Option (List D)) (env : En) : lstM ms env = (ms env).bind fun ds => if ds.length ≤ 100000 then some (.lst ds) else none := rfl
@[simp] theorem e_asLst (ms : En → Option (List D)) (env : En) : asLst ms env = (ms env).bind fun ds => some (.lst ds) := rfl
@[simp] theorem e_asDic (ms : En → Option (List Key × List D)) (env : En) : asDic ms env = (ms env).bind fun r => some (.dic r.1 r.2) := rfl
@[simp] theorem e_nameV (i : Nat) (env : En) : nameV i env = match env[i]? with
  | some (some (.val d)) => some d
  | _ => none := rfl
@[simp] theorem e_nameR (i : Nat) (env : En) : nameR i env = match env[i]? with
  | some (some (.val d)) => some d
  | some (some (.own ds)) => some (.lst ds)
  | some (some (.ownd ks ds)) => some (.dic ks ds)
  | _ => none := rfl
@[simp] theorem e_ownAt (i : Nat) (env : En) : ownAt i env = match env[i]? with
  | some (some (.own ds)) => some ds
  | _ => none := rfl
@[simp] theorem e_owndAt (i : Nat) (env : En) : owndAt i env = match env[i]? with
  | some (some (.ownd ks ds)) => some (ks, ds)
  | _ => none := rfl
@[simp] theorem e_appM (i : Nat) (m : En → Option D) (env : En) : appM i m env = (ownAt i env).bind fun ds => (m env).bind fun d => if ds.length < 100000 then some (.nx (env.set i (some (.own (ds ++ [d]))))) else none := rfl
@[simp] theorem e_dputM (i : Nat) (mk m : En → Option D) (env : En) : dputM i mk m env = (m env).bind fun d => (owndAt i env).bind fun p => (mk env).bind fun kd => (keyD kd).bind fun k => if p.1.length < 100000 then some (.nx (env.set i (some (.ownd (putD p.1 p.2 k d).1 (putD p.1 p.2 k d).2)))) else none := rfl
@[simp] theorem e_slM (m : En → Option D) (ml mh : En → Option (Option Int)) (env : En) : slM m ml mh env = (m env).bind fun d => (ml env).bind fun lo => (mh env).bind fun hi => slD d lo hi := rfl
@[simp] theorem e_partM (m : En → Option D) (env : En) : partM m env = match m env with
  | some (.int i) => some (some i)
  | _ => none := rfl
@[simp] theorem e_bndN (i : Nat) (d : D) (env : En) : bndN i d env = some (env.set i (some (.val d))) := rfl
@[simp] theorem e_bndNil (ds : List D) (env : En) : bndNil ds env = some env := rfl
@[simp] theorem e_bndC (f : D → En → Option En) (fs : List D → En → Option En) (d : D) (ds : List D) (env : En) : bndC f fs (d :: ds) env = (f d env).bind fun env' => fs ds env' := rfl
@[simp] theorem e_bndT (n : Nat) (fs : List D → En → Option En) (ds : List D) (env : En) : bndT n fs (.tup ds) env = if ds.length = n then fs ds env else none := rfl
@[simp] theorem e_wipe0 (env : En) : wipeE env [] = env := rfl
@[simp] theorem e_wipe1 (env : En) (v : Nat) (vs : List Nat) : wipeE env (v :: vs) = (wipeE env vs).set v none := rfl
@[simp] theorem e_add (i j : Int) : addD (.int i) (.int j) = some (.int (i + j)) := rfl
@[simp] theorem e_sub (i j : Int) : subD (.int i) (.int j) = some (.int (i - j)) := rfl
@[simp] theorem e_neg (i : Int) : negD (.int i) = some (.int (-i)) := rfl
@[simp] theorem e_cmp (f : Int → Int → Bool) (i j : Int) : cmpD f (.int i) (.int j) = some (.bl (f i j)) := rfl
@[simp] theorem e_int1 (i : Int) : intD [.int i] = some (.int i) := rfl
@[simp] theorem e_int2 (b : Bool) : intD [.bl b] = some (.int (if b then 1 else 0)) := rfl
@[simp] theorem e_lenL (ds : List D) : lenD [.lst ds] = some (.int ds.length) := rfl
@[simp] theorem e_lenS (ds : List D) : lenD [.scr ds] = some (.int ds.length) := rfl
@[simp] theorem e_lenT (ds : List D) : lenD [.tup ds] = some (.int ds.length) := rfl
@[simp] theorem e_lenD (ks : List Key) (ds : List D) : lenD [.dic ks ds] = some (.int ks.length) := rfl
@[simp] theorem e_min (i j : Int) : minD [.int i, .int j] = some (.int (if j < i then j else i)) := rfl
@[simp] theorem e_max (i j : Int) : maxD [.int i, .int j] = some (.int (if j > i then j else i)) := rfl
@[simp] theorem e_tuple1 (ds : List D) : tupleD [.lst ds] = some (.tup ds) := rfl
@[simp] theorem e_tuple2 (ds : List D) : tupleD [.tup ds] = some (.tup ds) := rfl
@[simp] theorem e_list1 (ds : List D) : listD [.lst ds] = some ds := rfl
@[simp] theorem e_list2 (ds : List D) : listD [.tup ds] = some ds := rfl
@[simp] theorem e_ixL (ds : List D) (i : Int) : ixD (.lst ds) (.int i) = atI ds i := rfl
@[simp] theorem e_ixS (ds : List D) (i : Int) : ixD (.scr ds) (.int i) = atI ds i := rfl
@[simp] theorem e_ixT (ds : List D) (i : Int) : ixD (.tup ds) (.int i) = atI ds i := rfl
@[simp] theorem e_slL (ds : List D) (lo hi : Option Int) : slD (.lst ds) lo hi = some (.lst (cutL ds lo hi)) := rfl
@[simp] theorem e_slT (ds : List D) (lo hi : Option Int) : slD (.tup ds) lo hi = some (.tup (cutL ds lo hi)) := rfl
@[simp] theorem e_keyI (i : Int) : keyD (.int i) = some (.inl i) := rfl
@[simp] theorem e_keyS (s : Str) : keyD (.str s) = some (.inr s) := rfl
@[simp] theorem e_lcM (vs : List Nat) (mi : En → Option (List D)) (bnd : D → En → Option En) (tst : En → Option Bool) (elt : En → Option D) (env : En) : lcM vs mi bnd tst elt env = (mi env).bind fun ds => if ds.length ≤ 100000 then compM bnd tst elt (wipeE env vs) ds else none := rfl
@[simp] theorem e_dcM (vs : List Nat) (mi : En → Option (List D)) (bnd : D → En → Option En) (tst : En → Option Bool) (mk mv : En → Option D) (env : En) : dcM vs mi bnd tst mk mv env = (mi env).bind fun ds => if ds.length ≤ 100000 then dcompM bnd tst mk mv (wipeE env vs) ds [] [] else none := rfl
@[simp] theorem e_forM (mi : En → Option (List D)) (bnd : D → En → Option En) (body : En → Option Out) (env : En) : forM mi bnd body env = (mi env).bind fun ds => forM' bnd body ds env := rfl
@[simp] theorem e_itemsA (m : En → Option D) (env : En) : itemsA m env = match m env with
  | some (.lst ds) => some ds
  | some (.scr ds) => some ds
  | some (.tup ds) => some ds
  | some (.str s) => some (strD s)
  | _ => none := rfl
@[simp] theorem e_rngM1 (ms : En → Option (List D)) (env : En) : rngM1 ms env = match ms env with
  | some [.int j] => if j ≤ 1000000 ∧ -1000000 ≤ j then some (rngD 0 j.toNat) else none
  | _ => none := rfl
@[simp] theorem e_bodyM (np n : Nat) (m : En → Option Out) (ds : List D) : bodyM np n m ds = if ds.length = np then (m (ds.map (fun d => some (Sl.val d)) ++ List.replicate (n - ds.length) none)).bind fun
  | .rt d => some d
  | .nx _ => some .non
  | _ => none else none := rfl
theorem atI_at {α : Type} {xs : List α} {k : Nat} {v : α} (h : xs[k]? = some v) : atI xs (k : Int) = some v := atI_nat h
/-- a loop that runs through, by what holds between its turns -/
theorem for_from {bnd : D → En → Option En} {body : En → Option Out} (P : Nat → En → Prop) : ∀ (ds : List D) (i : Nat) (env : En), P i env →
    (∀ (j : Nat) (d : D) (env : En), ds[j]? = some d → P (i + j) env → ∃ e1 env', bnd d env = some e1 ∧ body e1 = some (.nx env') ∧ P (i + j + 1) env') → ∃ env', forM' bnd body ds env = some (.nx env') ∧ P (i + ds.length) env'
  | [], i, env, p, _ => ⟨env, rfl, p⟩
  | d :: ds, i, env, p, hs => by
    obtain ⟨e1, env', h1, h2, h3⟩ := hs 0 d env rfl p
    obtain ⟨env2, h4, h5⟩ := for_from P ds (i + 1) env' h3 fun j d' en e q => by
      have := hs (j + 1) d' en (by simpa using e) (by rw [show i + (j + 1) = i + 1 + j by omega]; exact q)
      rw [show i + 1 + j + 1 = i + (j + 1) + 1 by omega]
      exact this
    refine ⟨env2, ?_, by rw [List.length_cons, show i + (ds.length + 1) = i + 1 + ds.length by omega]; exact h5⟩
    unfold forM'
    simp [h1, h2, h4]
theorem for_ok {bnd : D → En → Option En} {body : En → Option Out} (P : Nat → En → Prop) {ds : List D} {env : En} (p : P 0 env) (hs : ∀ (j : Nat) (d : D) (env : En), ds[j]? = some d → P j env → ∃ e1 env', bnd d env = some e1 ∧ body e1 = some (.nx env') ∧ P (j + 1) env') : ∃ env', forM' bnd body ds env = some (.nx env') ∧ P ds.length env' := by
  have := for_from P ds 0 env p (fun j d en e q => by
    have := hs j d en e (by simpa using q)
    simpa using this)
  simpa using this
/-- .. as a fold over a state that the slots tell -/
theorem for_fold {bnd : D → En → Option En} {body : En → Option Out} {α β : Type} (enc : α → D) (R : β → En → Prop) (step : β → α → β) : ∀ (xs : List α) (b : β) (env : En), R b env →
    (∀ (x : α) (b : β) (env : En), x ∈ xs → R b env → ∃ e1 env', bnd (enc x) env = some e1 ∧ body e1 = some (.nx env') ∧ R (step b x) env') → ∃ env', forM' bnd body (xs.map enc) env = some (.nx env') ∧ R (xs.foldl step b) env'
  | [], b, env, p, _ => ⟨env, rfl, p⟩
  | x :: xs, b, env, p, hs => by
    obtain ⟨e1, env', h1, h2, h3⟩ := hs x b env (List.mem_cons_self ..) p
    obtain ⟨env2, h4, h5⟩ := for_fold enc R step xs (step b x) env' h3 fun y b' en hy q => hs y b' en (List.mem_cons_of_mem _ hy) q
    refine ⟨env2, ?_, h5⟩
    show forM' bnd body (enc x :: xs.map enc) env = _
    unfold forM'
    simp [h1, h2, h4]
/-- comprehensions -/
theorem comp_map {bnd : D → En → Option En} {tst : En → Option Bool} {elt : En → Option D} {env : En} {f : D → D} : ∀ {ds : List D}, (∀ d ∈ ds, ∃ e1, bnd d env = some e1 ∧ tst e1 = some true ∧ elt e1 = some (f d)) → compM bnd tst elt env ds = some (ds.map f)
  | [], _ => rfl
  | d :: ds, h => by
    obtain ⟨e1, h1, h2, h3⟩ := h d (List.mem_cons_self ..)
    have ih := comp_map fun d' hd => h d' (List.mem_cons_of_mem _ hd)
    unfold compM
    simp [h1, h2, h3, ih]
theorem comp_filter {bnd : D → En → Option En} {tst : En → Option Bool} {elt : En → Option D} {env : En} {p : D → Bool} {f : D → D} : ∀ {ds : List D}, (∀ d ∈ ds, ∃ e1, bnd d env = some e1 ∧ tst e1 = some (p d) ∧ (p d = true → elt e1 = some (f d))) → compM bnd tst elt env ds = some ((ds.filter p).map f)
  | [], _ => rfl
  | d :: ds, h => by
    obtain ⟨e1, h1, h2, h3⟩ := h d (List.mem_cons_self ..)
    have ih := comp_filter fun d' hd => h d' (List.mem_cons_of_mem _ hd)
    unfold compM
    cases hp : p d with
    | true => simp [h1, h2, hp, h3 hp, ih]
    | false => simp [h1, h2, hp, ih]
end Dl

set_option Elab.async false
set_option linter.all false
set_option maxRecDepth 100000
set_option maxHeartbeats 1000000
namespace My
open PySem PySem.Spec PyProof.Rows L2 Dl
theorem for_nil (bnd : D → En → Option En) (body : En → Option Out) (env : En) : forM' bnd body [] env = some (.nx env) := rfl
theorem for_cons (bnd : D → En → Option En) (body : En → Option Out) (d : D) (ds : List D) (env : En) : forM' bnd body (d :: ds) env = (bnd d env).bind fun e1 => (body e1).bind fun
    | .nx e => forM' bnd body ds e
    | .ct e => forM' bnd body ds e
    | .bk e => some (.nx e)
    | .rt d => some (.rt d) := rfl
theorem log_small {i : Int} (h : i.natAbs < 2 ^ 1000) : i.natAbs.log2 < 1000 := by
  by_cases h0 : i.natAbs = 0
  · rw [h0]; decide
  · exact (Nat.log2_lt h0).mpr h
theorem e_mul {i j : Int} (hi : i.natAbs < 2 ^ 1000) (hj : j.natAbs < 2 ^ 1000) : mulD (.int i) (.int j) = some (.int (i * j)) := by
  have h1 := log_small hi
  have h2 := log_small hj
  show (if i.natAbs.log2 + j.natAbs.log2 < 1000000 then some (D.int (i * j)) else none) = _
  rw [if_pos (by omega)]
theorem e_mod {i j : Int} (h : 0 < j) : modD (.int i) (.int j) = some (.int (i % j)) := by
  show (if 0 < j then some (D.int (i % j)) else none) = _
  rw [if_pos h]
theorem e_fdiv {i j : Int} (h : 0 < j) (hj : j.natAbs < 2 ^ 1000) : fdivD (.int i) (.int j) = some (.int (i / j)) := by
  have h2 := log_small hj
  show (if 0 < j ∧ j.natAbs.log2 < 9000 then some (D.int (i / j)) else none) = _
  rw [if_pos ⟨h, by omega⟩]
theorem big {i : Int} {b : Nat} (h : i.natAbs < b) (hb : b ≤ 2 ^ 64) : i.natAbs < 2 ^ 1000 := Nat.lt_of_lt_of_le h (Nat.le_trans hb (Nat.pow_le_pow_right (by decide) (by decide)))
/-! ### cells -/
theorem cell_loop (ns : List Int) : ∀ (l : List Int) (k seed : Int) (x3 : Option Sl), 0 ≤ seed → seed < 1000003 → ∃ seed' y3, 0 ≤ seed' ∧ seed' < 1000003 ∧
    forM' (bndN 3) l1_law_cell (l.map D.int) [some (.val (.scr (ns.map D.int))), some (.val (.int k)), some (.val (.int seed)), x3] = some (.nx [some (.val (.scr (ns.map D.int))), some (.val (.int k)), some (.val (.int seed')), y3])
  | [], k, seed, x3, h0, h1 => ⟨seed, x3, h0, h1, rfl⟩
  | c :: l, k, seed, x3, h0, h1 => by
    have hm : mulD (.int seed) (.int 31) = some (.int (seed * 31)) := e_mul (big (b := 2 ^ 64) (by omega) (by decide)) (big (b := 2 ^ 64) (by decide) (by decide))
    obtain ⟨s', y3, a0, a1, e⟩ := cell_loop ns l k ((seed * 31 + c % 1000003) % 1000003) (some (.val (.int c))) (Int.emod_nonneg _ (by decide)) (Int.emod_lt_of_pos _ (by decide))
    refine ⟨s', y3, a0, a1, ?_⟩
    rw [← e, List.map_cons, for_cons]
    simp [l1_law_cell, hm, e_mod]
theorem cell_ok (ns : List Int) (k : Nat) (hk : k ≤ 1000) : ∃ c, f_law_cell [.scr (ns.map D.int), .int (k : Int)] = some (.int c) := by
  by_cases h : k < ns.length
  · refine ⟨ns[k], ?_⟩
    unfold f_law_cell m_law_cell
    have hk : (ns.map D.int)[k]? = some (.int ns[k]) := by simp [h]
    simp [h, atI_at hk]
  · obtain ⟨s', y3, a0, a1, e⟩ := cell_loop ns ns k 17 none (by decide) (by decide)
    have h1 : mulD (.int (s' + 7)) (.int ((k : Int) + 3)) = some (.int ((s' + 7) * ((k : Int) + 3))) := e_mul (big (b := 2 ^ 64) (by omega) (by decide)) (big (b := 2 ^ 64) (by omega) (by decide))
    have h3 : ((s' + 7) * ((k : Int) + 3)).natAbs < 2 ^ 64 := by
      rw [Int.natAbs_mul]
      have b1 : (s' + 7).natAbs ≤ 1000010 := by omega
      have b2 : ((k : Int) + 3).natAbs ≤ 1003 := by omega
      exact Nat.lt_of_le_of_lt (Nat.mul_le_mul b1 b2) (by decide)
    have h2 : mulD (.int ((s' + 7) * ((k : Int) + 3))) (.int 69621) = some (.int ((s' + 7) * ((k : Int) + 3) * 69621)) := e_mul (big h3 (by decide)) (big (b := 2 ^ 64) (by decide) (by decide))
    refine ⟨(s' + 7) * ((k : Int) + 3) * 69621 % 2147483647, ?_⟩
    unfold f_law_cell m_law_cell
    simp [h, e, h1, h2, e_mod]
/-! ### digits -/
inductive Fits : List Int → List Int → Prop
  | nil : Fits [] []
  | cons {r s : Int} {rs ss : List Int} : 0 ≤ r → r < s → Fits rs ss → Fits (r :: rs) (s :: ss)
theorem Fits.len : ∀ {rs ss : List Int}, Fits rs ss → rs.length = ss.length
  | _, _, .nil => rfl
  | _, _, .cons _ _ t => congrArg (· + 1) t.len
theorem Fits.get : ∀ {rs ss : List Int} {i : Nat} {s : Int}, Fits rs ss → ss[i]? = some s → ∃ r, rs[i]? = some r ∧ 0 ≤ r ∧ r < s
  | _, _, _, _, .nil, e => by simp at e
  | _, _, 0, _, .cons h1 h2 _, e => by simp at e; subst e; exact ⟨_, rfl, h1, h2⟩
  | _, _, i + 1, s, .cons _ _ t, e => by
    obtain ⟨r, a, b⟩ := t.get (i := i) (s := s) (by simpa using e)
    exact ⟨r, by simpa using a, b⟩
def SizeOk (s : Int) : Prop := 0 < s ∧ s.natAbs < 2 ^ 1000
theorem dig1 (c : Int) (sz : List Int) (x4 x5 x7 : Option Sl) : ∀ (ss row : List Int) (rest : Int) (x6 : Option Sl), (∀ s ∈ ss, SizeOk s) → row.length + ss.length ≤ 1000 → ∃ row' rest' y6, Fits row' ss ∧
    forM' (bndN 6) l1_law_digits (ss.map D.int) [some (.val (.int c)), some (.val (.lst (sz.map D.int))), some (.own (row.map D.int)), some (.val (.int rest)), x4, x5, x6, x7] =
      some (.nx [some (.val (.int c)), some (.val (.lst (sz.map D.int))), some (.own ((row ++ row').map D.int)), some (.val (.int rest')), x4, x5, y6, x7])
  | [], row, rest, x6, _, _ => ⟨[], rest, x6, .nil, by simp [for_nil]⟩
  | s :: ss, row, rest, x6, h, hl => by
    obtain ⟨h1, h2⟩ := h s (List.mem_cons_self ..)
    obtain ⟨row', rest', y6, f, e⟩ := dig1 c sz x4 x5 x7 ss (row ++ [rest % s]) (rest / s) (some (.val (.int s))) (fun s' hs => h s' (List.mem_cons_of_mem _ hs)) (by simp at hl ⊢; omega)
    refine ⟨rest % s :: row', rest', y6, .cons (Int.emod_nonneg _ (by omega)) (Int.emod_lt_of_pos _ h1) f, ?_⟩
    rw [show row ++ rest % s :: row' = row ++ [rest % s] ++ row' by simp, ← e, List.map_cons, for_cons]
    have hlt : row.length < 100000 := by simp at hl; omega
    simp [l1_law_digits, e_mod h1, e_fdiv h1 h2, hlt]
theorem dig2 (c : Int) (sz : List Int) (r3 : Int) (x6 : Option Sl) (hsz : ∀ s ∈ sz, SizeOk s) (hl : sz.length ≤ 1000) : ∀ (n i : Nat) (row : List Int) (seed : Int) (x5 x7 : Option Sl), i + n = sz.length → row.length = i → 0 ≤ seed → seed < 2147483647 → ∃ row' seed' y5 y7, Fits row' (sz.drop i) ∧
    forM' (bndN 5) l2_law_digits ((List.range' i n).map fun (j : Nat) => D.int (j : Int)) [some (.val (.int c)), some (.val (.lst (sz.map D.int))), some (.own (row.map D.int)), some (.val (.int r3)), some (.val (.int seed)), x5, x6, x7] =
      some (.nx [some (.val (.int c)), some (.val (.lst (sz.map D.int))), some (.own ((row ++ row').map D.int)), some (.val (.int r3)), some (.val (.int seed')), y5, x6, y7])
  | 0, i, row, seed, x5, x7, hn, hr, h0, h1 => ⟨[], seed, x5, x7, by rw [List.drop_eq_nil_of_le (by omega)]; exact .nil, by simp [for_nil]⟩
  | n + 1, i, row, seed, x5, x7, hn, hr, h0, h1 => by
    have hi : i < sz.length := by omega
    obtain ⟨p1, p2⟩ := hsz sz[i] (List.getElem_mem hi)
    have hk : (sz.map D.int)[i]? = some (.int sz[i]) := by simp [hi]
    let s1 := (seed * 48271 + 974711 * (i : Int) + 12345) % 2147483647
    have s10 : 0 ≤ s1 := Int.emod_nonneg _ (by decide)
    have s11 : s1 < 2147483647 := Int.emod_lt_of_pos _ (by decide)
    let t1 := s1 * (s1 / 65537 + 3) % 2147483629
    obtain ⟨row', seed', y5, y7, f, e⟩ := dig2 c sz r3 x6 hsz hl n (i + 1) (row ++ [t1 / 19 % sz[i]]) s1 (some (.val (.int (i : Int)))) (some (.val (.int t1))) (by omega) (by simp [hr]) s10 s11
    refine ⟨t1 / 19 % sz[i] :: row', seed', y5, y7, ?_, ?_⟩
    · rw [List.drop_eq_getElem_cons hi]
      exact .cons (Int.emod_nonneg _ (by omega)) (Int.emod_lt_of_pos _ p1) f
    · rw [show row ++ t1 / 19 % sz[i] :: row' = row ++ [t1 / 19 % sz[i]] ++ row' by simp, ← e, List.range'_succ, List.map_cons, for_cons]
      have hlt : row.length < 100000 := by omega
      have m1 : mulD (.int seed) (.int 48271) = some (.int (seed * 48271)) := e_mul (big (b := 2 ^ 64) (by omega) (by decide)) (big (b := 2 ^ 64) (by decide) (by decide))
      have m2 : mulD (.int 974711) (.int (i : Int)) = some (.int (974711 * (i : Int))) := e_mul (big (b := 2 ^ 64) (by decide) (by decide)) (big (b := 2 ^ 64) (by omega) (by decide))
      have m3 : mulD (.int s1) (.int (s1 / 65537 + 3)) = some (.int (s1 * (s1 / 65537 + 3))) := e_mul (big (b := 2 ^ 64) (by omega) (by decide)) (big (b := 2 ^ 64) (by omega) (by decide))
      have d1 : fdivD (.int s1) (.int 65537) = some (.int (s1 / 65537)) := e_fdiv (by decide) (big (b := 2 ^ 64) (by decide) (by decide))
      have d2 : fdivD (.int t1) (.int 19) = some (.int (t1 / 19)) := e_fdiv (by decide) (big (b := 2 ^ 64) (by decide) (by decide))
      simp [l2_law_digits, m1, m2, e_mod, e_mod p1, atI_at hk, hlt]
      simp [show (seed * 48271 + 974711 * (i : Int) + 12345) % 2147483647 = s1 from rfl, d1, m3, e_mod]
      simp [show s1 * (s1 / 65537 + 3) % 2147483629 = t1 from rfl, d2, e_mod p1, atI_at hk, hlt]
theorem rngD_range (n : Nat) : rngD 0 n = (List.range' 0 n).map fun (j : Nat) => D.int (j : Int) := by
  unfold rngD
  rw [List.range_eq_range']
  simp
theorem e_pow18 : powD (.int 10) (.int 18) = some (.int 1000000000000000000) := by
  show (if (0 : Int) ≤ 18 ∧ (18 : Int) ≤ 1000000 ∧ (10 : Int).natAbs < 2 ^ 64 then some (D.int ((10 : Int) ^ (18 : Int).toNat)) else none) = _
  rw [if_pos (by decide)]
  rfl
theorem digits_ok (c : Int) (sz : List Int) (hsz : ∀ s ∈ sz, SizeOk s) (hl : sz.length ≤ 1000) : ∃ row, Fits row sz ∧ f_law_digits [.int c, .lst (sz.map D.int)] = some (.lst (row.map D.int)) := by
  by_cases h : (1000000000000000000 : Int) ≤ c
  · obtain ⟨row, rest', y6, f, e⟩ := dig1 c sz none none none sz [] (c - 1000000000000000000) none hsz (by simpa using hl)
    refine ⟨row, f, ?_⟩
    unfold f_law_digits m_law_digits
    simp [e_pow18, h, e] at e ⊢
    simp [e]
  · obtain ⟨row, seed', y5, y7, f, e⟩ := dig2 c sz c none hsz hl sz.length 0 [] (c % 2147483629) none none (by omega) rfl (Int.emod_nonneg _ (by decide)) (by have := Int.emod_lt_of_pos c (show (0 : Int) < 2147483629 by decide); omega)
    refine ⟨row, by simpa using f, ?_⟩
    unfold f_law_digits m_law_digits
    have hr : ((sz.length : Int) ≤ 1000000 ∧ -1000000 ≤ (sz.length : Int)) := by omega
    rw [← rngD_range] at e
    simp [e_pow18, h, e_mod, hr] at e ⊢
    simp [e]
end My

set_option Elab.async false
set_option linter.all false
set_option maxRecDepth 100000
set_option maxHeartbeats 1000000
namespace My
open PySem PySem.Spec PyProof.Rows L2 Dl
/-! ### texts and data that may be compared -/
structure SOk (s : Str) : Prop where
  len : s.length ≤ 1000
  cps : ∀ c ∈ s.cps.toList, c < 1114112
theorem SOk.ok {s : Str} (h : SOk s) : PyData.strOk s = true := by
  unfold PyData.strOk
  rw [Array.all_eq_true']
  intro c hc
  exact decide_eq_true (h.cps c (by simpa using hc))
/-- nested at most n deep, with texts that are texts -/
structure Okd (n : Nat) (d : D) : Prop where
  lay : d.py.canLay0 = true
  dep : d.py.depth ≤ n
theorem okd_str {s : Str} {n : Nat} (h : SOk s) : Okd n (.str s) := ⟨by unfold D.py PyData.canLay0; exact h.ok, by unfold D.py PyData.depth; exact Nat.zero_le _⟩
theorem okd_int {i : Int} {n : Nat} : Okd n (.int i) := ⟨by unfold D.py PyData.canLay0; rfl, by unfold D.py PyData.depth; exact Nat.zero_le _⟩
theorem okd_bl {b : Bool} {n : Nat} : Okd n (.bl b) := ⟨by unfold D.py PyData.canLay0; rfl, by unfold D.py PyData.depth; exact Nat.zero_le _⟩
theorem okdL {n : Nat} : ∀ {ds : List D}, (∀ d ∈ ds, Okd n d) → PyData.canLayAll0 (pyL ds) = true ∧ PyData.depthAll (pyL ds) ≤ n
  | [], _ => ⟨by unfold pyL PyData.canLayAll0; rfl, by unfold pyL PyData.depthAll; exact Nat.zero_le _⟩
  | d :: ds, h => by
    obtain ⟨h1, h2⟩ := okdL fun d' hd => h d' (List.mem_cons_of_mem _ hd)
    have h0 := h d (List.mem_cons_self ..)
    unfold pyL PyData.canLayAll0 PyData.depthAll
    refine ⟨by rw [h0.lay, h1]; rfl, ?_⟩
    have := h0.dep
    omega
theorem okd_tup {n : Nat} {ds : List D} (h : ∀ d ∈ ds, Okd n d) : Okd (n + 1) (.tup ds) := by
  obtain ⟨h1, h2⟩ := okdL h
  refine ⟨by unfold D.py PyData.canLay0; exact h1, ?_⟩
  unfold D.py PyData.depth
  omega
theorem okd_lst {n : Nat} {ds : List D} (h : ∀ d ∈ ds, Okd n d) : Okd (n + 1) (.lst ds) := by
  obtain ⟨h1, h2⟩ := okdL h
  refine ⟨by unfold D.py PyData.canLay0; exact h1, ?_⟩
  unfold D.py PyData.depth
  omega
theorem Okd.mono {n m : Nat} {d : D} (h : Okd n d) (hm : n ≤ m) : Okd m d := ⟨h.lay, Nat.le_trans h.dep hm⟩
theorem Okd.shp {d : D} (h : Okd 60 d) : shp d = true := by
  unfold Dl.shp SeqAt.shaped
  rw [h.lay]
  have := h.dep
  simp
  omega
theorem ne_self {d : D} (h : Okd 60 d) : neD d d = some (.bl false) := by
  unfold neD
  rw [if_pos ⟨h.shp, h.shp⟩]
  unfold eqB
  rw [SeqAt.eqv_refl _ h.lay]
  rfl
theorem eq_self {d : D} (h : Okd 60 d) : eqD d d = some (.bl true) := by
  unfold eqD
  rw [if_pos ⟨h.shp, h.shp⟩]
  unfold eqB
  rw [SeqAt.eqv_refl _ h.lay]
theorem ne_ok {d e : D} (h : Okd 60 d) (h' : Okd 60 e) : neD d e = some (.bl (!eqB d e)) := by
  unfold neD
  rw [if_pos ⟨h.shp, h'.shp⟩]
theorem eqI (i j : Int) : eqD (.int i) (.int j) = some (.bl (i == j)) := by
  unfold eqD
  rw [if_pos ⟨(okd_int (n := 60)).shp, (okd_int (n := 60)).shp⟩]
  unfold eqB D.py PyData.eqv
  rfl
theorem eqB_str {d : D} {s : Str} (h : eqB d (.str s) = true) : d = .str s := by
  unfold eqB at h
  cases d with
  | str x =>
    unfold D.py PyData.eqv at h
    have : x = s := by simpa using h
    rw [this]
  | non => unfold D.py PyData.eqv at h; cases h
  | bl b => unfold D.py PyData.eqv at h; cases h
  | int i => unfold D.py PyData.eqv at h; cases h
  | tup ds => unfold D.py PyData.eqv at h; cases h
  | lst ds => unfold D.py PyData.eqv at h; cases h
  | scr ds => unfold D.py PyData.eqv at h; cases h
  | dic ks ds => unfold D.py PyData.eqv at h; cases h
  | obj _ _ _ => unfold D.py PyData.eqv at h; cases h
theorem eqB_strr (s : Str) : eqB (.str s) (.str s) = true := by
  unfold eqB D.py PyData.eqv
  simp
/-! ### terms -/
inductive Tm : Nat → D → Prop
  | var {n : Nat} {s : Str} : SOk s → Tm n (.str s)
  | app {n : Nat} {s : Str} {args : List D} : SOk s → args.length ≤ 4 → (∀ a ∈ args, Tm n a) → Tm (n + 1) (.tup (.str s :: args))
theorem Tm.mono {n : Nat} {d : D} (h : Tm n d) : ∀ {m : Nat}, n ≤ m → Tm m d := by
  induction h with
  | var h => exact fun _ => .var h
  | app h hl _ ih =>
    intro m hm
    cases m with
    | zero => omega
    | succ m => exact .app h hl fun a ha => ih a ha (by omega)
theorem Tm.okd {n : Nat} {d : D} (h : Tm n d) : Okd n d := by
  induction h with
  | var h => exact okd_str h
  | app h _ _ ih =>
    refine okd_tup fun d hd => ?_
    rcases List.mem_cons.mp hd with rfl | hd
    · exact okd_str h
    · exact ih d hd
abbrev Tbl := Str → Option D
mutual
def fil (f : Tbl) : D → D
  | .str s => (f s).getD (.str s)
  | .tup ds => .tup (filT f ds)
  | d => d
def filT (f : Tbl) : List D → List D
  | [] => []
  | d :: ds => d :: filL f ds
def filL (f : Tbl) : List D → List D
  | [] => []
  | d :: ds => fil f d :: filL f ds
end
theorem filL_map (f : Tbl) : ∀ ds, filL f ds = ds.map (fil f)
  | [] => by unfold filL; rfl
  | d :: ds => by unfold filL; rw [filL_map f ds]; rfl
theorem fil_str (f : Tbl) (s : Str) : fil f (.str s) = (f s).getD (.str s) := by unfold fil; rfl
theorem fil_app (f : Tbl) (h : D) (args : List D) : fil f (.tup (h :: args)) = .tup (h :: args.map (fil f)) := by
  unfold fil filT
  rw [filL_map]
theorem Tm.fil {f : Tbl} {m n : Nat} {d : D} (hf : ∀ s x, f s = some x → Tm m x) (h : Tm n d) : Tm (n + m) (fil f d) := by
  induction h with
  | @var n s h =>
    rw [fil_str]
    cases e : f s with
    | none => exact .var h
    | some x => exact (hf s x e).mono (by omega)
  | @app n s args h hl _ ih =>
    rw [fil_app]
    rw [show n + 1 + m = n + m + 1 by omega]
    refine .app h (by rw [List.length_map]; exact hl) fun a ha => ?_
    obtain ⟨b, hb, rfl⟩ := List.mem_map.mp ha
    exact ih b hb
theorem fil_congr {f g : Tbl} {n : Nat} {d : D} (h : Tm n d) (e : ∀ s, f s = g s) : fil f d = fil g d := by
  have : f = g := funext e
  rw [this]
/-- one filling after another -/
theorem fil_fil {f g k : Tbl} {n : Nat} {d : D} (h : Tm n d) (e : ∀ s, fil k (.str s) = fil g (fil f (.str s))) : fil k d = fil g (fil f d) := by
  induction h with
  | @var n s _ => exact e s
  | @app n s args _ _ _ ih =>
    rw [fil_app, fil_app, fil_app, List.map_map]
    congr 2
    exact List.map_congr_left fun a ha => ih a ha
theorem fil_none {n : Nat} {d : D} (h : Tm n d) : fil (fun _ => none) d = d := by
  induction h with
  | var _ => rw [fil_str]; rfl
  | @app n s args _ _ _ ih =>
    rw [fil_app]
    congr 2
    rw [List.map_congr_left (g := id) (fun a ha => ih a ha), List.map_id]
/-! ### tables -/
def lookS (ks : List Key) (ds : List D) : Tbl := fun s => lookD ks ds (.inr s)
def encP (p : Str × D) : D := .tup [.str p.1, p.2]
def addP (r : List Key × List D) (p : Str × D) : List Key × List D := putD r.1 r.2 (.inr p.1) p.2
def mkD (P : List (Str × D)) : List Key × List D := P.foldl addP ([], [])
/-- the last pair of a name counts -/
def lk : List (Str × D) → Tbl
  | [], _ => none
  | p :: P, s => match lk P s with
    | some x => some x
    | none => if p.1 = s then some p.2 else none
theorem lk_cons (p : Str × D) (P : List (Str × D)) (s : Str) : lk (p :: P) s = match lk P s with
    | some x => some x
    | none => if p.1 = s then some p.2 else none := rfl
theorem lookD_len : ∀ {ks : List Key} {ds : List D} {k : Key}, ks.length = ds.length → (ks.any fun j => decide (j = k)) = false → lookD ks ds k = none
  | [], _, _, _, _ => by unfold lookD; rfl
  | j :: ks, [], _, h, _ => by cases h
  | j :: ks, d :: ds, k, h, e => by
    simp only [List.any_cons, Bool.or_eq_false_iff] at e
    have hj : ¬ j = k := of_decide_eq_false e.1
    unfold lookD
    rw [if_neg hj]
    exact lookD_len (by simpa using h) e.2
theorem look_repl : ∀ {ks : List Key} {ds : List D} {k j : Key} {d : D}, ks.length = ds.length → (ks.any fun j => decide (j = k)) = true → lookD ks (replD ks ds k d) j = if k = j then some d else lookD ks ds j
  | [], _, _, _, _, _, e => by cases e
  | i :: ks, [], _, _, _, h, _ => by cases h
  | i :: ks, c :: ds, k, j, d, h, e => by
    unfold replD lookD
    by_cases hi : i = k
    · subst hi
      by_cases hj : i = j
      · subst hj; simp
      · rw [if_neg hj, if_neg hj]
        by_cases he : (ks.any fun j => decide (j = i)) = true
        · rw [look_repl (by simpa using h) he]
          simp [hj]
        · have hl : ∀ (ks : List Key) (ds : List D), ks.length = ds.length → ¬ (ks.any fun j => decide (j = i)) = true → replD ks ds i d = ds := fun ks => by
            induction ks with
            | nil => intro ds h _; cases ds with
              | nil => unfold replD; rfl
              | cons _ _ => cases h
            | cons a ks ih =>
              intro ds h e
              cases ds with
              | nil => cases h
              | cons b ds =>
                simp only [List.any_cons, Bool.or_eq_true, not_or] at e
                have ha : ¬ a = i := fun z => e.1 (decide_eq_true z)
                unfold replD
                rw [if_neg ha, ih ds (by simpa using h) e.2]
          rw [hl ks ds (by simpa using h) he, if_neg hj]
    · have he : (ks.any fun j => decide (j = k)) = true := by
        simp only [List.any_cons, Bool.or_eq_true, decide_eq_true_eq] at e
        exact e.resolve_left hi
      rw [if_neg hi]
      by_cases hj : i = j
      · subst hj
        rw [if_pos rfl, if_pos rfl, if_neg (fun z => hi z.symm)]
      · rw [if_neg hj, if_neg hj]
        exact look_repl (by simpa using h) he
theorem look_app : ∀ {ks : List Key} {ds : List D} {k j : Key} {d : D}, ks.length = ds.length → (ks.any fun j => decide (j = k)) = false → lookD (ks ++ [k]) (ds ++ [d]) j = if k = j then some d else lookD ks ds j
  | [], [], k, j, d, _, _ => by
    show lookD [k] [d] j = _
    unfold lookD
    by_cases hj : k = j
    · rw [if_pos hj, if_pos hj]
    · rw [if_neg hj, if_neg hj]
      rfl
  | [], _ :: _, _, _, _, h, _ => by cases h
  | _ :: _, [], _, _, _, h, _ => by cases h
  | i :: ks, c :: ds, k, j, d, h, e => by
    simp only [List.any_cons, Bool.or_eq_false_iff] at e
    have hi : ¬ i = k := of_decide_eq_false e.1
    show lookD (i :: (ks ++ [k])) (c :: (ds ++ [d])) j = _
    unfold lookD
    by_cases hj : i = j
    · subst hj
      rw [if_pos rfl, if_neg (fun z => hi z.symm), if_pos rfl]
    · rw [if_neg hj, if_neg hj]
      exact look_app (by simpa using h) e.2
theorem put_look {ks : List Key} {ds : List D} {k j : Key} {d : D} (h : ks.length = ds.length) : lookD (putD ks ds k d).1 (putD ks ds k d).2 j = if k = j then some d else lookD ks ds j := by
  unfold putD
  by_cases e : (ks.any fun j => decide (j = k)) = true
  · rw [if_pos e]; exact look_repl h e
  · rw [if_neg e]; exact look_app h (Bool.eq_false_iff.mpr e)
theorem replD_len : ∀ {ks : List Key} {ds : List D} {k : Key} {d : D}, ks.length = ds.length → (replD ks ds k d).length = ks.length
  | [], [], _, _, _ => by unfold replD; rfl
  | [], _ :: _, _, _, h => by cases h
  | _ :: _, [], _, _, h => by cases h
  | i :: ks, c :: ds, k, d, h => by
    unfold replD
    rw [List.length_cons, List.length_cons, replD_len (by simpa using h)]
theorem put_len {ks : List Key} {ds : List D} {k : Key} {d : D} (h : ks.length = ds.length) : (putD ks ds k d).1.length = (putD ks ds k d).2.length := by
  unfold putD
  split
  · exact (replD_len h).symm
  · rw [List.length_append, List.length_append, h]; rfl
/-- a dict's keys, each once; which they are -/
theorem put_keys {ks : List Key} {ds : List D} {k j : Key} {d : D} : j ∈ (putD ks ds k d).1 ↔ j ∈ ks ∨ j = k := by
  unfold putD
  split
  · rename_i e
    rw [List.any_eq_true] at e
    obtain ⟨i, hi, hk⟩ := e
    have : i = k := of_decide_eq_true hk
    subst this
    constructor
    · exact .inl
    · rintro (h | rfl)
      · exact h
      · exact hi
  · simp
theorem put_nodup {ks : List Key} {ds : List D} {k : Key} {d : D} (h : ks.Nodup) : (putD ks ds k d).1.Nodup := by
  unfold putD
  split
  · exact h
  · rename_i e
    rw [List.nodup_append]
    refine ⟨h, by simp, fun a ha b hb => ?_⟩
    rintro rfl
    have : a = k := by simpa using hb
    subst this
    exact e (List.any_eq_true.mpr ⟨a, ha, decide_eq_true rfl⟩)
structure Dk (r : List Key × List D) : Prop where
  len : r.1.length = r.2.length
  nd : r.1.Nodup
theorem dk_add {r : List Key × List D} (h : Dk r) (p : Str × D) : Dk (addP r p) := ⟨put_len h.len, put_nodup h.nd⟩
theorem dk_foldl : ∀ (P : List (Str × D)) {r : List Key × List D}, Dk r → Dk (P.foldl addP r)
  | [], _, h => h
  | p :: P, _, h => dk_foldl P (dk_add h p)
theorem dk_mk (P : List (Str × D)) : Dk (mkD P) := dk_foldl P ⟨rfl, List.nodup_nil⟩
theorem look_foldl : ∀ (P : List (Str × D)) {r : List Key × List D} (s : Str), Dk r → lookS (P.foldl addP r).1 (P.foldl addP r).2 s = match lk P s with | some x => some x | none => lookS r.1 r.2 s
  | [], _, _, _ => rfl
  | p :: P, r, s, h => by
    rw [List.foldl_cons, look_foldl P s (dk_add h p), lk_cons]
    cases e : lk P s with
    | some x => rfl
    | none =>
      show lookD (addP r p).1 (addP r p).2 (.inr s) = _
      unfold addP
      rw [put_look h.len]
      by_cases hs : p.1 = s
      · rw [if_pos hs, if_pos (by rw [hs])]
      · rw [if_neg hs, if_neg (fun z => hs (Sum.inr.inj z))]
        rfl
theorem look_mk (P : List (Str × D)) (s : Str) : lookS (mkD P).1 (mkD P).2 s = lk P s := by
  unfold mkD
  rw [look_foldl P s ⟨rfl, List.nodup_nil⟩]
  cases lk P s <;> rfl
theorem look_mk' (P : List (Str × D)) : lookS (mkD P).1 (mkD P).2 = lk P := funext (look_mk P)
theorem keys_foldl : ∀ (P : List (Str × D)) (r : List Key × List D) (j : Key), j ∈ (P.foldl addP r).1 ↔ j ∈ r.1 ∨ ∃ p ∈ P, j = .inr p.1
  | [], r, j => by simp
  | p :: P, r, j => by
    rw [List.foldl_cons, keys_foldl P]
    unfold addP
    rw [put_keys]
    simp [or_assoc]
theorem lk_mem : ∀ {P : List (Str × D)} {s : Str} {x : D}, lk P s = some x → (s, x) ∈ P
  | p :: P, s, x, h => by
    rw [lk_cons] at h
    cases e : lk P s with
    | some y =>
      rw [e] at h
      cases h
      exact List.mem_cons_of_mem _ (lk_mem e)
    | none =>
      rw [e] at h
      have h : (if p.1 = s then some p.2 else none) = some x := h
      split at h
      · rename_i hs
        subst hs
        have : p.2 = x := by simpa using h
        subst this
        exact List.mem_cons_self ..
      · cases h
theorem lk_none : ∀ {P : List (Str × D)} {s : Str}, lk P s = none ↔ ∀ p ∈ P, p.1 ≠ s
  | [], s => by simp [lk]
  | p :: P, s => by
    rw [lk_cons]
    have ih := lk_none (P := P) (s := s)
    cases e : lk P s with
    | some y =>
      simp only [reduceCtorEq, false_iff]
      intro h
      have := ih.mpr fun q hq => h q (List.mem_cons_of_mem _ hq)
      rw [this] at e
      cases e
    | none =>
      have h0 := ih.mp e
      by_cases hs : p.1 = s
      · simp [hs]
      · simp only [if_neg hs, true_iff]
        intro q hq
        rcases List.mem_cons.mp hq with rfl | hq
        · exact hs
        · exact h0 q hq
end My

set_option Elab.async false
set_option linter.all false
set_option maxRecDepth 100000
set_option maxHeartbeats 1000000
namespace My
open PySem PySem.Spec PyProof.Rows L2 Dl
/-! ### sorted names -/
def pr (s : Str) : D := .tup [.int s.length, .str s]
def leS : Str → Str → Bool := fun a b => PySem.W.dataLe false D.py (pr a) (pr b)
def sn (l : List Str) : List Str := l.mergeSort leS
theorem leS_total : PySem.W.TotalLe leS := by
  have h := PySem.W.sortLe_total (α := D) (listOrd itemOrd) false fun d => PySem.W.keyToks d.py
  exact ⟨fun a b c => h.trans (pr a) (pr b) (pr c), fun a b => h.total (pr a) (pr b)⟩
theorem leS_anti {a b : Str} (h1 : leS a b = true) (h2 : leS b a = true) : a = b := by
  have e1 : (listOrd itemOrd).blt (PySem.W.keyToks (pr b).py) (PySem.W.keyToks (pr a).py) = false := by
    have : (!(listOrd itemOrd).blt (PySem.W.keyToks (pr b).py) (PySem.W.keyToks (pr a).py)) = true := h1
    simpa using this
  have e2 : (listOrd itemOrd).blt (PySem.W.keyToks (pr a).py) (PySem.W.keyToks (pr b).py) = false := by
    have : (!(listOrd itemOrd).blt (PySem.W.keyToks (pr a).py) (PySem.W.keyToks (pr b).py)) = true := h2
    simpa using this
  have e := (listOrd itemOrd).total _ _ e2 e1
  have k : ∀ s : Str, PySem.W.keyToks (pr s).py = [.inl 1, .inl s.length, .inl 1, .inr s.cps.toList, .inl 0] := fun s => by
    simp [pr, D.py, pyL, PySem.W.keyToks, PySem.W.keyToksAll]
  rw [k, k] at e
  have ec : a.cps = b.cps := by
    have : (a.length : Int) = b.length ∧ a.cps = b.cps := by simpa using e
    exact this.2
  cases a; cases b
  congr 1
theorem sn_perm (l : List Str) : (sn l).Perm l := List.mergeSort_perm l leS
theorem sn_sorted (l : List Str) : (sn l).Pairwise fun a b => leS a b = true := PySem.W.sort_pairwise leS_total l
theorem sn_mem {l : List Str} {s : Str} : s ∈ sn l ↔ s ∈ l := (sn_perm l).mem_iff
/-- two rows of names, sorted and sifted -/
theorem sn_filter {l m : List Str} {p : Str → Bool} (hl : l.Nodup) (hm : m.Nodup) (h : ∀ s, (s ∈ l ∧ p s = true) ↔ (s ∈ m ∧ p s = true)) : (sn l).filter p = (sn m).filter p := by
  refine List.Perm.eq_of_pairwise (le := fun a b => leS a b = true) (fun a b _ _ => leS_anti) ((sn_sorted l).filter p) ((sn_sorted m).filter p) ?_
  have n1 : ((sn l).filter p).Nodup := List.Pairwise.filter p ((sn_perm l).nodup_iff.mpr hl)
  have n2 : ((sn m).filter p).Nodup := List.Pairwise.filter p ((sn_perm m).nodup_iff.mpr hm)
  refine (List.perm_ext_iff_of_nodup n1 n2).mpr fun s => ?_
  rw [List.mem_filter, List.mem_filter, sn_mem, sn_mem]
  exact h s
theorem pr_py (s : Str) : (pr s).py = .tuple [.int s.length, .str s] := by simp [pr, D.py, pyL]
theorem sort_names {l : List Str} (h : ∀ s ∈ l, SOk s) (hl : l.length ≤ 1000) : sortD [.lst (l.map pr)] = some ((sn l).map pr) := by
  have hz : (l.map pr).length ≤ 100000 := by rw [List.length_map]; omega
  have ok : sortOk (l.map pr) = true := by
    unfold sortOk
    rw [Bool.and_eq_true, Bool.and_eq_true, Bool.or_eq_true]
    refine ⟨⟨?_, .inl ?_⟩, ?_⟩
    · rw [List.all_eq_true]
      intro d hd
      rw [List.all_eq_true]
      intro e he
      obtain ⟨a, _, rfl⟩ := List.mem_map.mp hd
      obtain ⟨b, _, rfl⟩ := List.mem_map.mp he
      rw [pr_py, pr_py]
      simp [PySem.W.alike, PySem.W.alikeAll]
    · rw [List.all_eq_true]
      intro d hd
      obtain ⟨a, _, rfl⟩ := List.mem_map.mp hd
      rw [pr_py]
    · rw [List.all_eq_true]
      intro d hd
      obtain ⟨a, ha, rfl⟩ := List.mem_map.mp hd
      have : Okd 1 (pr a) := okd_tup fun d hd => by
        rcases List.mem_cons.mp hd with rfl | hd
        · exact okd_int
        · have : d = .str a := by simpa using hd
          subst this
          exact okd_str (h a ha)
      rw [this.lay]
      have := this.dep
      simp
      omega
  show (some (l.map pr)).bind (fun ds => if sortOk ds = true ∧ ds.length ≤ 100000 then some (sortL ds) else none) = _
  rw [Option.bind_some, if_pos ⟨ok, hz⟩]
  congr 1
  unfold sortL sn
  exact (List.map_mergeSort (f := pr) (r := leS) (s := PySem.W.dataLe false D.py) fun a _ b _ => rfl).symm
/-! ### fill -/
theorem isi_str (s : Str) : isiD "str" (.str s) = some (.bl true) := by
  have : kitB "str" "str" = some true := by decide +kernel
  unfold isiD
  rw [if_neg (fun h => nomatch h)]
  show (kitB "str" "str").bind _ = _
  rw [this]
  rfl
theorem isi_tup (ds : List D) : isiD "str" (.tup ds) = some (.bl false) := by
  have : kitB "tuple" "str" = some false := by decide +kernel
  unfold isiD
  rw [if_neg (fun h => nomatch h)]
  show (kitB "tuple" "str").bind _ = _
  rw [this]
  rfl
theorem get2S (ks : List Key) (ds : List D) (s : Str) (x : D) : get2D (.dic ks ds) (.str s) x = some ((lookS ks ds s).getD x) := rfl
theorem cut_tail (d : D) (ds : List D) : cutL (d :: ds) (some 1) none = ds := by
  unfold cutL
  rw [HT.sIx_none]
  have : HT.sIx (d :: ds).length 0 (some 1) = 1 := by
    rw [show (1 : Int) = ((1 : Nat) : Int) from rfl, HT.sIx_nat]
    simp
  rw [this]
  simp
theorem at0 (d : D) (ds : List D) : atI (d :: ds) 0 = some d := atI_nat (j := 0) rfl
theorem replaced_ok {n : Nat} {d : D} (h : Tm n d) : ∀ (k : Nat) (ks : List Key) (ds : List D), n < k → f_replaced_ k [d, .dic ks ds] = some (fil (lookS ks ds) d) := by
  induction h with
  | @var n s hs =>
    intro k ks ds hk
    cases k with
    | zero => omega
    | succ k =>
      show bodyM 2 3 (m_replaced (f_replaced_ k)) _ = _
      simp [m_replaced, unM, retF, isi_str, get2S, fil_str]
  | @app n s args hs hl _ ih =>
    intro k ks ds hk
    cases k with
    | zero => omega
    | succ k =>
      show bodyM 2 3 (m_replaced (f_replaced_ k)) _ = _
      have hz : args.length ≤ 100000 := by omega
      have hc := comp_map (bnd := bndN 2) (tst := yesM) (elt := callM (f_replaced_ k) (consM (nameV 2) (consM (nameV 1) nilM))) (env := [some (.val (.tup (.str s :: args))), some (.val (.dic ks ds)), none]) (f := fil (lookS ks ds)) (ds := args) fun a ha =>
        ⟨[some (.val (.tup (.str s :: args))), some (.val (.dic ks ds)), some (.val a)], by simp, rfl, by simp [ih a ha k ks ds (by omega)]⟩
      have hz2 : 1 + args.length ≤ 100000 := by omega
      simp [m_replaced, unM, retF, nextM, isi_tup, at0, cut_tail, hz, hc, addD, fil_app, hz2]
theorem fill_ok {n : Nat} {d : D} (h : Tm n d) : ∀ (k : Nat) (ks : List Key) (ds : List D), n < k → f_law_fill_ k [d, .dic ks ds] = some (fil (lookS ks ds) d) := by
  induction h with
  | @var n s hs =>
    intro k ks ds hk
    cases k with
    | zero => omega
    | succ k =>
      show bodyM 2 3 (m_law_fill (f_law_fill_ k)) _ = _
      simp [m_law_fill, unM, retF, isi_str, get2S, fil_str]
  | @app n s args hs hl _ ih =>
    intro k ks ds hk
    cases k with
    | zero => omega
    | succ k =>
      show bodyM 2 3 (m_law_fill (f_law_fill_ k)) _ = _
      have hz : args.length ≤ 100000 := by omega
      have hc := comp_map (bnd := bndN 2) (tst := yesM) (elt := callM (f_law_fill_ k) (consM (nameV 2) (consM (nameV 1) nilM))) (env := [some (.val (.tup (.str s :: args))), some (.val (.dic ks ds)), none]) (f := fil (lookS ks ds)) (ds := args) fun a ha =>
        ⟨[some (.val (.tup (.str s :: args))), some (.val (.dic ks ds)), some (.val a)], by simp, rfl, by simp [ih a ha k ks ds (by omega)]⟩
      have hz2 : 1 + args.length ≤ 100000 := by omega
      simp [m_law_fill, unM, retF, nextM, isi_tup, at0, cut_tail, hz, hc, addD, fil_app, hz2]
/-- a filling as it is passed: a list of pairs, or a tuple -/
def asF (b : Bool) (P : List (Str × D)) : D := if b = true then .lst (P.map encP) else .tup (P.map encP)
theorem items_F (b : Bool) (P : List (Str × D)) (m : En → Option D) (env : En) (h : m env = some (asF b P)) : itemsA m env = some (P.map encP) := by
  rw [e_itemsA, h]
  cases b <;> rfl
theorem dcomp_pairs {a b : Nat} {bnd : D → En → Option En} {env : En} (h : ∀ s x, ∃ e1, bnd (encP (s, x)) env = some e1 ∧ nameV a e1 = some (.str s) ∧ nameV b e1 = some x) : ∀ (P : List (Str × D)) (r : List Key × List D), dcompM bnd yesM (nameV a) (nameV b) env (P.map encP) r.1 r.2 = some (P.foldl addP r)
  | [], r => rfl
  | p :: P, r => by
    obtain ⟨e1, h1, h2, h3⟩ := h p.1 p.2
    have ih := dcomp_pairs h P (addP r p)
    rw [List.map_cons, List.foldl_cons, ← ih]
    show (bnd (encP p) env).bind _ = _
    rw [show encP p = encP (p.1, p.2) from rfl, h1]
    simp only [Option.bind_some, h2, h3]
    rfl
theorem fill_term_ok {n : Nat} {d : D} (h : Tm n d) (hn : n < 24) (b : Bool) (P : List (Str × D)) (hP : P.length ≤ 1000) : f_fill_term [d, asF b P] = some (fil (lk P) d) := by
  unfold f_fill_term m_fill_term
  have hz : P.length ≤ 100000 := by omega
  have hd := dcomp_pairs (a := 2) (b := 3) (bnd := bndT 2 (bndC (bndN 2) (bndC (bndN 3) bndNil))) (env := [some (.val d), some (.val (asF b P)), none, none]) (fun s x => ⟨[some (.val d), some (.val (asF b P)), some (.val (.str s)), some (.val x)], by simp [encP], by simp, by simp⟩) P ([], [])
  have hi := items_F b P (nameV 1) [some (.val d), some (.val (asF b P)), none, none] (by simp)
  have hr : f_replaced [d, .dic (mkD P).1 (mkD P).2] = some (fil (lk P) d) := by
    rw [← look_mk']
    exact replaced_ok h 24 _ _ hn
  simp [retF, hi, hz, -e_itemsA] at hd hi ⊢
  have hmk : P.foldl addP ([], []) = mkD P := rfl
  simp [hd, hi, hz, hmk, hr]
theorem table_ok (P : List (Str × D)) (hP : P.length ≤ 1000) : f_law_table [.lst (P.map encP)] = some (.dic (mkD P).1 (mkD P).2) := by
  have key : ∀ (Q : List (Str × D)) (r : List Key × List D) (x2 : Option Sl), r.1.length + Q.length ≤ 1000 → ∃ y2, forM' (bndN 2) l1_law_table (Q.map encP) [some (.val (.lst (P.map encP))), some (.ownd r.1 r.2), x2] = some (.nx [some (.val (.lst (P.map encP))), some (.ownd (Q.foldl addP r).1 (Q.foldl addP r).2), y2]) := by
    intro Q
    induction Q with
    | nil => intro r x2 _; exact ⟨x2, rfl⟩
    | cons p Q ih =>
      intro r x2 h
      have hl : (addP r p).1.length ≤ r.1.length + 1 := putD_len (ds' := (addP r p).2) rfl
      obtain ⟨y2, e⟩ := ih (addP r p) (some (.val (encP p))) (by simp at h; omega)
      refine ⟨y2, ?_⟩
      rw [List.foldl_cons, ← e, List.map_cons, for_cons]
      have hlt : r.1.length < 100000 := by simp at h; omega
      have a1 : atI [D.str p.1, p.2] 1 = some p.2 := atI_nat (j := 1) rfl
      simp [l1_law_table, encP, at0, a1, hlt]
      rfl
  obtain ⟨y2, e⟩ := key P ([], []) none (by simpa using hP)
  unfold f_law_table m_law_table
  simp [Dl.newDict, retF] at e ⊢
  simp [e]
  exact ⟨rfl, rfl⟩
theorem fill_table_ok {n : Nat} {d : D} (h : Tm n d) (hn : n < 24) (P : List (Str × D)) : f_law_fill [d, .dic (mkD P).1 (mkD P).2] = some (fil (lk P) d) := by
  rw [← look_mk']
  exact fill_ok h 24 _ _ hn
theorem fill_row_ok {n : Nat} (b c : Bool) (ts : List D) (h : ∀ t ∈ ts, Tm n t) (hn : n < 24) (hl : ts.length ≤ 1000) (P : List (Str × D)) (hP : P.length ≤ 1000) : f_fill_row [if c = true then .lst ts else .tup ts, asF b P] = some (.tup (ts.map (fil (lk P)))) := by
  unfold f_fill_row m_fill_row
  have hz : P.length ≤ 100000 := by omega
  have hz2 : ts.length ≤ 100000 := by omega
  generalize hR : (if c = true then D.lst ts else .tup ts) = R
  have hd := dcomp_pairs (a := 3) (b := 4) (bnd := bndT 2 (bndC (bndN 3) (bndC (bndN 4) bndNil))) (env := [some (.val R), some (.val (asF b P)), none, none, none, none]) (fun s x => ⟨[some (.val R), some (.val (asF b P)), none, some (.val (.str s)), some (.val x), none], by simp [encP], by simp, by simp⟩) P ([], [])
  have hi := items_F b P (nameV 1) [some (.val R), some (.val (asF b P)), none, none, none, none] (by simp)
  have hR2 : itemsA (nameV 0) [some (.val R), some (.val (asF b P)), some (.val (.dic (mkD P).1 (mkD P).2)), none, none, none] = some ts := by
    subst hR
    cases c <;> simp
  have hc := comp_map (bnd := bndN 5) (tst := yesM) (elt := callM f_replaced (consM (nameV 5) (consM (nameV 2) nilM))) (env := [some (.val R), some (.val (asF b P)), some (.val (.dic (mkD P).1 (mkD P).2)), none, none, none]) (f := fil (lk P)) (ds := ts) fun a ha =>
    ⟨[some (.val R), some (.val (asF b P)), some (.val (.dic (mkD P).1 (mkD P).2)), none, none, some (.val a)], by simp, rfl, by
      have : f_replaced [a, .dic (mkD P).1 (mkD P).2] = some (fil (lk P) a) := by
        rw [← look_mk']
        exact replaced_ok (h a ha) 24 _ _ hn
      simp [this]⟩
  have hmk : P.foldl addP ([], []) = mkD P := rfl
  rw [hmk] at hd
  simp [retF, -e_itemsA] at hd hi hR2 hc ⊢
  simp [hd, hi, hz, hR2, hz2, hc, -e_itemsA]
end My

set_option Elab.async false
set_option linter.all false
set_option maxRecDepth 100000
set_option maxHeartbeats 1000000
namespace My
open PySem PySem.Spec PyProof.Rows L2 Dl
/-! ### in_variable_order of a dict's keys -/
theorem len_ok {s : Str} (h : SOk s) : lenD [.str s] = some (.int s.length) := by
  have := h.len
  show (if s.length ≤ 100000 then some (D.int s.length) else none) = _
  rw [if_pos (by omega)]
theorem order_ok (kn : List Str) (ds : List D) (h : ∀ s ∈ kn, SOk s) (hl : kn.length ≤ 1000) : f_in_variable_order [.dic (kn.map Sum.inr) ds] = some (.tup ((sn kn).map D.str)) := by
  unfold f_in_variable_order m_in_variable_order
  have hz : kn.length ≤ 100000 := by omega
  have hs : (sn kn).length ≤ 100000 := by rw [(sn_perm kn).length_eq]; omega
  have h1 := comp_map (bnd := bndN 2) (tst := yesM) (elt := tupM (consM (callM lenD (consM (nameV 2) nilM)) (consM (nameV 2) nilM))) (env := [none, none, none, none, none]) (f := fun d => match d with | .str s => pr s | d => d) (ds := kn.map D.str) fun d hd => by
    obtain ⟨s, hs, rfl⟩ := List.mem_map.mp hd
    exact ⟨[none, none, some (.val (.str s)), none, none], by simp, rfl, by simp [len_ok (h s hs), pr]⟩
  have h1' : compM (bndN 2) yesM (tupM (consM (callM lenD (consM (nameV 2) nilM)) (consM (nameV 2) nilM))) [none, none, none, none, none] ((kn.map Sum.inr).map keyToD) = some (kn.map pr) := by
    have : (kn.map (Sum.inr : Str → Key)).map keyToD = kn.map D.str := by rw [List.map_map]; rfl
    rw [this, h1, List.map_map]
    rfl
  have h2 := sort_names h hl
  have h3 := comp_map (bnd := bndT 2 (bndC (bndN 3) (bndC (bndN 4) bndNil))) (tst := yesM) (elt := nameV 4) (env := [some (.val (.dic (kn.map Sum.inr) ds)), some (.val (.lst ((sn kn).map pr))), none, none, none]) (f := fun d => match d with | .tup [_, x] => x | d => d) (ds := (sn kn).map pr) fun d hd => by
    obtain ⟨s, _, rfl⟩ := List.mem_map.mp hd
    exact ⟨[some (.val (.dic (kn.map Sum.inr) ds)), some (.val (.lst ((sn kn).map pr))), none, some (.val (.int s.length)), some (.val (.str s))], by simp [pr], by simp, by simp [pr]⟩
  have h3' : ((sn kn).map pr).map (fun d => match d with | .tup [_, x] => x | d => d) = (sn kn).map D.str := by rw [List.map_map]; rfl
  rw [h3'] at h3
  have hk : lcKeysM 0 [2] (bndN 2) yesM (tupM (consM (callM lenD (consM (nameV 2) nilM)) (consM (nameV 2) nilM))) [some (.val (.dic (kn.map Sum.inr) ds)), none, none, none, none] = some (.lst (kn.map pr)) := by
    unfold lcKeysM
    have e : wipeE (scalE [some (.val (.dic (kn.map Sum.inr) ds)), none, none, none, none]) [2] = [none, none, none, none, none] := rfl
    show (if (kn.map Sum.inr).length ≤ 100000 then _ else _) = _
    rw [if_pos (by rw [List.length_map]; exact hz), e, h1']
    rfl
  have ho : orM' (lcKeysM 0 [2] (bndN 2) yesM (tupM (consM (callM lenD (consM (nameV 2) nilM)) (consM (nameV 2) nilM)))) (asLst (lcM [2] (itemsA (nameV 0)) (bndN 2) yesM (tupM (consM (callM lenD (consM (nameV 2) nilM)) (consM (nameV 2) nilM))))) [some (.val (.dic (kn.map Sum.inr) ds)), none, none, none, none] = some (.lst (kn.map pr)) := by
    unfold orM'
    rw [hk]
  simp only [e_bodyM, e_seqM, e_setM, e_asLst, retF, e_retM, e_callM, e_consM, sortF]
  simp [ho, h2, h3, hs]
/-! ### what is due -/
def res (l : List Str) (im : Str → D) : List (Str × D) := (l.filter fun s => !eqB (im s) (.str s)).map fun s => (s, im s)
def fils (Fs : List (List (Str × D))) (d : D) : D := Fs.foldl (fun d P => fil (lk P) d) d
structure POk (m : Nat) (P : List (Str × D)) : Prop where
  each : ∀ p ∈ P, SOk p.1 ∧ Tm m p.2
  len : P.length ≤ 1000
theorem POk.lk {m : Nat} {P : List (Str × D)} (h : POk m P) : ∀ s x, lk P s = some x → Tm m x := fun s x e => (h.each _ (lk_mem e)).2
theorem fils_tm {m : Nat} : ∀ {Fs : List (List (Str × D))} {n : Nat} {d : D}, (∀ P ∈ Fs, POk m P) → Tm n d → Tm (n + m * Fs.length) (fils Fs d)
  | [], n, d, _, h => by show Tm (n + m * 0) d; simpa using h
  | P :: Fs, n, d, hF, h => by
    have h1 := h.fil (hF P (List.mem_cons_self ..)).lk
    have h2 := fils_tm (Fs := Fs) (fun Q hQ => hF Q (List.mem_cons_of_mem _ hQ)) h1
    rw [show n + m * (P :: Fs).length = n + m + m * Fs.length by rw [List.length_cons, Nat.mul_add, Nat.mul_one]; omega]
    exact h2
theorem due_inner {m : Nat} (names Fd x2 x3 x6 : Option Sl) : ∀ (Fs : List (List (Str × D))) (n : Nat) (d : D) (x5 : Option Sl), (∀ P ∈ Fs, POk m P) → Tm n d → n + m * Fs.length < 24 → ∃ y5,
    forM' (bndN 5) l1_law_due (Fs.map fun P => .lst (P.map encP)) [names, Fd, x2, x3, some (.val d), x5, x6] = some (.nx [names, Fd, x2, x3, some (.val (fils Fs d)), y5, x6])
  | [], n, d, x5, _, _, _ => ⟨x5, rfl⟩
  | P :: Fs, n, d, x5, hF, h, hn => by
    have hP := hF P (List.mem_cons_self ..)
    have hn2 : n + m + m * Fs.length < 24 := by rw [List.length_cons, Nat.mul_add, Nat.mul_one] at hn; omega
    obtain ⟨y5, e⟩ := due_inner names Fd x2 x3 x6 Fs (n + m) (fil (My.lk P) d) (some (.val (.lst (P.map encP)))) (fun Q hQ => hF Q (List.mem_cons_of_mem _ hQ)) (h.fil hP.lk) hn2
    refine ⟨y5, ?_⟩
    rw [List.map_cons, for_cons]
    have h1 := table_ok P hP.len
    have h2 := fill_table_ok h (by omega) P
    simp [l1_law_due, h1, h2]
    exact e
theorem due_ok {m : Nat} (names : List Str) (Fs : List (List (Str × D))) (hn : ∀ s ∈ names, SOk s) (hl : names.length ≤ 1000) (hF : ∀ P ∈ Fs, POk m P) (hm : m * Fs.length < 24) : f_law_due [.lst (names.map D.str), .lst (Fs.map fun P => .lst (P.map encP))] = some (.tup ((res (sn names) fun s => fils Fs (.str s)).map encP)) := by
  have key : ∀ (l : List Str) (acc : List (Str × D)) (x3 x4 x5 : Option Sl), (∀ s ∈ l, SOk s) → acc.length + l.length ≤ 1000 → ∃ y3 y4 y5,
      forM' (bndN 3) l2_law_due (l.map pr) [some (.val (.lst (names.map D.str))), some (.val (.lst (Fs.map fun P => .lst (P.map encP)))), some (.own (acc.map encP)), x3, x4, x5, none] =
        some (.nx [some (.val (.lst (names.map D.str))), some (.val (.lst (Fs.map fun P => .lst (P.map encP)))), some (.own ((acc ++ res l fun s => fils Fs (.str s)).map encP)), y3, y4, y5, none]) := by
    intro l
    induction l with
    | nil => intro acc x3 x4 x5 _ _; exact ⟨x3, x4, x5, by simp [for_nil, res]⟩
    | cons s l ih =>
      intro acc x3 x4 x5 h hz
      have hs := h s (List.mem_cons_self ..)
      obtain ⟨z5, e⟩ := due_inner (m := m) (some (.val (.lst (names.map D.str)))) (some (.val (.lst (Fs.map fun P => .lst (P.map encP))))) (some (.own (acc.map encP))) (some (.val (pr s))) none Fs 0 (.str s) x5 hF (.var hs) (by omega)
      have a1 : atI [D.int s.length, D.str s] 1 = some (.str s) := atI_nat (j := 1) rfl
      have tm : Tm (0 + m * Fs.length) (fils Fs (.str s)) := fils_tm hF (.var hs)
      have hne : neD (fils Fs (.str s)) (.str s) = some (.bl (!eqB (fils Fs (.str s)) (.str s))) := ne_ok (tm.okd.mono (by omega)) (okd_str hs)
      have hlt : acc.length < 100000 := by simp at hz; omega
      cases hb : eqB (fils Fs (.str s)) (.str s) with
      | true =>
        obtain ⟨y3, y4, y5, e2⟩ := ih acc (some (.val (pr s))) (some (.val (fils Fs (.str s)))) z5 (fun s' hs' => h s' (List.mem_cons_of_mem _ hs')) (by simp at hz; omega)
        refine ⟨y3, y4, y5, ?_⟩
        have hr : res (s :: l) (fun s => fils Fs (.str s)) = res l fun s => fils Fs (.str s) := by simp [res, hb]
        rw [hr, ← e2, List.map_cons, for_cons]
        simp [pr] at e
        simp [l2_law_due, nextM, pr, a1, e, hne, hb]
      | false =>
        obtain ⟨y3, y4, y5, e2⟩ := ih (acc ++ [(s, fils Fs (.str s))]) (some (.val (pr s))) (some (.val (fils Fs (.str s)))) z5 (fun s' hs' => h s' (List.mem_cons_of_mem _ hs')) (by simp at hz ⊢; omega)
        refine ⟨y3, y4, y5, ?_⟩
        have hr : res (s :: l) (fun s => fils Fs (.str s)) = (s, fils Fs (.str s)) :: res l fun s => fils Fs (.str s) := by simp [res, hb]
        rw [hr, show acc ++ (s, fils Fs (.str s)) :: res l (fun s => fils Fs (.str s)) = acc ++ [(s, fils Fs (.str s))] ++ res l (fun s => fils Fs (.str s)) by simp, ← e2, List.map_cons, for_cons]
        simp [pr] at e
        simp [l2_law_due, nextM, pr, a1, e, hne, hb, hlt, encP]
  obtain ⟨y3, y4, y5, e⟩ := key (sn names) [] none none none (fun s hs => hn s (sn_mem.mp hs)) (by rw [(sn_perm names).length_eq]; simpa using hl)
  have hz : names.length ≤ 100000 := by omega
  have h1 := comp_map (bnd := bndN 6) (tst := yesM) (elt := tupM (consM (callM lenD (consM (nameV 6) nilM)) (consM (nameV 6) nilM))) (env := [some (.val (.lst (names.map D.str))), some (.val (.lst (Fs.map fun P => .lst (P.map encP)))), some (.own []), none, none, none, none]) (f := fun d => match d with | .str s => pr s | d => d) (ds := names.map D.str) fun d hd => by
    obtain ⟨s, hs, rfl⟩ := List.mem_map.mp hd
    exact ⟨[some (.val (.lst (names.map D.str))), some (.val (.lst (Fs.map fun P => .lst (P.map encP)))), some (.own []), none, none, none, some (.val (.str s))], by simp, rfl, by simp [len_ok (hn s hs), pr]⟩
  have h1' : (names.map D.str).map (fun d => match d with | .str s => pr s | d => d) = names.map pr := by rw [List.map_map]; rfl
  rw [h1'] at h1
  have h2 := sort_names hn hl
  unfold f_law_due m_law_due
  simp [retF, sortF, lstF] at e h1 ⊢
  simp [hz, h1, h2, e]
/-! ### composed -/
theorem lk_append (A : List (Str × D)) : ∀ (B : List (Str × D)) (s : Str), lk (A ++ B) s = match lk B s with | some x => some x | none => lk A s := by
  intro B s
  induction A with
  | nil => rw [List.nil_append]; cases e : lk B s <;> rfl
  | cons p A ih =>
    rw [List.cons_append, lk_cons, ih, lk_cons]
    cases e : lk B s <;> rfl
theorem lk_map (f : D → D) : ∀ (P : List (Str × D)) (s : Str), lk (P.map fun p => (p.1, f p.2)) s = (lk P s).map f
  | [], s => rfl
  | p :: P, s => by
    rw [List.map_cons, lk_cons, lk_cons, lk_map f P]
    cases e : lk P s with
    | some x => rfl
    | none =>
      show (if p.1 = s then some (f p.2) else none) = (if p.1 = s then some p.2 else none).map f
      split <;> rfl
/-- the pairs of the dict that composed makes -/
def both (one two : List (Str × D)) : List (Str × D) := two ++ one.map fun p => (p.1, fil (lk two) p.2)
theorem both_im (one two : List (Str × D)) (s : Str) : fil (lk (both one two)) (.str s) = fil (lk two) (fil (lk one) (.str s)) := by
  rw [fil_str, fil_str]
  unfold both
  rw [lk_append, lk_map]
  cases e : lk one s with
  | some x => rfl
  | none =>
    show (lk two s).getD (.str s) = fil (lk two) (.str s)
    rw [fil_str]
theorem POk.both {m k : Nat} {one two : List (Str × D)} (h1 : POk m one) (h2 : POk k two) (hl : one.length + two.length ≤ 1000) : POk (m + k) (both one two) := by
  refine ⟨fun p hp => ?_, by unfold My.both; rw [List.length_append, List.length_map]; omega⟩
  unfold My.both at hp
  rcases List.mem_append.mp hp with hp | hp
  · exact ⟨(h2.each p hp).1, (h2.each p hp).2.mono (by omega)⟩
  · obtain ⟨q, hq, rfl⟩ := List.mem_map.mp hp
    exact ⟨(h1.each q hq).1, ((h1.each q hq).2).fil h2.lk⟩
theorem mkD_append (A B : List (Str × D)) : mkD (A ++ B) = B.foldl addP (mkD A) := List.foldl_append
/-- the keys of a dict of names -/
theorem mk_keys (P : List (Str × D)) : ∃ kn : List Str, (mkD P).1 = kn.map Sum.inr ∧ kn.Nodup ∧ ∀ s, s ∈ kn ↔ ∃ p ∈ P, p.1 = s := by
  have h1 : ∀ j ∈ (mkD P).1, ∃ s : Str, j = .inr s := fun j hj => by
    have := (keys_foldl P ([], []) j).mp hj
    rcases this with h | ⟨p, _, rfl⟩
    · cases h
    · exact ⟨_, rfl⟩
  have h2 : ∀ l : List Key, (∀ j ∈ l, ∃ s : Str, j = .inr s) → ∃ kn : List Str, l = kn.map Sum.inr := fun l => by
    induction l with
    | nil => intro _; exact ⟨[], rfl⟩
    | cons j l ih =>
      intro h
      obtain ⟨s, rfl⟩ := h j (List.mem_cons_self ..)
      obtain ⟨kn, rfl⟩ := ih fun j hj => h j (List.mem_cons_of_mem _ hj)
      exact ⟨s :: kn, rfl⟩
  obtain ⟨kn, e⟩ := h2 _ h1
  refine ⟨kn, e, ?_, fun s => ?_⟩
  · have := (dk_mk P).nd
    rw [e] at this
    exact (List.pairwise_map.mp this).imp fun h z => h (by rw [z])
  · have := keys_foldl P ([], []) (.inr s)
    have e2 : (Sum.inr s : Key) ∈ (mkD P).1 ↔ s ∈ kn := by
      rw [e]
      simp
    rw [← e2]
    show Sum.inr s ∈ (mkD P).1 ↔ _
    unfold mkD
    rw [this]
    simp only [List.not_mem_nil, false_or, Sum.inr.injEq]
    constructor
    · rintro ⟨p, hp, e⟩; exact ⟨p, hp, e.symm⟩
    · rintro ⟨p, hp, e⟩; exact ⟨p, hp, e.symm⟩
theorem composed_ok {m k : Nat} (b c : Bool) (one two : List (Str × D)) (h1 : POk m one) (h2 : POk k two) (hl : one.length + two.length ≤ 1000) (hm : m < 24) (hmk : m + k < 50) :
    ∃ kn : List Str, kn.Nodup ∧ (∀ s, s ∈ kn ↔ ∃ p ∈ both one two, p.1 = s) ∧ f_composed [asF b one, asF c two] = some (.tup ((res (sn kn) fun s => fil (lk two) (fil (lk one) (.str s))).map encP)) := by
  obtain ⟨kn, ek, nd, hk⟩ := mk_keys (both one two)
  refine ⟨kn, nd, hk, ?_⟩
  have hb := h1.both h2 hl
  have key : ∀ (Q : List (Str × D)) (r : List Key × List D) (x3 x4 : Option Sl), (∀ p ∈ Q, Tm m p.2) → r.1.length + Q.length ≤ 2000 → ∃ y3 y4,
      forM' (bndT 2 (bndC (bndN 3) (bndC (bndN 4) bndNil))) l1_composed (Q.map encP) [some (.val (asF b one)), some (.val (asF c two)), some (.ownd r.1 r.2), x3, x4, none] =
        some (.nx [some (.val (asF b one)), some (.val (asF c two)), some (.ownd ((Q.map fun p => (p.1, fil (lk two) p.2)).foldl addP r).1 ((Q.map fun p => (p.1, fil (lk two) p.2)).foldl addP r).2), y3, y4, none]) := by
    intro Q
    induction Q with
    | nil => intro r x3 x4 _ _; exact ⟨x3, x4, rfl⟩
    | cons p Q ih =>
      intro r x3 x4 h hz
      have hlp : (addP r (p.1, fil (lk two) p.2)).1.length ≤ r.1.length + 1 := putD_len (ds' := (addP r (p.1, fil (lk two) p.2)).2) rfl
      obtain ⟨y3, y4, e⟩ := ih (addP r (p.1, fil (lk two) p.2)) (some (.val (.str p.1))) (some (.val p.2)) (fun q hq => h q (List.mem_cons_of_mem _ hq)) (by simp at hz; omega)
      refine ⟨y3, y4, ?_⟩
      rw [List.map_cons, List.map_cons, List.foldl_cons, ← e, for_cons]
      have hlt : r.1.length < 100000 := by simp at hz; omega
      have hf := fill_term_ok (h p (List.mem_cons_self ..)) hm c two h2.len
      simp [l1_composed, encP, hf, hlt]
      rfl
  have hmt := (dk_mk two).len
  have kl : ∀ (P : List (Str × D)) (r : List Key × List D), (P.foldl addP r).1.length ≤ r.1.length + P.length := fun P => by
    induction P with
    | nil => intro r; exact Nat.le_refl _
    | cons p P ih =>
      intro r
      have := ih (addP r p)
      have h2 : (addP r p).1.length ≤ r.1.length + 1 := putD_len (ds' := (addP r p).2) rfl
      rw [List.foldl_cons, List.length_cons]
      omega
  have hkt : (mkD two).1.length ≤ 1000 := by
    have := kl two ([], [])
    have h3 := h2.len
    show (two.foldl addP ([], [])).1.length ≤ 1000
    simp at this
    omega
  obtain ⟨y3, y4, e⟩ := key one (mkD two) none none (fun p hp => (h1.each p hp).2) (by omega)
  have em : (one.map fun p => (p.1, fil (lk two) p.2)).foldl addP (mkD two) = mkD (both one two) := by unfold both; rw [mkD_append]
  rw [em] at e
  have hi1 := items_F c two (nameV 1) [some (.val (asF b one)), some (.val (asF c two)), none, none, none, none] (by simp)
  have hi0 : itemsA (nameV 0) [some (.val (asF b one)), some (.val (asF c two)), some (.ownd (mkD two).1 (mkD two).2), none, none, none] = some (one.map encP) := items_F b one (nameV 0) _ (by simp)
  have hd := dcomp_pairs (a := 3) (b := 4) (bnd := bndT 2 (bndC (bndN 3) (bndC (bndN 4) bndNil))) (env := [some (.val (asF b one)), some (.val (asF c two)), none, none, none, none]) (fun s x => ⟨[some (.val (asF b one)), some (.val (asF c two)), none, some (.val (.str s)), some (.val x), none], by simp [encP], by simp, by simp⟩) two ([], [])
  rw [show two.foldl addP ([], []) = mkD two from rfl] at hd
  have hz2 : two.length ≤ 100000 := by have := h2.len; omega
  have kok : ∀ s ∈ kn, SOk s := fun s hs => by
    obtain ⟨p, hp, rfl⟩ := (hk s).mp hs
    exact (hb.each p hp).1
  have kln : kn.length ≤ 1000 := by
    have := kl (both one two) ([], [])
    have h3 := hb.len
    have h4 : (mkD (both one two)).1.length = kn.length := by rw [ek, List.length_map]
    have h5 : (mkD (both one two)).1.length ≤ 0 + (both one two).length := this
    omega
  have ho := order_ok kn (mkD (both one two)).2 kok kln
  rw [← ek] at ho
  have hsl : (sn kn).length ≤ 100000 := by rw [(sn_perm kn).length_eq]; omega
  have hio : ∀ z3 z4, itemsA (callM f_in_variable_order (consM (nameV 2) nilM)) [some (.val (asF b one)), some (.val (asF c two)), some (.val (.dic (mkD (both one two)).1 (mkD (both one two)).2)), z3, z4, none] = some ((sn kn).map D.str) := fun z3 z4 => by
    rw [e_itemsA]
    simp [ho]
  have hfin : ∀ z3 z4, compM (bndN 5) (boolM (bind2 (bind2 (nameR 2) (nameV 5) ixD) (nameV 5) neD)) (tupM (consM (nameV 5) (consM (bind2 (nameR 2) (nameV 5) ixD) nilM))) [some (.val (asF b one)), some (.val (asF c two)), some (.val (.dic (mkD (both one two)).1 (mkD (both one two)).2)), z3, z4, none] ((sn kn).map D.str) =
      some ((res (sn kn) fun s => fil (lk two) (fil (lk one) (.str s))).map encP) := fun z3 z4 => by
    have hc := comp_filter (bnd := bndN 5) (tst := boolM (bind2 (bind2 (nameR 2) (nameV 5) ixD) (nameV 5) neD)) (elt := tupM (consM (nameV 5) (consM (bind2 (nameR 2) (nameV 5) ixD) nilM))) (env := [some (.val (asF b one)), some (.val (asF c two)), some (.val (.dic (mkD (both one two)).1 (mkD (both one two)).2)), z3, z4, none])
      (p := fun d => !eqB (fil (lk (both one two)) d) d) (f := fun d => .tup [d, fil (lk (both one two)) d]) (ds := (sn kn).map D.str) fun d hd => by
      obtain ⟨s, hs, rfl⟩ := List.mem_map.mp hd
      have hsk := sn_mem.mp hs
      obtain ⟨p, hp, hps⟩ := (hk s).mp hsk
      have hx : ∃ x, lk (both one two) s = some x := by
        cases e : lk (both one two) s with
        | some x => exact ⟨x, rfl⟩
        | none => exact absurd hps (lk_none.mp e p hp)
      obtain ⟨x, hx⟩ := hx
      have hix : ixD (.dic (mkD (both one two)).1 (mkD (both one two)).2) (.str s) = some x := by
        show lookS (mkD (both one two)).1 (mkD (both one two)).2 s = some x
        rw [look_mk]; exact hx
      have hfx : fil (lk (both one two)) (.str s) = x := by rw [fil_str, hx]; rfl
      have hne : neD x (.str s) = some (.bl (!eqB x (.str s))) := ne_ok ((hb.lk s x hx).okd.mono (by omega)) (okd_str (kok s hsk))
      exact ⟨[some (.val (asF b one)), some (.val (asF c two)), some (.val (.dic (mkD (both one two)).1 (mkD (both one two)).2)), z3, z4, some (.val (.str s))], by simp, by simp [hix, hne, hfx], fun _ => by simp [hix, hfx]⟩
    rw [hc]
    congr 1
    unfold res
    rw [List.filter_map, List.map_map, List.map_map]
    have hfn : ((fun d => !eqB (fil (lk (both one two)) d) d) ∘ D.str) = fun s => !eqB (fil (lk two) (fil (lk one) (.str s))) (.str s) := by
      funext s
      show (!eqB (fil (lk (both one two)) (.str s)) (.str s)) = _
      rw [both_im]
    rw [hfn]
    refine List.map_congr_left fun s _ => ?_
    show D.tup [.str s, fil (lk (both one two)) (.str s)] = .tup [.str s, fil (lk two) (fil (lk one) (.str s))]
    rw [both_im]
  unfold f_composed m_composed
  simp [retF, -e_itemsA] at hd hi1 hi0 e hfin ⊢
  simp [hi1, hd, hz2, hi0, e, hio, hsl, hfin, -e_itemsA]
end My

set_option Elab.async false
set_option linter.all false
set_option maxRecDepth 100000
set_option maxHeartbeats 1000000
namespace My
open PySem PySem.Spec PyProof.Rows L2 Dl
/-! ### texts of bounded length -/
structure SLe (n : Nat) (s : Str) : Prop where
  len : s.length ≤ n
  cps : ∀ c ∈ s.cps.toList, c < 1114112
theorem SLe.ok {n : Nat} {s : Str} (h : SLe n s) (hn : n ≤ 1000) : SOk s := ⟨Nat.le_trans h.len hn, h.cps⟩
theorem SLe.mono {n m : Nat} {s : Str} (h : SLe n s) (hm : n ≤ m) : SLe m s := ⟨Nat.le_trans h.len hm, h.cps⟩
theorem SLe.append {n m : Nat} {s t : Str} (h : SLe n s) (h' : SLe m t) : SLe (n + m) (s ++ t) := by
  refine ⟨?_, fun c hc => ?_⟩
  · have e : (s ++ t).length = s.length + t.length := Str.length_append s t
    have := h.len; have := h'.len
    omega
  · have e : (s ++ t).cps = s.cps ++ t.cps := Str.cps_append s t
    rw [e, Array.toList_append, List.mem_append] at hc
    exact hc.elim (h.cps c) (h'.cps c)
theorem SLe.cut {n : Nat} {s : Str} (h : SLe n s) (lo hi : Option Int) : SLe n (cutS s lo hi) := by
  refine ⟨?_, fun c hc => ?_⟩
  · have h1 := h.len
    have h2 : s.cps.toList.length = s.length := by rw [Array.length_toList]; rfl
    unfold cutS
    show (Array.size _) ≤ n
    rw [List.size_toArray, List.length_take, List.length_drop, h2]
    omega
  · unfold cutS at hc
    have hc : c ∈ ((s.cps.toList.drop (HT.sIx s.length 0 lo)).take (HT.sIx s.length s.length hi - HT.sIx s.length 0 lo)) := by simpa using hc
    exact h.cps c (List.mem_of_mem_drop (List.mem_of_mem_take hc))
theorem SLe.lit {s : Str} {n : Nat} (h : (decide (s.length ≤ n) && s.cps.toList.all fun c => decide (c < 1114112)) = true) : SLe n s := by
  rw [Bool.and_eq_true] at h
  exact ⟨of_decide_eq_true h.1, fun c hc => of_decide_eq_true (List.all_eq_true.mp h.2 c hc)⟩
theorem add_str {s t : Str} {n m : Nat} (h : SLe n s) (h' : SLe m t) (hn : n + m ≤ 100000) : addD (.str s) (.str t) = some (.str (s ++ t)) := by
  have := h.len; have := h'.len
  show (if s.length + t.length ≤ 100000 then some (D.str (s ++ t)) else none) = _
  rw [if_pos (by omega)]
theorem cut_str {s : Str} {n : Nat} (h : SLe n s) (hn : n ≤ 100000) (lo hi : Option Int) : slD (.str s) lo hi = some (.str (cutS s lo hi)) := by
  have := h.len
  show (if s.length ≤ 100000 then some (D.str (cutS s lo hi)) else none) = _
  rw [if_pos (by omega)]
theorem sign_at {z : Str} {n : Nat} (h : SLe n z) (hn : n ≤ 100000) {i : Int} (h0 : 0 ≤ i) (h1 : i < z.length) : ∃ s, ixD (.str z) (.int i) = some (.str s) ∧ SLe 1 s ∧ ∃ j : Nat, (j : Int) = i ∧ ∃ c, z.cps.toList[j]? = some c ∧ s = ⟨#[c]⟩ := by
  obtain ⟨j, rfl⟩ := Int.eq_ofNat_of_zero_le h0
  have hj : j < z.cps.toList.length := by rw [Array.length_toList]; have : j < z.length := by omega
                                          exact this
  have e : z.cps.toList[j]? = some z.cps.toList[j] := List.getElem?_eq_getElem hj
  refine ⟨⟨#[z.cps.toList[j]]⟩, ?_, ⟨Nat.le_refl 1, fun c hc => ?_⟩, j, rfl, _, e, rfl⟩
  · have := h.len
    show (if z.length ≤ 100000 then (atI z.cps.toList (j : Int)).bind fun c => some (D.str ⟨#[c]⟩) else none) = _
    rw [if_pos (by omega), atI_nat e]
    rfl
  · have : c = z.cps.toList[j] := by simpa using hc
    rw [this]
    exact h.cps _ (List.getElem_mem hj)
theorem comp_ex {bnd : D → En → Option En} {tst : En → Option Bool} {elt : En → Option D} {env : En} {P : D → Prop} : ∀ {ds : List D}, (∀ d ∈ ds, ∃ e1 y, bnd d env = some e1 ∧ tst e1 = some true ∧ elt e1 = some y ∧ P y) → ∃ ys, compM bnd tst elt env ds = some ys ∧ ys.length = ds.length ∧ ∀ y ∈ ys, P y
  | [], _ => ⟨[], rfl, rfl, fun y hy => by cases hy⟩
  | d :: ds, h => by
    obtain ⟨e1, y, h1, h2, h3, h4⟩ := h d (List.mem_cons_self ..)
    obtain ⟨ys, i1, i2, i3⟩ := comp_ex fun d' hd => h d' (List.mem_cons_of_mem _ hd)
    refine ⟨y :: ys, ?_, by simp [i2], fun z hz => ?_⟩
    · unfold compM
      simp [h1, h2, h3, i1]
    · rcases List.mem_cons.mp hz with rfl | hz
      · exact h4
      · exact i3 z hz
theorem strs_of {Q : Str → Prop} : ∀ {ys : List D}, (∀ y ∈ ys, ∃ s, y = .str s ∧ Q s) → ∃ ls : List Str, ys = ls.map D.str ∧ ∀ s ∈ ls, Q s
  | [], _ => ⟨[], rfl, fun s hs => by cases hs⟩
  | y :: ys, h => by
    obtain ⟨s, rfl, hs⟩ := h y (List.mem_cons_self ..)
    obtain ⟨ls, rfl, hl⟩ := strs_of fun y' hy => h y' (List.mem_cons_of_mem _ hy)
    refine ⟨s :: ls, rfl, fun t ht => ?_⟩
    rcases List.mem_cons.mp ht with rfl | ht
    · exact hs
    · exact hl t ht
theorem rng_mem {n : Nat} {d : D} (h : d ∈ rngD 0 n) : ∃ k : Nat, k < n ∧ d = .int (k : Int) := by
  unfold rngD at h
  obtain ⟨k, hk, rfl⟩ := List.mem_map.mp h
  exact ⟨k, List.mem_range.mp hk, by simp⟩
theorem rng_len (n : Nat) : (rngD 0 n).length = n := by unfold rngD; rw [List.length_map, List.length_range]
theorem rng_get {n j : Nat} {d : D} (h : (rngD 0 n)[j]? = some d) : j < n ∧ d = .int (j : Int) := by
  unfold rngD at h
  rw [List.getElem?_map] at h
  cases e : (List.range n)[j]? with
  | none => rw [e] at h; cases h
  | some k =>
    rw [e] at h
    obtain ⟨h1, h2⟩ := List.getElem?_eq_some_iff.mp e
    rw [List.getElem_range] at h2
    subst h2
    cases h
    exact ⟨by simpa using h1, by simp⟩
theorem seq_nx {m n : En → Option Out} {env env' : En} (h : m env = some (.nx env')) : seqM m n env = n env' := by simp [h]
/-! ### labels -/
abbrev zSigns : Str := "abcdefghijklmnopqrstuvwxyz0123456789"
theorem signs_ok : SLe 36 zSigns := .lit (by decide +kernel)
theorem signs_len : zSigns.length = 36 := by decide +kernel
theorem fits5 {row : List Int} {a b c d e : Int} (h : Fits row [a, b, c, d, e]) : ∃ v w x y z, row = [v, w, x, y, z] ∧ (0 ≤ v ∧ v < a) ∧ (0 ≤ w ∧ w < b) ∧ (0 ≤ x ∧ x < c) ∧ (0 ≤ y ∧ y < d) ∧ (0 ≤ z ∧ z < e) := by
  cases h with
  | cons p1 p2 h => cases h with
    | cons q1 q2 h => cases h with
      | cons r1 r2 h => cases h with
        | cons s1 s2 h => cases h with
          | cons t1 t2 h => cases h; exact ⟨_, _, _, _, _, rfl, ⟨p1, p2⟩, ⟨q1, q2⟩, ⟨r1, r2⟩, ⟨s1, s2⟩, ⟨t1, t2⟩⟩
theorem at_lit {α : Type} {xs : List α} {v : α} (j : Nat) {i : Int} (hi : i = (j : Int)) (h : xs[j]? = some v) : atI xs i = some v := by subst hi; exact atI_nat h
theorem labels_loop (row : D) (x5 x6 x7 : Option Sl) (w : Str) (r : Int) (hw : SLe 1 w) : ∃ w' r' y4, SLe 8 w' ∧ forM' (bndN 4) l1_law_labels (rngD 0 7) [some (.val row), some (.val (.str zSigns)), some (.val (.str w)), some (.val (.int r)), none, x5, x6, x7] = some (.nx [some (.val row), some (.val (.str zSigns)), some (.val (.str w')), some (.val (.int r')), y4, x5, x6, x7]) := by
  obtain ⟨env', e, w', r', y4, rfl, hw'⟩ := for_ok (bnd := bndN 4) (body := l1_law_labels) (fun j env => ∃ w r x4, env = [some (.val row), some (.val (.str zSigns)), some (.val (.str w)), some (.val (.int r)), x4, x5, x6, x7] ∧ SLe (1 + j) w) (ds := rngD 0 7) ⟨w, r, none, rfl, hw⟩ fun j d env hd ⟨w, r, x4, he, hw⟩ => by
    obtain ⟨hj, rfl⟩ := rng_get hd
    subst he
    obtain ⟨s, h1, h2, _⟩ := sign_at signs_ok (by decide) (Int.emod_nonneg r (show (36 : Int) ≠ 0 by decide)) (by rw [signs_len]; exact Int.emod_lt_of_pos r (by decide))
    have h3 := add_str hw h2 (by omega)
    have h4 : fdivD (.int r) (.int 36) = some (.int (r / 36)) := e_fdiv (by decide) (big (b := 2 ^ 64) (by decide) (by decide))
    refine ⟨_, _, rfl, ?_, w ++ s, r / 36, some (.val (.int (j : Int))), rfl, ?_⟩
    · simp [l1_law_labels, e_mod, h1, h3, h4]
    · exact (hw.append h2).mono (by omega)
  exact ⟨w', r', y4, by rw [rng_len] at hw'; exact hw', e⟩
theorem labels_ok {row : List Int} (h : Fits row [3, 8, 8, 26, 78364164096]) : ∃ ls : List Str, f_law_labels [.lst (row.map D.int)] = some (.lst (ls.map D.str)) ∧ ls.length = 10 ∧ ∀ s ∈ ls, SOk s := by
  obtain ⟨v, w, x, y, z, rfl, hv, hw, hx, hy, hz⟩ := fits5 h
  have a0 : atI [D.int v, .int w, .int x, .int y, .int z] 0 = some (.int v) := at_lit 0 rfl rfl
  have a1 : atI [D.int v, .int w, .int x, .int y, .int z] 1 = some (.int w) := at_lit 1 rfl rfl
  have a2 : atI [D.int v, .int w, .int x, .int y, .int z] 2 = some (.int x) := at_lit 2 rfl rfl
  have a3 : atI [D.int v, .int w, .int x, .int y, .int z] 3 = some (.int y) := at_lit 3 rfl rfl
  have a4 : atI [D.int v, .int w, .int x, .int y, .int z] 4 = some (.int z) := at_lit 4 rfl rfl
  obtain ⟨s0, h1, h2, _⟩ := sign_at signs_ok (by decide) hy.1 (by rw [signs_len]; omega)
  obtain ⟨wd, r', y4, hwd, el⟩ := labels_loop (.lst [.int v, .int w, .int x, .int y, .int z]) none none none s0 z h2
  have hm : modD (.int w) (.int (x + 1)) = some (.int (w % (x + 1))) := e_mod (by omega)
  unfold f_law_labels m_law_labels
  by_cases hv0 : v = 0
  · subst hv0
    refine ⟨["a", "f2", "join", "b", "g", "zero", "h1", "pair", "k", "c9"], ?_, rfl, fun s hs => ?_⟩
    · simp [retF, nextM, a0, a1, a2, a3, a4, h1, el, hm, eqI]
    · have : (["a", "f2", "join", "b", "g", "zero", "h1", "pair", "k", "c9"] : List Str).all (fun s => decide (s.length ≤ 1000) && s.cps.toList.all fun c => decide (c < 1114112)) = true := by decide +kernel
      exact (SLe.lit (List.all_eq_true.mp this s hs)).ok (Nat.le_refl _)
  · by_cases hv1 : v = 1
    · subst hv1
      have hends : ∃ ys, compM (bndN 4) yesM (bind2 (nameV 1) (bind2 (callM intD (consM (bind2 (bind2 (nameV 0) (cI 3) ixD) (nameV 4) addD) nilM)) (bind2 (lstM (consM (cI 36) (consM (cI 26) nilM))) (callM intD (consM (bind2 (nameV 5) (cI 0) eqD) nilM)) ixD) modD) ixD) [some (.val (.lst [.int 1, .int w, .int x, .int y, .int z])), some (.val (.str zSigns)), some (.val (.str wd)), some (.val (.int r')), none, some (.val (.int (w % (x + 1)))), none, none] (rngD 0 10) = some ys ∧ ys.length = (rngD 0 10).length ∧ ∀ y ∈ ys, ∃ s, y = .str s ∧ SLe 1 s := by
        refine comp_ex fun d hd => ?_
        obtain ⟨k, hk, rfl⟩ := rng_mem hd
        by_cases hat : w % (x + 1) = 0
        · obtain ⟨s, b1, b2, _⟩ := sign_at signs_ok (by decide) (Int.emod_nonneg (y + k) (show (26 : Int) ≠ 0 by decide)) (by rw [signs_len]; have := Int.emod_lt_of_pos (y + k) (show (0 : Int) < 26 by decide); omega)
          refine ⟨_, .str s, rfl, rfl, ?_, s, rfl, b2⟩
          have c1 : atI [D.int 36, D.int 26] 1 = some (.int 26) := at_lit 1 rfl rfl
          simp [a3, eqI, hat, c1, e_mod, b1]
        · obtain ⟨s, b1, b2, _⟩ := sign_at signs_ok (by decide) (Int.emod_nonneg (y + k) (show (36 : Int) ≠ 0 by decide)) (by rw [signs_len]; exact Int.emod_lt_of_pos (y + k) (show (0 : Int) < 36 by decide))
          refine ⟨_, .str s, rfl, rfl, ?_, s, rfl, b2⟩
          have c1 : atI [D.int 36, D.int 26] 0 = some (.int 36) := at_lit 0 rfl rfl
          have hat' : (w % (x + 1) == 0) = false := by simpa using hat
          simp [a3, eqI, hat', c1, e_mod, b1]
      obtain ⟨ys, e1, e2, e3⟩ := hends
      obtain ⟨es, rfl, hes⟩ := strs_of e3
      rw [rng_len, List.length_map] at e2
      have hout : ∃ ys, compM (bndN 4) yesM (bind2 (bind2 (slM (nameV 2) noP (partM (nameV 5))) (bind2 (nameV 7) (nameV 4) ixD) addD) (slM (nameV 2) (partM (bind2 (nameV 5) (cI 1) addD)) (partM (bind2 (callM intD (consM (bind2 (nameV 0) (cI 2) ixD) nilM)) (cI 1) addD))) addD) [some (.val (.lst [.int 1, .int w, .int x, .int y, .int z])), some (.val (.str zSigns)), some (.val (.str wd)), some (.val (.int r')), none, some (.val (.int (w % (x + 1)))), none, some (.val (.lst (es.map D.str)))] (rngD 0 10) = some ys ∧ ys.length = (rngD 0 10).length ∧ ∀ y ∈ ys, ∃ s, y = .str s ∧ SOk s := by
        refine comp_ex fun d hd => ?_
        obtain ⟨k, hk, rfl⟩ := rng_mem hd
        have hk2 : k < es.length := by omega
        have c1 : atI (es.map D.str) (k : Int) = some (.str es[k]) := atI_nat (by simp [hk2])
        have c2 := cut_str hwd (by decide) none (some (w % (x + 1)))
        have c3 := cut_str hwd (by decide) (some (w % (x + 1) + 1)) (some (x + 1))
        have s1 := hwd.cut none (some (w % (x + 1)))
        have s2 := hwd.cut (some (w % (x + 1) + 1)) (some (x + 1))
        have s3 := hes es[k] (List.getElem_mem hk2)
        have c4 := add_str s1 s3 (by decide)
        have c5 := add_str (s1.append s3) s2 (by decide)
        refine ⟨_, _, rfl, rfl, ?_, _, rfl, ((s1.append s3).append s2).ok (by decide)⟩
        simp [noP, c1, c2, c3, c4, c5, a2]
      obtain ⟨zs, f1, f2, f3⟩ := hout
      obtain ⟨ls, rfl, hls⟩ := strs_of f3
      rw [rng_len, List.length_map] at f2
      refine ⟨ls, ?_, f2, hls⟩
      have hr : (rngD 0 10).length ≤ 100000 := by rw [rng_len]; decide
      simp [retF, nextM, a0, a1, a2, a3, a4, h1, el, hm, eqI] at e1 f1 ⊢
      simp [e1, f1, hr]
    · have hv0' : (v == 0) = false := by simpa using hv0
      have hv1' : (v == 1) = false := by simpa using hv1
      obtain ⟨ot, o1, o2, _⟩ := sign_at signs_ok (by decide) (Int.emod_nonneg (y + 1) (show (26 : Int) ≠ 0 by decide)) (by rw [signs_len]; have := Int.emod_lt_of_pos (y + 1) (show (0 : Int) < 26 by decide); omega)
      have hout : ∃ ys, compM (bndN 4) yesM (slM (nameV 2) noP (partM (bind2 (nameV 4) (cI 1) addD))) [some (.val (.lst [.int v, .int w, .int x, .int y, .int z])), some (.val (.str zSigns)), some (.val (.str wd)), some (.val (.int r')), none, some (.val (.int (w % (x + 1)))), some (.val (.str ot)), none] (rngD 0 8) = some ys ∧ ys.length = (rngD 0 8).length ∧ ∀ y ∈ ys, ∃ s, y = .str s ∧ SOk s := by
        refine comp_ex fun d hd => ?_
        obtain ⟨k, hk, rfl⟩ := rng_mem hd
        have c2 := cut_str hwd (by decide) none (some ((k : Int) + 1))
        refine ⟨_, _, rfl, rfl, ?_, _, rfl, (hwd.cut none (some ((k : Int) + 1))).ok (by decide)⟩
        simp [noP, c2]
      obtain ⟨zs, f1, f2, f3⟩ := hout
      obtain ⟨ls, rfl, hls⟩ := strs_of f3
      rw [rng_len, List.length_map] at f2
      have c3 := cut_str hwd (by decide) (some 1) (some 2)
      have s2 := hwd.cut (some 1) (some 2)
      have c4 := add_str o2 s2 (by decide)
      refine ⟨ls ++ [ot, ot ++ cutS wd (some 1) (some 2)], ?_, by simp [f2], fun s hs => ?_⟩
      · have hr : (rngD 0 8).length ≤ 100000 := by rw [rng_len]; decide
        have hl2 : ls.length + 2 ≤ 100000 := by omega
        simp [retF, nextM, a0, a1, a2, a3, a4, h1, el, hm, eqI, hv0', hv1', e_mod, o1, c3, c4] at f1 ⊢
        simp [f1, hr, addD, hl2]
      · rcases List.mem_append.mp hs with hs | hs
        · exact hls s hs
        · rcases List.mem_cons.mp hs with rfl | hs
          · exact o2.ok (by decide)
          · have : s = ot ++ cutS wd (some 1) (some 2) := by simpa using hs
            rw [this]
            exact (o2.append s2).ok (by decide)
end My

set_option Elab.async false
set_option linter.all false
set_option maxRecDepth 100000
set_option maxHeartbeats 1000000
namespace My
open PySem PySem.Spec PyProof.Rows L2 Dl
/-! ### symbols -/
def pl (p : Int × Bool) : D := .lst [.int p.1, .bl p.2]
abbrev Sy := Str × Int × Bool
def syE (q : Sy) : D := .tup [.str q.1, .int q.2.1, .bl q.2.2]
structure PlOk (n : Nat) (X : List (Int × Bool)) : Prop where
  len : X.length ≤ n
  pos : 0 < X.length
  ari : ∀ p ∈ X, p.1 = 0 ∨ p.1 = 1 ∨ p.1 = 2
structure SyOk (S : List Sy) : Prop where
  nam : ∀ q ∈ S, SOk q.1
  ari : ∀ q ∈ S, q.2.1 = 0 ∨ q.2.1 = 1 ∨ q.2.1 = 2
  cons : ∃ q ∈ S, q.2.1 = 0
  two : ∃ q ∈ S, q.2.1 = 2 ∧ q.2.2 = true
  len : S.length ≤ 1000
abbrev planE (a b : D) (X : List (Int × Bool)) : En := [some (.val a), some (.val b), some (.own (X.map pl)), none, none, none, none, none, none]
theorem plan_step {a b : D} {X : List (Int × Bool)} {n : Nat} {c : En → Option D} (x : Int × Bool) (hX : PlOk n X ∧ (0, false) ∈ X ∧ (2, true) ∈ X) (hn : n ≤ 100) (hx : x.1 = 0 ∨ x.1 = 1 ∨ x.1 = 2) (hc : ∃ v, c (planE a b X) = some (.bl v)) :
    ∃ X', (PlOk (n + 1) X' ∧ (0, false) ∈ X' ∧ (2, true) ∈ X') ∧ ifM (boolM c) (appM 2 (lstM (consM (cI x.1) (consM (cB x.2) nilM)))) nextM (planE a b X) = some (.nx (planE a b X')) := by
  obtain ⟨⟨h1, h2, h3⟩, h4, h5⟩ := hX
  obtain ⟨v, hv⟩ := hc
  cases v with
  | true =>
    refine ⟨X ++ [x], ⟨⟨by simp; omega, by simp, fun p hp => ?_⟩, List.mem_append_left _ h4, List.mem_append_left _ h5⟩, ?_⟩
    · rcases List.mem_append.mp hp with hp | hp
      · exact h3 p hp
      · have : p = x := by simpa using hp
        rw [this]; exact hx
    · have hlt : X.length < 100000 := by omega
      simp [hv, hlt, pl]
  | false =>
    refine ⟨X, ⟨⟨by omega, h2, h3⟩, h4, h5⟩, ?_⟩
    simp [hv, nextM]
theorem erase_map {α β : Type} (f : α → β) : ∀ (l : List α) (k : Nat), (l.map f).eraseIdx k = (l.eraseIdx k).map f
  | [], _ => rfl
  | _ :: _, 0 => rfl
  | a :: l, k + 1 => by
    show f a :: (l.map f).eraseIdx k = f a :: (l.eraseIdx k).map f
    rw [erase_map f l k]
theorem ixN_nat {n k : Nat} (h : k < n) : ixN n (k : Int) = some k := by
  unfold ixN
  rw [if_pos (by omega), if_pos (by omega)]
  rfl
theorem symbols_loop {row : List D} {mn : List Str} {v0 : Int} (h0 : atI row 0 = some (.int v0)) (hm : mn.length = 10) (hmn : ∀ s ∈ mn, SOk s) (x5 : Option Sl) : ∀ (n i : Nat) (X : List (Int × Bool)) (S : List Sy) (r : Int) (x6 x7 x8 : Option Sl), X.length = n → i + n ≤ 100 → S.length = i → (∀ p ∈ X, p.1 = 0 ∨ p.1 = 1 ∨ p.1 = 2) → (∀ q ∈ S, SOk q.1 ∧ (q.2.1 = 0 ∨ q.2.1 = 1 ∨ q.2.1 = 2)) →
    ∃ (S' : List Sy) (y6 y7 y8 : Option Sl) (r' : Int), S'.length = i + n ∧ (∀ q ∈ S', SOk q.1 ∧ (q.2.1 = 0 ∨ q.2.1 = 1 ∨ q.2.1 = 2)) ∧ (∀ q ∈ S, q ∈ S') ∧ (∀ p ∈ X, ∃ s, (s, p) ∈ S') ∧
      forM' (bndN 6) l1_law_symbols ((List.range' i n).map fun (j : Nat) => D.int (j : Int)) [some (.val (.lst row)), some (.val (.lst (mn.map D.str))), some (.own (X.map pl)), some (.own (S.map syE)), some (.val (.int r)), x5, x6, x7, x8] =
        some (.nx [some (.val (.lst row)), some (.val (.lst (mn.map D.str))), some (.own []), some (.own (S'.map syE)), some (.val (.int r')), x5, y6, y7, y8])
  | 0, i, X, S, r, x6, x7, x8, hX, hn, hS, ha, hs => by
    have : X = [] := List.length_eq_zero_iff.mp hX
    subst this
    exact ⟨S, x6, x7, x8, r, by omega, hs, fun q hq => hq, fun p hp => (by cases hp), rfl⟩
  | n + 1, i, X, S, r, x6, x7, x8, hX, hn, hS, ha, hs => by
    have hpos : (0 : Int) < (X.length : Int) := by omega
    have hr0 := Int.emod_nonneg r (show (X.length : Int) ≠ 0 by omega)
    have hr1 := Int.emod_lt_of_pos r hpos
    obtain ⟨k, hk⟩ := Int.eq_ofNat_of_zero_le hr0
    have hkl : k < X.length := by omega
    have hk' : r % (X.length : Int) = (k : Int) := hk
    have hm0 := Int.emod_nonneg (v0 + 3 * (i : Int)) (show (10 : Int) ≠ 0 by decide)
    have hm1 := Int.emod_lt_of_pos (v0 + 3 * (i : Int)) (show (0 : Int) < 10 by decide)
    obtain ⟨j, hj⟩ := Int.eq_ofNat_of_zero_le hm0
    have hj' : (v0 + 3 * (i : Int)) % 10 = (j : Int) := hj
    have hjl : j < mn.length := by omega
    have hmj : atI (mn.map D.str) (j : Int) = some (.str mn[j]) := atI_nat (by simp [hjl])
    have hme : (X.map pl).eraseIdx k = (X.eraseIdx k).map pl := erase_map pl X k
    have hel : (X.eraseIdx k).length = n := by rw [List.length_eraseIdx_of_lt hkl]; omega
    obtain ⟨S', y6, y7, y8, r', b1, b2, b3, b4, e⟩ := symbols_loop h0 hm hmn x5 n (i + 1) (X.eraseIdx k) (S ++ [(mn[j], X[k])]) (r / (X.length : Int)) (some (.val (.int (i : Int)))) (some (.val (.int (k : Int)))) (some (.val (pl X[k]))) hel (by omega) (by simp [hS]) (fun p hp => ha p (List.mem_of_mem_eraseIdx hp)) (fun q hq => by
      rcases List.mem_append.mp hq with hq | hq
      · exact hs q hq
      · have : q = (mn[j], X[k]) := by simpa using hq
        subst this
        exact ⟨hmn _ (List.getElem_mem hjl), ha _ (List.getElem_mem hkl)⟩)
    refine ⟨S', y6, y7, y8, r', by omega, b2, fun q hq => b3 q (List.mem_append_left _ hq), fun p hp => ?_, ?_⟩
    · obtain ⟨m, hml, rfl⟩ := List.getElem_of_mem hp
      by_cases hmk : m = k
      · subst hmk
        exact ⟨mn[j], b3 _ (by simp)⟩
      · refine b4 _ ?_
        rw [List.mem_eraseIdx_iff_getElem]
        exact ⟨m, hml, hmk, rfl⟩
    · rw [← e, List.range'_succ, List.map_cons, for_cons]
      have m1 : mulD (.int 3) (.int (i : Int)) = some (.int (3 * (i : Int))) := e_mul (big (b := 2 ^ 64) (by decide) (by decide)) (big (b := 2 ^ 64) (by omega) (by decide))
      have d1 : fdivD (.int r) (.int (X.length : Int)) = some (.int (r / (X.length : Int))) := e_fdiv hpos (big (b := 2 ^ 64) (by omega) (by decide))
      have c1 : modD (.int r) (.int (X.length : Int)) = some (.int (k : Int)) := by rw [e_mod hpos, hk']
      have c2 : ixN X.length (k : Int) = some k := ixN_nat hkl
      have c3 : (X.map pl)[k]? = some (pl X[k]) := by simp [hkl]
      have c4 : S.length < 100000 := by omega
      have c5 : atI [D.int X[k].1, D.bl X[k].2] 0 = some (.int X[k].1) := at_lit 0 rfl rfl
      have c6 : atI [D.int X[k].1, D.bl X[k].2] 1 = some (.bl X[k].2) := at_lit 1 rfl rfl
      have c7 : -1000000 ≤ (k : Int) ∧ (k : Int) ≤ 1000000 := by omega
      simp [l1_law_symbols, c1, d1, popAtM, c2, c3, c7, h0, m1, e_mod, hj', hmj, pl, c5, c6, c4, syE, hkl, hme]
end My

set_option Elab.async false
set_option linter.all false
set_option maxRecDepth 100000
set_option maxHeartbeats 1000000
namespace My
open PySem PySem.Spec PyProof.Rows L2 Dl
theorem Fits.at {row sz : List Int} (h : Fits row sz) (j : Nat) {i s : Int} (hi : i = (j : Int)) (hs : sz[j]? = some s) : ∃ r, atI (row.map D.int) i = some (.int r) ∧ 0 ≤ r ∧ r < s := by
  obtain ⟨r, h1, h2, h3⟩ := h.get hs
  exact ⟨r, at_lit j hi (by simp [h1]), h2, h3⟩
theorem symbols_ok {row : List Int} (h : Fits row [10, 6, 4, 4, 4, 3, 362880, 4, 5, 7, 4]) {mn : List Str} (hm : mn.length = 10) (hmn : ∀ s ∈ mn, SOk s) : ∃ S : List Sy, SyOk S ∧ f_law_symbols [.lst (row.map D.int), .lst (mn.map D.str)] = some (.lst (S.map syE)) := by
  obtain ⟨r0, a0, _, _⟩ := h.at 0 (i := 0) rfl rfl
  obtain ⟨r1, a1, _, _⟩ := h.at 1 (i := 1) rfl rfl
  obtain ⟨r2, a2, _, _⟩ := h.at 2 (i := 2) rfl rfl
  obtain ⟨r3, a3, _, _⟩ := h.at 3 (i := 3) rfl rfl
  obtain ⟨r4, a4, _, _⟩ := h.at 4 (i := 4) rfl rfl
  obtain ⟨r5, a5, _, _⟩ := h.at 5 (i := 5) rfl rfl
  obtain ⟨r6, a6, _, _⟩ := h.at 6 (i := 6) rfl rfl
  obtain ⟨X1, p1, e1⟩ := plan_step (a := .lst (row.map D.int)) (b := .lst (mn.map D.str)) (X := [(0, false), (2, true)]) (n := 2) (c := bind2 (bind2 (nameV 0) (cI 1) ixD) (cI 0) (cmpD fun i j => decide (j < i))) (0, false) ⟨⟨by decide, by decide, by decide⟩, by decide, by decide⟩ (by decide) (by decide) ⟨_, by simp [a1]; rfl⟩
  obtain ⟨X2, p2, e2⟩ := plan_step (a := .lst (row.map D.int)) (b := .lst (mn.map D.str)) (c := bind2 (bind2 (nameV 0) (cI 2) ixD) (cI 0) (cmpD fun i j => decide (j < i))) (1, false) p1 (by decide) (by decide) ⟨_, by simp [a2]; rfl⟩
  obtain ⟨X3, p3, e3⟩ := plan_step (a := .lst (row.map D.int)) (b := .lst (mn.map D.str)) (c := bind2 (bind2 (nameV 0) (cI 2) ixD) (cI 3) eqD) (1, false) p2 (by decide) (by decide) ⟨_, by simp [a2, eqI]; rfl⟩
  obtain ⟨X4, p4, e4⟩ := plan_step (a := .lst (row.map D.int)) (b := .lst (mn.map D.str)) (c := bind2 (bind2 (nameV 0) (cI 3) ixD) (cI 0) (cmpD fun i j => decide (j < i))) (2, false) p3 (by decide) (by decide) ⟨_, by simp [a3]; rfl⟩
  obtain ⟨X5, p5, e5⟩ := plan_step (a := .lst (row.map D.int)) (b := .lst (mn.map D.str)) (c := bind2 (bind2 (nameV 0) (cI 3) ixD) (cI 3) eqD) (2, false) p4 (by decide) (by decide) ⟨_, by simp [a3, eqI]; rfl⟩
  obtain ⟨X6, p6, e6⟩ := plan_step (a := .lst (row.map D.int)) (b := .lst (mn.map D.str)) (c := bind2 (bind2 (nameV 0) (cI 4) ixD) (cI 3) eqD) (2, true) p5 (by decide) (by decide) ⟨_, by simp [a4, eqI]; rfl⟩
  obtain ⟨X7, p7, e7⟩ := plan_step (a := .lst (row.map D.int)) (b := .lst (mn.map D.str)) (c := bind2 (bind2 (nameV 0) (cI 5) ixD) (cI 2) eqD) (0, false) p6 (by decide) (by decide) ⟨_, by simp [a5, eqI]; rfl⟩
  obtain ⟨⟨q1, q2, q3⟩, q4, q5⟩ := p7
  obtain ⟨S, y6, y7, y8, r', b1, b2, b3, b4, el⟩ := symbols_loop a0 hm hmn (some (.val (.int (X7.length : Int)))) X7.length 0 X7 [] r6 none none none rfl (by omega) rfl q3 (fun q hq => by cases hq)
  refine ⟨S, ⟨fun q hq => (b2 q hq).1, fun q hq => (b2 q hq).2, ?_, ?_, by omega⟩, ?_⟩
  · obtain ⟨s, hs⟩ := b4 _ q4
    exact ⟨_, hs, rfl⟩
  · obtain ⟨s, hs⟩ := b4 _ q5
    exact ⟨_, hs, rfl, rfl⟩
  · unfold f_law_symbols
    rw [e_bodyM, if_pos (by rfl)]
    have hz : ((X7.length : Int) ≤ 1000000 ∧ -1000000 ≤ (X7.length : Int)) := by omega
    have h0 : setOwnM 2 (lstF (consM (lstM (consM (cI 0) (consM (cB false) nilM))) (consM (lstM (consM (cI 2) (consM (cB true) nilM))) nilM))) [some (.val (.lst (row.map D.int))), some (.val (.lst (mn.map D.str))), none, none, none, none, none, none, none] = some (.nx (planE (.lst (row.map D.int)) (.lst (mn.map D.str)) [(0, false), (2, true)])) := by
      simp [lstF, pl]
    show (m_law_symbols [some (.val (.lst (row.map D.int))), some (.val (.lst (mn.map D.str))), none, none, none, none, none, none, none]).bind _ = _
    unfold m_law_symbols
    rw [seq_nx h0, seq_nx e1, seq_nx e2, seq_nx e3, seq_nx e4, seq_nx e5, seq_nx e6, seq_nx e7]
    rw [← rngD_range] at el
    simp [lstF, retF, a6, hz] at el ⊢
    simp [el]
end My

set_option Elab.async false
set_option linter.all false
set_option maxRecDepth 100000
set_option maxHeartbeats 1000000
namespace My
open PySem PySem.Spec PyProof.Rows L2 Dl
/-! ### terms -/
def tl_term (self : List D → Option D) : En → Option Out :=
  (seqM (ifM (andM (boolM (bind2 (callM lenD (consM (nameV 1) nilM)) (cI 0) (cmpD fun i j => decide (j < i)))) (boolM (bind2 (bind2 (nameV 5) (cI 10) modD) (nameV 7) (cmpD fun i j => decide (i < j))))) (retF (lstM (consM (bind2 (nameV 1) (bind2 (bind2 (nameV 5) (cI 10) fdivD) (callM lenD (consM (nameV 1) nilM)) modD) ixD) (consM (nameV 6) nilM)))) nextM)
    (seqM (setM 9 (bind2 (nameV 8) (bind2 (bind2 (nameV 5) (cI 10) fdivD) (callM lenD (consM (nameV 8) nilM)) modD) ixD))
    (seqM (setOwnM 10 (lstF (consM (bind2 (nameV 9) (cI 0) ixD) nilM)))
    (seqM (forM (rngM1 (consM (bind2 (nameV 9) (cI 1) ixD) nilM)) (bndN 11) (l1_law_term self))
    (retF (lstM (consM (callM tupleD (consM (nameR 10) nilM)) (consM (nameV 6) nilM))))))))
theorem pick {α : Type} (f : α → D) (l : List α) (hl : 0 < l.length) (i : Int) : ∃ a, a ∈ l ∧ atI (l.map f) (i % (l.length : Int)) = some (f a) := by
  have h0 := Int.emod_nonneg i (show (l.length : Int) ≠ 0 by omega)
  have h1 := Int.emod_lt_of_pos i (show (0 : Int) < (l.length : Int) by omega)
  obtain ⟨k, hk⟩ := Int.eq_ofNat_of_zero_le h0
  have hk2 : k < l.length := by omega
  refine ⟨l[k], List.getElem_mem hk2, at_lit k hk ?_⟩
  simp [hk2]
theorem term_tail {self : List D → Option D} {sy se : D} {mn : List Str} {M : List Sy} {n : Nat} {dp : Int} (at' : D) (g c : Int) (b : Nat) (x13 : Option Sl) (hmn : ∀ s ∈ mn, SOk s) (hl : 0 < mn.length) (hM : 0 < M.length)
    (hMs : ∀ q ∈ M, SOk q.1 ∧ (q.2.1 = 0 ∨ q.2.1 = 1 ∨ q.2.1 = 2)) (hself : (∃ q ∈ M, q.2.1 ≠ 0) → ∀ b : Nat, ∃ t b', self [sy, .lst (mn.map D.str), se, .int (b : Int), .int (dp - 1)] = some (.lst [t, .int ((b' : Nat) : Int)]) ∧ Tm n t) :
    ∃ t b', tl_term self [some (.val sy), some (.val (.lst (mn.map D.str))), some (.val se), some (.val at'), some (.val (.int dp)), some (.val (.int g)), some (.val (.int (b : Int))), some (.val (.int c)), some (.val (.lst (M.map syE))), none, none, none, none, x13] = some (.rt (.lst [t, .int ((b' : Nat) : Int)])) ∧ Tm (n + 1) t := by
  have d1 : fdivD (.int g) (.int 10) = some (.int (g / 10)) := e_fdiv (by decide) (big (b := 2 ^ 64) (by decide) (by decide))
  unfold tl_term
  by_cases hc : g % 10 < c
  · obtain ⟨s, hs, e⟩ := pick D.str mn hl (g / 10)
    refine ⟨.str s, b, ?_, .var (hmn s hs)⟩
    simp [e_mod, hc, hl, retF, d1, e_mod (show (0 : Int) < (mn.length : Int) by omega), e]
  · obtain ⟨q, hq, e⟩ := pick syE M hM (g / 10)
    obtain ⟨hq1, hq2⟩ := hMs q hq
    have hari : 0 ≤ q.2.1 ∧ q.2.1 ≤ 2 := by omega
    have a0 : atI [D.str q.1, .int q.2.1, .bl q.2.2] 0 = some (.str q.1) := at_lit 0 rfl rfl
    have a1 : atI [D.str q.1, .int q.2.1, .bl q.2.2] 1 = some (.int q.2.1) := at_lit 1 rfl rfl
    obtain ⟨env', el, args, b', y11, y12, rfl, hal, hat⟩ := for_ok (bnd := bndN 11) (body := l1_law_term self)
      (fun j env => ∃ (args : List D) (b' : Nat) (y11 y12 : Option Sl), env = [some (.val sy), some (.val (.lst (mn.map D.str))), some (.val se), some (.val at'), some (.val (.int dp)), some (.val (.int g)), some (.val (.int (b' : Int))), some (.val (.int c)), some (.val (.lst (M.map syE))), some (.val (syE q)), some (.own (.str q.1 :: args)), y11, y12, x13] ∧ args.length = j ∧ ∀ a ∈ args, Tm n a)
      (ds := rngD 0 q.2.1.toNat) (env := [some (.val sy), some (.val (.lst (mn.map D.str))), some (.val se), some (.val at'), some (.val (.int dp)), some (.val (.int g)), some (.val (.int (b : Int))), some (.val (.int c)), some (.val (.lst (M.map syE))), some (.val (syE q)), some (.own [.str q.1]), none, none, x13])
      ⟨[], b, none, none, rfl, rfl, fun a ha => by cases ha⟩ fun j d env hd ⟨args, b', y11, y12, he, hal, hat⟩ => by
        obtain ⟨hj, rfl⟩ := rng_get hd
        subst he
        obtain ⟨t, b2, hs, ht⟩ := hself ⟨q, hq, by omega⟩ b'
        have c0 : atI [t, D.int (b2 : Int)] 0 = some t := at_lit 0 rfl rfl
        have c1 : atI [t, D.int (b2 : Int)] 1 = some (.int (b2 : Int)) := at_lit 1 rfl rfl
        have hlt : args.length + 1 < 100000 := by omega
        refine ⟨_, _, rfl, ?_, args ++ [t], b2, some (.val (.int (j : Int))), some (.val (.lst [t, .int (b2 : Int)])), rfl, by simp [hal], fun a ha => ?_⟩
        · simp [l1_law_term, hs, c0, c1, hlt]
        · rcases List.mem_append.mp ha with ha | ha
          · exact hat a ha
          · have : a = t := by simpa using ha
            rw [this]; exact ht
    rw [rng_len] at hal
    have hz : q.2.1 ≤ 1000000 ∧ -1000000 ≤ q.2.1 := by omega
    refine ⟨.tup (.str q.1 :: args), b', ?_, .app hq1 (by omega) hat⟩
    simp [syE] at el e
    simp [e_mod, hc, hl, retF, d1, e_mod (show (0 : Int) < (M.length : Int) by omega), e, a0, a1, lstF, hz, el, syE]
theorem sift {env : En} {c : En → Option D} {p : Sy → Bool} {S : List Sy} (hl : 13 < env.length) (h : ∀ q ∈ S, c (env.set 13 (some (.val (syE q)))) = some (.bl (p q))) : compM (bndN 13) (boolM c) (nameV 13) env (S.map syE) = some ((S.filter p).map syE) := by
  induction S with
  | nil => rfl
  | cons q S ih =>
    have hq := h q (List.mem_cons_self ..)
    have ih := ih fun q' hq' => h q' (List.mem_cons_of_mem _ hq')
    rw [List.map_cons]
    unfold compM
    cases hp : p q with
    | true =>
      rw [hp] at hq
      simp [hq, ih, hp, hl]
    | false =>
      rw [hp] at hq
      simp [hq, ih, hp]
end My

set_option Elab.async false
set_option linter.all false
set_option maxRecDepth 100000
set_option maxHeartbeats 1000000
namespace My
open PySem PySem.Spec PyProof.Rows L2 Dl
theorem term_head (self : List D → Option D) : m_law_term self = 
    (seqM (setM 5 (cI 0))
    (seqM (ifM (boolM (bind2 (nameV 3) (callM lenD (consM (nameV 2) nilM)) (cmpD fun i j => decide (i < j)))) (setM 5 (callM intD (consM (bind2 (nameV 2) (nameV 3) ixD) nilM))) nextM)
    (seqM (setM 6 (bind2 (nameV 3) (cI 1) addD))
    (seqM (setM 7 (cI 5))
    (seqM (setM 8 (asLst (lcM [13] (itemsA (nameV 0)) (bndN 13) (boolM (bind2 (bind2 (nameV 13) (cI 1) ixD) (cI 0) eqD)) (nameV 13))))
    (seqM (ifM (boolM (bind2 (nameV 4) (cI 1) eqD)) (seqM (setM 7 (cI 3))
    (setM 8 (bind2 (asLst (listF (consM (nameV 0) nilM))) (asLst (lcM [13] (itemsA (nameV 0)) (bndN 13) (boolM (bind2 (nameV 13) (cI 2) ixD)) (nameV 13))) addD))) nextM)
    (seqM (ifM (boolM (bind2 (nameV 4) (cI 2) (cmpD fun i j => decide (j ≤ i)))) (seqM (setM 7 (cI 1))
    (seqM (setM 8 (bind2 (asLst (lcM [13] (itemsA (nameV 0)) (bndN 13) (boolM (bind2 (bind2 (nameV 13) (cI 1) ixD) (cI 0) (cmpD fun i j => decide (j < i)))) (nameV 13))) (asLst (lcM [13] (itemsA (nameV 0)) (bndN 13) (boolM (bind2 (nameV 13) (cI 2) ixD)) (nameV 13))) addD))
    (ifM (boolM (bind2 (bind2 (bind2 (nameV 5) (cI 120) fdivD) (cI 10) modD) (cI 1) eqD)) (setM 8 (asLst (lcM [13] (itemsA (nameV 0)) (bndN 13) (boolM (bind2 (bind2 (nameV 13) (cI 1) ixD) (cI 0) eqD)) (nameV 13)))) nextM))) nextM)
    (tl_term self)))))))) := rfl
theorem filter_pos {α : Type} {p : α → Bool} {l : List α} (h : ∃ a ∈ l, p a = true) : 0 < (l.filter p).length := by
  obtain ⟨a, ha, hp⟩ := h
  exact List.length_pos_of_mem (List.mem_filter.mpr ⟨ha, hp⟩)
theorem term_ok {S : List Sy} (hS : SyOk S) {mn : List Str} (hmn : ∀ s ∈ mn, SOk s) (hl : 0 < mn.length) (row : List Int) : ∀ (d k a : Nat), d ≤ 2 → d < k → ∃ t b, f_law_term_ k [.lst (S.map syE), .lst (mn.map D.str), .lst (row.map D.int), .int ((a : Nat) : Int), .int ((d : Nat) : Int)] = some (.lst [t, .int ((b : Nat) : Int)]) ∧ Tm (d + 1) t := by
  intro d
  induction d with
  | zero =>
    intro k a hd hk
    obtain ⟨k, rfl⟩ : ∃ k', k = k' + 1 := ⟨k - 1, by omega⟩
    exact main 0 k a (by omega) fun _ hd => absurd rfl hd
  | succ d ih =>
    intro k a hd hk
    obtain ⟨k, rfl⟩ : ∃ k', k = k' + 1 := ⟨k - 1, by omega⟩
    refine main (d + 1) k a hd fun b hd => ?_
    obtain ⟨t, b', h1, h2⟩ := ih k b (by omega) (by omega)
    exact ⟨t, b', by rw [show (((d + 1 : Nat) : Int) - 1) = (d : Int) by omega]; exact h1, h2⟩
where
  main (d k a : Nat) (hd : d ≤ 2) (hself : ∀ b : Nat, d ≠ 0 → ∃ t b', f_law_term_ k [.lst (S.map syE), .lst (mn.map D.str), .lst (row.map D.int), .int ((b : Nat) : Int), .int ((d : Int) - 1)] = some (.lst [t, .int ((b' : Nat) : Int)]) ∧ Tm d t) : ∃ t b, f_law_term_ (k + 1) [.lst (S.map syE), .lst (mn.map D.str), .lst (row.map D.int), .int ((a : Nat) : Int), .int ((d : Nat) : Int)] = some (.lst [t, .int ((b : Nat) : Int)]) ∧ Tm (d + 1) t := by
    have hsl : S.length ≤ 100000 := by have := hS.len; omega
    have fA : ∀ e0 e1 e2 e3 e4 e5 e6 e7 : Option Sl, ∀ e8, compM (bndN 13) (boolM (bind2 (bind2 (nameV 13) (cI 1) ixD) (cI 0) eqD)) (nameV 13) [e0, e1, e2, e3, e4, e5, e6, e7, e8, none, none, none, none, none] (S.map syE) = some ((S.filter fun q => q.2.1 == 0).map syE) := fun e0 e1 e2 e3 e4 e5 e6 e7 e8 => sift (by simp) fun q hq => by
      have a1 : atI [D.str q.1, .int q.2.1, .bl q.2.2] 1 = some (.int q.2.1) := at_lit 1 rfl rfl
      simp [syE, a1, eqI]
    have fB : ∀ e0 e1 e2 e3 e4 e5 e6 e7 : Option Sl, ∀ e8, compM (bndN 13) (boolM (bind2 (nameV 13) (cI 2) ixD)) (nameV 13) [e0, e1, e2, e3, e4, e5, e6, e7, e8, none, none, none, none, none] (S.map syE) = some ((S.filter fun q => q.2.2).map syE) := fun e0 e1 e2 e3 e4 e5 e6 e7 e8 => sift (by simp) fun q hq => by
      have a1 : atI [D.str q.1, .int q.2.1, .bl q.2.2] 2 = some (.bl q.2.2) := at_lit 2 rfl rfl
      simp [syE, a1, eqI]
    have fC : ∀ e0 e1 e2 e3 e4 e5 e6 e7 : Option Sl, ∀ e8, compM (bndN 13) (boolM (bind2 (bind2 (nameV 13) (cI 1) ixD) (cI 0) (cmpD fun i j => decide (j < i)))) (nameV 13) [e0, e1, e2, e3, e4, e5, e6, e7, e8, none, none, none, none, none] (S.map syE) = some ((S.filter fun q => decide (0 < q.2.1)).map syE) := fun e0 e1 e2 e3 e4 e5 e6 e7 e8 => sift (by simp) fun q hq => by
      have a1 : atI [D.str q.1, .int q.2.1, .bl q.2.2] 1 = some (.int q.2.1) := at_lit 1 rfl rfl
      simp [syE, a1, eqI]
    have good : ∀ q ∈ S, SOk q.1 ∧ (q.2.1 = 0 ∨ q.2.1 = 1 ∨ q.2.1 = 2) := fun q hq => ⟨hS.nam q hq, hS.ari q hq⟩
    have nA : 0 < (S.filter fun q => q.2.1 == 0).length := filter_pos (by obtain ⟨q, h1, h2⟩ := hS.cons; exact ⟨q, h1, by simp [h2]⟩)
    have nB : 0 < (S.filter fun q => q.2.2).length := filter_pos (by obtain ⟨q, h1, h2, h3⟩ := hS.two; exact ⟨q, h1, h3⟩)
    have lB : (S.filter fun q => q.2.2).length ≤ S.length := List.length_filter_le _ _
    have lC : (S.filter fun q => decide (0 < q.2.1)).length ≤ S.length := List.length_filter_le _ _
    have hsz := hS.len
    have digit : ∃ g, ifM (boolM (bind2 (nameV 3) (callM lenD (consM (nameV 2) nilM)) (cmpD fun i j => decide (i < j)))) (setM 5 (callM intD (consM (bind2 (nameV 2) (nameV 3) ixD) nilM))) nextM [some (.val (.lst (S.map syE))), some (.val (.lst (mn.map D.str))), some (.val (.lst (row.map D.int))), some (.val (.int (a : Int))), some (.val (.int (d : Int))), some (.val (.int 0)), none, none, none, none, none, none, none, none] =
        some (.nx [some (.val (.lst (S.map syE))), some (.val (.lst (mn.map D.str))), some (.val (.lst (row.map D.int))), some (.val (.int (a : Int))), some (.val (.int (d : Int))), some (.val (.int g)), none, none, none, none, none, none, none, none]) := by
      by_cases ha : a < row.length
      · have c1 : atI (row.map D.int) (a : Int) = some (.int row[a]) := atI_nat (by simp [ha])
        exact ⟨row[a], by simp [ha, c1]⟩
      · exact ⟨0, by simp [ha, nextM]⟩
    obtain ⟨g, hg⟩ := digit
    have d120 : fdivD (.int g) (.int 120) = some (.int (g / 120)) := e_fdiv (by decide) (big (b := 2 ^ 64) (by decide) (by decide))
    suffices h : ∃ (c : Int) (M : List Sy), 0 < M.length ∧ (∀ q ∈ M, SOk q.1 ∧ (q.2.1 = 0 ∨ q.2.1 = 1 ∨ q.2.1 = 2)) ∧ (d = 0 → ∀ q ∈ M, q.2.1 = 0) ∧ m_law_term (f_law_term_ k) [some (.val (.lst (S.map syE))), some (.val (.lst (mn.map D.str))), some (.val (.lst (row.map D.int))), some (.val (.int (a : Int))), some (.val (.int (d : Int))), none, none, none, none, none, none, none, none, none] =
        tl_term (f_law_term_ k) [some (.val (.lst (S.map syE))), some (.val (.lst (mn.map D.str))), some (.val (.lst (row.map D.int))), some (.val (.int (a : Int))), some (.val (.int (d : Int))), some (.val (.int g)), some (.val (.int ((a + 1 : Nat) : Int))), some (.val (.int c)), some (.val (.lst (M.map syE))), none, none, none, none, none] by
      obtain ⟨c, M, h1, h2, h3, h4⟩ := h
      obtain ⟨t, b', e1, e2⟩ := term_tail (self := f_law_term_ k) (sy := .lst (S.map syE)) (se := .lst (row.map D.int)) (mn := mn) (M := M) (n := d) (dp := d) (.int (a : Int)) g c (a + 1) none hmn hl h1 h2 fun ⟨q, hq, hq0⟩ b => hself b fun z => hq0 (h3 z q hq)
      refine ⟨t, b', ?_, e2⟩
      show bodyM 5 14 (m_law_term (f_law_term_ k)) _ = _
      rw [e_bodyM, if_pos (by rfl)]
      show (m_law_term (f_law_term_ k) [some (.val (.lst (S.map syE))), some (.val (.lst (mn.map D.str))), some (.val (.lst (row.map D.int))), some (.val (.int (a : Int))), some (.val (.int (d : Int))), none, none, none, none, none, none, none, none, none]).bind _ = _
      rw [h4, e1]
      rfl
    rw [term_head, seq_nx (env' := [some (.val (.lst (S.map syE))), some (.val (.lst (mn.map D.str))), some (.val (.lst (row.map D.int))), some (.val (.int (a : Int))), some (.val (.int (d : Int))), some (.val (.int 0)), none, none, none, none, none, none, none, none]) (by simp), seq_nx hg]
    have hcases : d = 0 ∨ d = 1 ∨ d = 2 := by omega
    rcases hcases with rfl | rfl | rfl
    · refine ⟨5, S.filter fun q => q.2.1 == 0, nA, fun q hq => good q (List.mem_filter.mp hq).1, fun _ q hq => by simpa using (List.mem_filter.mp hq).2, ?_⟩
      simp [fA, hsl, eqI, nextM]
    · refine ⟨3, S ++ S.filter fun q => q.2.2, by rw [List.length_append]; omega, fun q hq => ?_, fun h => by omega, ?_⟩
      · rcases List.mem_append.mp hq with hq | hq
        · exact good q hq
        · exact good q (List.mem_filter.mp hq).1
      · have hz : S.length + (S.filter fun q => q.2.2).length ≤ 100000 := by omega
        simp [fA, fB, hsl, eqI, nextM, addD, hz, listF]
    · by_cases hx : g / 120 % 10 = 1
      · refine ⟨1, S.filter fun q => q.2.1 == 0, nA, fun q hq => good q (List.mem_filter.mp hq).1, fun h => by omega, ?_⟩
        have hz : (S.filter fun q => decide (0 < q.2.1)).length + (S.filter fun q => q.2.2).length ≤ 100000 := by omega
        simp [fA, fB, fC, hsl, eqI, nextM, addD, hz, d120, e_mod, hx]
      · refine ⟨1, (S.filter fun q => decide (0 < q.2.1)) ++ S.filter fun q => q.2.2, by rw [List.length_append]; omega, fun q hq => ?_, fun h => by omega, ?_⟩
        · rcases List.mem_append.mp hq with hq | hq
          · exact good q (List.mem_filter.mp hq).1
          · exact good q (List.mem_filter.mp hq).1
        · have hz : (S.filter fun q => decide (0 < q.2.1)).length + (S.filter fun q => q.2.2).length ≤ 100000 := by omega
          have hx' : (g / 120 % 10 == 1) = false := by simpa using hx
          simp [fA, fB, fC, hsl, eqI, nextM, addD, hz, d120, e_mod, hx']
end My

set_option Elab.async false
set_option linter.all false
set_option maxRecDepth 100000
set_option maxHeartbeats 1000000
namespace My
open PySem PySem.Spec PyProof.Rows L2 Dl
/-- a number's text -/
def nt (i : Int) : Str := PySem.Str.ofString (toString i)
theorem num_le {i : Int} (h0 : 0 ≤ i) (h1 : i < 10 ^ 10) : SLe 10 (nt i) := by
  unfold nt
  refine ⟨toString_length_le h0 (by decide) h1, fun c hc => ?_⟩
  by_cases hk : c < 1114112
  · exact hk
  · exact absurd hc (int_text_free' c ⟨by omega, .inr (by omega)⟩ i)
theorem str_of {i : Int} (h0 : 0 ≤ i) (h1 : i < 10 ^ 10) : strOfD [.int i] = some (.str (nt i)) := by
  show (if i.natAbs.log2 < 1920 then some (D.str (toString i)) else none) = _
  have := log_small (i := i) (Nat.lt_of_lt_of_le (show i.natAbs < 2 ^ 64 by omega) (Nat.pow_le_pow_right (by decide) (by decide)))
  rw [if_pos (by omega)]
  rfl
theorem str_ext {a b : Str} (h : a.cps = b.cps) : a = b := by cases a; cases b; congr 1
theorem cancel_l {a b x : Str} (h : x ++ a = x ++ b) : a = b := by
  have e : (x ++ a).cps = (x ++ b).cps := by rw [h]
  rw [show (x ++ a).cps = x.cps ++ a.cps from Str.cps_append x a, show (x ++ b).cps = x.cps ++ b.cps from Str.cps_append x b] at e
  refine str_ext (Array.ext' ?_)
  have e2 := congrArg Array.toList e
  rw [Array.toList_append, Array.toList_append] at e2
  exact List.append_cancel_left e2
theorem cancel_r {a b x : Str} (h : a ++ x = b ++ x) : a = b := by
  have e : (a ++ x).cps = (b ++ x).cps := by rw [h]
  rw [show (a ++ x).cps = a.cps ++ x.cps from Str.cps_append a x, show (b ++ x).cps = b.cps ++ x.cps from Str.cps_append b x] at e
  refine str_ext (Array.ext' ?_)
  have e2 := congrArg Array.toList e
  rw [Array.toList_append, Array.toList_append] at e2
  exact List.append_cancel_right e2
theorem nodup_range {α : Type} {g : Nat → α} {n : Nat} (h : ∀ i j, i < n → j < n → g i = g j → i = j) : ((List.range n).map g).Nodup := by
  refine List.pairwise_map.mpr ?_
  exact (List.nodup_range (n := n)).imp_of_mem fun {a b} ha hb hab e => hab (h a b (List.mem_range.mp ha) (List.mem_range.mp hb) e)
theorem comp_rng {bnd : D → En → Option En} {tst : En → Option Bool} {elt : En → Option D} {env : En} {g : Nat → D} {n : Nat} (h : ∀ k < n, ∃ e1, bnd (.int (k : Int)) env = some e1 ∧ tst e1 = some true ∧ elt e1 = some (g k)) : compM bnd tst elt env (rngD 0 n) = some ((List.range n).map g) := by
  have := comp_map (bnd := bnd) (tst := tst) (elt := elt) (env := env) (f := fun d => match d with | .int i => g i.toNat | d => d) (ds := rngD 0 n) fun d hd => by
    obtain ⟨k, hk, rfl⟩ := rng_mem hd
    exact h k hk
  rw [this]
  congr 1
  unfold rngD
  rw [List.map_map]
  refine List.map_congr_left fun k _ => ?_
  show g (((0 : Int) + (k : Int)).toNat) = g k
  rw [Int.zero_add, Int.toNat_natCast]
def sg (z : Str) (i : Int) : Str := ⟨#[z.cps.toList.getD i.toNat 0]⟩
theorem sg_at {z : Str} {n : Nat} (h : SLe n z) (hn : n ≤ 100000) {i : Int} (h0 : 0 ≤ i) (h1 : i < z.length) : ixD (.str z) (.int i) = some (.str (sg z i)) ∧ SLe 1 (sg z i) := by
  obtain ⟨s, e1, e2, j, rfl, c, e3, e4⟩ := sign_at h hn h0 h1
  have : sg z (j : Int) = s := by
    rw [e4]
    unfold sg
    rw [Int.toNat_natCast, List.getD_eq_getElem?_getD, e3]
    rfl
  rw [this]
  exact ⟨e1, e2⟩
abbrev zCaps : Str := "ABCDEFGHIJKLMNOPQRSTUVWXYZ"
theorem caps_ok : SLe 26 zCaps := .lit (by decide +kernel)
theorem caps_len : zCaps.length = 26 := by decide +kernel
theorem caps_inj : ∀ i j : Nat, i < 26 → j < 26 → sg zCaps i = sg zCaps j → i = j := by
  have : ∀ i : Fin 26, ∀ j : Fin 26, sg zCaps (i.val : Int) = sg zCaps (j.val : Int) → i = j := by decide +kernel
  exact fun i j hi hj e => congrArg Fin.val (this ⟨i, hi⟩ ⟨j, hj⟩ e)
theorem num_inj : ∀ i j : Nat, i < 10 → j < 10 → nt (i : Int) = nt (j : Int) → i = j := by
  have : ∀ i : Fin 10, ∀ j : Fin 10, PySem.Str.ofString (toString (i.val : Int)) = PySem.Str.ofString (toString (j.val : Int)) → i = j := by decide +kernel
  exact fun i j hi hj e => congrArg Fin.val (this ⟨i, hi⟩ ⟨j, hj⟩ e)
end My

set_option Elab.async false
set_option linter.all false
set_option maxRecDepth 100000
set_option maxHeartbeats 1000000
namespace My
open PySem PySem.Spec PyProof.Rows L2 Dl
def endings : List Str := ["1", "", "01", "10", "2", "00001", "11", "0"]
def plain8 : List Str := ["X", "Y2", "A", "Z10", "X1", "B", "K07", "W"]
/-- eight unlike names, and six of them -/
structure N8 (L : List Str) : Prop where
  len : L.length = 8
  nd : L.Nodup
  ok : ∀ s ∈ L, SOk s
theorem nodup_get {L : List Str} (h : L.Nodup) {i j : Nat} (hi : i < L.length) (hj : j < L.length) (e : L[i] = L[j]) : i = j := by
  have p := List.pairwise_iff_getElem.mp h
  rcases Nat.lt_trichotomy i j with z | z | z
  · exact absurd e (p i j hi hj z)
  · exact z
  · exact absurd e.symm (p j i hj hi z)
theorem six {L : List Str} (h : N8 L) {w : Int} {x0 x2 x3 x4 x5 x8 : Option Sl} {row : List D} (hw : atI row 1 = some (.int w)) (hx0 : x0 = some (.val (.lst row))) : ∃ ns : List Str, ns.length = 6 ∧ ns.Nodup ∧ (∀ s ∈ ns, SOk s) ∧
    retF (asLst (lcM [7] (rngM1 (consM (nameV 1) nilM)) (bndN 7) yesM (bind2 (nameV 6) (bind2 (callM intD (consM (bind2 (bind2 (nameV 0) (cI 1) ixD) (bind2 (cI 3) (nameV 7) mulD) addD) nilM)) (cI 8) modD) ixD))) [x0, some (.val (.int 6)), x2, x3, x4, x5, some (.val (.lst (L.map D.str))), none, x8] = some (.rt (.lst (ns.map D.str))) := by
  subst hx0
  have hlt : ∀ k : Nat, ((w + 3 * (k : Int)) % 8).toNat < L.length := fun k => by
    have h0 := Int.emod_nonneg (w + 3 * (k : Int)) (show (8 : Int) ≠ 0 by decide)
    have h1 := Int.emod_lt_of_pos (w + 3 * (k : Int)) (show (0 : Int) < 8 by decide)
    have := h.len
    omega
  refine ⟨(List.range 6).map fun (k : Nat) => L[((w + 3 * (k : Int)) % 8).toNat]'(hlt k), by simp, nodup_range fun i j hi hj e => ?_, fun s hs => ?_, ?_⟩
  · have := nodup_get h.nd (hlt i) (hlt j) e
    have h0 := Int.emod_nonneg (w + 3 * (i : Int)) (show (8 : Int) ≠ 0 by decide)
    have h1 := Int.emod_nonneg (w + 3 * (j : Int)) (show (8 : Int) ≠ 0 by decide)
    omega
  · obtain ⟨k, _, rfl⟩ := List.mem_map.mp hs
    exact h.ok _ (List.getElem_mem _)
  · have hc := comp_rng (bnd := bndN 7) (tst := yesM) (elt := bind2 (nameV 6) (bind2 (callM intD (consM (bind2 (bind2 (nameV 0) (cI 1) ixD) (bind2 (cI 3) (nameV 7) mulD) addD) nilM)) (cI 8) modD) ixD) (env := [some (.val (.lst row)), some (.val (.int 6)), x2, x3, x4, x5, some (.val (.lst (L.map D.str))), none, x8].map frz)
      (g := fun (k : Nat) => .str (L[((w + 3 * (k : Int)) % 8).toNat]'(hlt k))) (n := 6) fun k hk => by
        have m1 : mulD (.int 3) (.int (k : Int)) = some (.int (3 * (k : Int))) := e_mul (big (b := 2 ^ 64) (by decide) (by decide)) (big (b := 2 ^ 64) (by omega) (by decide))
        have h0 := Int.emod_nonneg (w + 3 * (k : Int)) (show (8 : Int) ≠ 0 by decide)
        have hj : (w + 3 * (k : Int)) % 8 = ((((w + 3 * (k : Int)) % 8).toNat : Nat) : Int) := by omega
        have c1 : atI (L.map D.str) ((w + 3 * (k : Int)) % 8) = some (.str (L[((w + 3 * (k : Int)) % 8).toNat]'(hlt k))) := at_lit _ hj (by rw [List.getElem?_map, List.getElem?_eq_getElem (hlt k)]; rfl)
        exact ⟨_, rfl, rfl, by simp [hw, m1, e_mod, c1]⟩
    have hr : (rngD 0 6).length ≤ 100000 := by rw [rng_len]; decide
    simp [retF] at hc ⊢
    simp [hc, hr]
theorem N8.of {g : Nat → Str} {n : Nat} (hn : n ≤ 1000) (hg : ∀ k, k < 8 → SLe n (g k)) (h : ∀ i j, i < 8 → j < 8 → g i = g j → i = j) : N8 ((List.range 8).map g) :=
  ⟨by simp, nodup_range h, fun s hs => by
    obtain ⟨k, hk, rfl⟩ := List.mem_map.mp hs
    exact (hg k (List.mem_range.mp hk)).ok hn⟩
theorem plain8_ok : N8 plain8 := ⟨rfl, by decide +kernel, fun s hs => by
  have : plain8.all (fun s => decide (s.length ≤ 1000) && s.cps.toList.all fun c => decide (c < 1114112)) = true := by decide +kernel
  exact (SLe.lit (List.all_eq_true.mp this s hs)).ok (Nat.le_refl _)⟩
theorem endings_ok {l : Str} (h : SLe 1 l) : N8 (endings.map fun e => l ++ e) := by
  refine ⟨rfl, ?_, fun s hs => ?_⟩
  · refine List.pairwise_map.mpr ?_
    have : endings.Nodup := by decide +kernel
    exact this.imp fun hab e => hab (cancel_l e)
  · obtain ⟨e, he, rfl⟩ := List.mem_map.mp hs
    have : endings.all (fun s => decide (s.length ≤ 5) && s.cps.toList.all fun c => decide (c < 1114112)) = true := by decide +kernel
    exact (h.append (SLe.lit (List.all_eq_true.mp this e he))).ok (by decide)
theorem menu_ok {row : List Int} (h : Fits row [3, 8, 26, 6, 100000]) : ∃ ns : List Str, ns.length = 6 ∧ ns.Nodup ∧ (∀ s ∈ ns, SOk s) ∧ f_law_menu [.lst (row.map D.int), .int 6] = some (.lst (ns.map D.str)) := by
  obtain ⟨v, w, x, y, z, rfl, hv, hw, hx, hy, hz⟩ := fits5 h
  have a0 : atI [D.int v, .int w, .int x, .int y, .int z] 0 = some (.int v) := at_lit 0 rfl rfl
  have a1 : atI [D.int v, .int w, .int x, .int y, .int z] 1 = some (.int w) := at_lit 1 rfl rfl
  have a2 : atI [D.int v, .int w, .int x, .int y, .int z] 2 = some (.int x) := at_lit 2 rfl rfl
  have a3 : atI [D.int v, .int w, .int x, .int y, .int z] 3 = some (.int y) := at_lit 3 rfl rfl
  have a4 : atI [D.int v, .int w, .int x, .int y, .int z] 4 = some (.int z) := at_lit 4 rfl rfl
  obtain ⟨b1, b2⟩ := sg_at caps_ok (by decide) hx.1 (by rw [caps_len]; omega)
  have b3 := str_of (i := 100000 + z) (by omega) (by omega)
  have b4 := num_le (i := 100000 + z) (by omega) (by omega)
  have b5 := cut_str b4 (by decide) (some 1) none
  have b6 := b4.cut (some 1) none
  have b7 := add_str b2 b6 (by decide)
  have b8 := b2.append b6
  have hv3 : v = 0 ∨ v = 1 ∨ v = 2 := by omega
  generalize hWd : sg zCaps x ++ cutS (nt ((100000 + z))) (some 1) none = wd at b7 b8
  generalize hLt : sg zCaps x = lt at b1 b2 b7 b8 hWd
  have fin : ∀ (L : List Str) (x8 : Option Sl), N8 L → m_law_menu [some (.val (.lst [.int v, .int w, .int x, .int y, .int z])), some (.val (.int 6)), none, none, none, none, none, none, none] =
      retF (asLst (lcM [7] (rngM1 (consM (nameV 1) nilM)) (bndN 7) yesM (bind2 (nameV 6) (bind2 (callM intD (consM (bind2 (bind2 (nameV 0) (cI 1) ixD) (bind2 (cI 3) (nameV 7) mulD) addD) nilM)) (cI 8) modD) ixD))) [some (.val (.lst [.int v, .int w, .int x, .int y, .int z])), some (.val (.int 6)), some (.val (.str zCaps)), some (.val (.str lt)), some (.val (.str wd)), some (.val (.int y)), some (.val (.lst (L.map D.str))), none, x8] →
      ∃ ns : List Str, ns.length = 6 ∧ ns.Nodup ∧ (∀ s ∈ ns, SOk s) ∧ f_law_menu [.lst ([v, w, x, y, z].map D.int), .int 6] = some (.lst (ns.map D.str)) := fun L x8 hL e => by
    obtain ⟨ns, h1, h2, h3, h4⟩ := six (x0 := some (.val (.lst [.int v, .int w, .int x, .int y, .int z]))) (x2 := some (.val (.str zCaps))) (x3 := some (.val (.str lt))) (x4 := some (.val (.str wd))) (x5 := some (.val (.int y))) (x8 := x8) hL a1 rfl
    refine ⟨ns, h1, h2, h3, ?_⟩
    unfold f_law_menu
    rw [e_bodyM, if_pos (by rfl)]
    show (m_law_menu [some (.val (.lst [.int v, .int w, .int x, .int y, .int z])), some (.val (.int 6)), none, none, none, none, none, none, none]).bind _ = _
    rw [e, h4]
    rfl
  rcases hv3 with rfl | rfl | rfl
  · refine fin plain8 none plain8_ok ?_
    unfold m_law_menu
    simp [a0, a1, a2, a3, a4, b1, b3, b5, b7, eqI, nextM, noP, plain8, -e_lcM]
  · refine fin (endings.map fun e => lt ++ e) none (endings_ok b2) ?_
    have hc := comp_map (bnd := bndN 8) (tst := yesM) (elt := bind2 (nameV 3) (nameV 8) addD) (env := [some (.val (.lst [.int 1, .int w, .int x, .int y, .int z])), some (.val (.int 6)), some (.val (.str zCaps)), some (.val (.str lt)), some (.val (.str wd)), some (.val (.int y)), some (.val (.lst (plain8.map D.str))), none, none])
      (f := fun d => match d with | .str s => .str (lt ++ s) | d => d) (ds := endings.map D.str) fun d hd => by
        obtain ⟨e, he, rfl⟩ := List.mem_map.mp hd
        have : endings.all (fun s => decide (s.length ≤ 5) && s.cps.toList.all fun c => decide (c < 1114112)) = true := by decide +kernel
        have := add_str b2 (SLe.lit (List.all_eq_true.mp this e he)) (by decide)
        exact ⟨_, rfl, rfl, by simp [this]⟩
    unfold m_law_menu
    simp [plain8, endings] at hc
    simp [a0, a1, a2, a3, a4, b1, b3, b5, b7, eqI, nextM, noP, plain8, endings, hc]
  · by_cases hy0 : y = 0
    · subst hy0
      have hL : N8 ((List.range 8).map fun (k : Nat) => sg zCaps ((x + 3 * (k : Int)) % 26) ++ cutS wd (some 1) none) := by
        refine .of (n := 1 + (1 + 10)) (by decide) (fun k hk => ?_) fun i j hi hj e => ?_
        · exact (sg_at caps_ok (by decide) (Int.emod_nonneg _ (by decide)) (by rw [caps_len]; exact Int.emod_lt_of_pos _ (by decide))).2.append (b8.cut (some 1) none)
        · have e := cancel_r e
          have h0 := Int.emod_nonneg (x + 3 * (i : Int)) (show (26 : Int) ≠ 0 by decide)
          have h1 := Int.emod_lt_of_pos (x + 3 * (i : Int)) (show (0 : Int) < 26 by decide)
          have h2 := Int.emod_nonneg (x + 3 * (j : Int)) (show (26 : Int) ≠ 0 by decide)
          have h3 := Int.emod_lt_of_pos (x + 3 * (j : Int)) (show (0 : Int) < 26 by decide)
          obtain ⟨p, hp⟩ := Int.eq_ofNat_of_zero_le h0
          obtain ⟨q, hq⟩ := Int.eq_ofNat_of_zero_le h2
          rw [hp, hq] at e
          have := caps_inj p q (by omega) (by omega) e
          omega
      refine fin _ none hL ?_
      have hc := comp_rng (bnd := bndN 7) (tst := yesM) (elt := bind2 (bind2 (nameV 2) (bind2 (callM intD (consM (bind2 (bind2 (nameV 0) (cI 2) ixD) (bind2 (cI 3) (nameV 7) mulD) addD) nilM)) (cI 26) modD) ixD) (slM (nameV 4) (partM (cI 1)) noP) addD) (env := [some (.val (.lst [.int 2, .int w, .int x, .int 0, .int z])), some (.val (.int 6)), some (.val (.str zCaps)), some (.val (.str lt)), some (.val (.str wd)), some (.val (.int 0)), some (.val (.lst (plain8.map D.str))), none, none])
        (g := fun (k : Nat) => .str (sg zCaps ((x + 3 * (k : Int)) % 26) ++ cutS wd (some 1) none)) (n := 8) fun k hk => by
          have m1 : mulD (.int 3) (.int (k : Int)) = some (.int (3 * (k : Int))) := e_mul (big (b := 2 ^ 64) (by decide) (by decide)) (big (b := 2 ^ 64) (by omega) (by decide))
          obtain ⟨c1, c2⟩ := sg_at caps_ok (by decide) (Int.emod_nonneg (x + 3 * (k : Int)) (show (26 : Int) ≠ 0 by decide)) (by rw [caps_len]; exact Int.emod_lt_of_pos _ (by decide))
          have c3 := cut_str b8 (by decide) (some 1) none
          have c4 := add_str c2 (b8.cut (some 1) none) (by decide)
          exact ⟨_, rfl, rfl, by simp [a2, m1, e_mod, c1, c3, c4, noP]⟩
      have hr : (rngD 0 8).length ≤ 100000 := by rw [rng_len]; decide
      have hmm : ((List.range 8).map fun (k : Nat) => sg zCaps ((x + 3 * (k : Int)) % 26) ++ cutS wd (some 1) none).map D.str = (List.range 8).map fun (k : Nat) => D.str (sg zCaps ((x + 3 * (k : Int)) % 26) ++ cutS wd (some 1) none) := by rw [List.map_map]; rfl
      rw [hmm]
      generalize (List.range 8).map (fun (k : Nat) => D.str (sg zCaps ((x + 3 * (k : Int)) % 26) ++ cutS wd (some 1) none)) = LL at hc
      unfold m_law_menu
      simp [plain8] at hc
      simp [a0, a1, a2, a3, a4, b1, b3, b5, b7, eqI, nextM, noP, plain8, hc, hr]
    · have hL : N8 ((List.range 8).map fun (k : Nat) => cutS wd none (some y) ++ nt (((z + 3 * (k : Int)) % 10)) ++ cutS wd (some (y + 1)) none) := by
        refine .of (n := (1 + 10) + 10 + (1 + 10)) (by decide) (fun k hk => ?_) fun i j hi hj e => ?_
        · have h0 := Int.emod_nonneg (z + 3 * (k : Int)) (show (10 : Int) ≠ 0 by decide)
          have h1 := Int.emod_lt_of_pos (z + 3 * (k : Int)) (show (0 : Int) < 10 by decide)
          exact ((b8.cut none (some y)).append (num_le h0 (by omega))).append (b8.cut (some (y + 1)) none)
        · have e := cancel_l (cancel_r e)
          have h0 := Int.emod_nonneg (z + 3 * (i : Int)) (show (10 : Int) ≠ 0 by decide)
          have h1 := Int.emod_lt_of_pos (z + 3 * (i : Int)) (show (0 : Int) < 10 by decide)
          have h2 := Int.emod_nonneg (z + 3 * (j : Int)) (show (10 : Int) ≠ 0 by decide)
          have h3 := Int.emod_lt_of_pos (z + 3 * (j : Int)) (show (0 : Int) < 10 by decide)
          obtain ⟨p, hp⟩ := Int.eq_ofNat_of_zero_le h0
          obtain ⟨q, hq⟩ := Int.eq_ofNat_of_zero_le h2
          rw [hp, hq] at e
          have := num_inj p q (by omega) (by omega) e
          omega
      refine fin _ none hL ?_
      have hc := comp_rng (bnd := bndN 7) (tst := yesM) (elt := bind2 (bind2 (slM (nameV 4) noP (partM (nameV 5))) (callM strOfD (consM (bind2 (callM intD (consM (bind2 (bind2 (nameV 0) (cI 4) ixD) (bind2 (cI 3) (nameV 7) mulD) addD) nilM)) (cI 10) modD) nilM)) addD) (slM (nameV 4) (partM (bind2 (nameV 5) (cI 1) addD)) noP) addD) (env := [some (.val (.lst [.int 2, .int w, .int x, .int y, .int z])), some (.val (.int 6)), some (.val (.str zCaps)), some (.val (.str lt)), some (.val (.str wd)), some (.val (.int y)), some (.val (.lst (plain8.map D.str))), none, none])
        (g := fun (k : Nat) => .str (cutS wd none (some y) ++ nt (((z + 3 * (k : Int)) % 10)) ++ cutS wd (some (y + 1)) none)) (n := 8) fun k hk => by
          have m1 : mulD (.int 3) (.int (k : Int)) = some (.int (3 * (k : Int))) := e_mul (big (b := 2 ^ 64) (by decide) (by decide)) (big (b := 2 ^ 64) (by omega) (by decide))
          have h0 := Int.emod_nonneg (z + 3 * (k : Int)) (show (10 : Int) ≠ 0 by decide)
          have h1 := Int.emod_lt_of_pos (z + 3 * (k : Int)) (show (0 : Int) < 10 by decide)
          have c0 := str_of h0 (by omega)
          have c00 := num_le h0 (by omega)
          have c1 := cut_str b8 (by decide) none (some y)
          have c3 := cut_str b8 (by decide) (some (y + 1)) none
          have c4 := add_str (b8.cut none (some y)) c00 (by decide)
          have c5 := add_str ((b8.cut none (some y)).append c00) (b8.cut (some (y + 1)) none) (by decide)
          exact ⟨_, rfl, rfl, by simp [a4, m1, e_mod, c0, c1, c3, c4, c5, noP]⟩
      have hr : (rngD 0 8).length ≤ 100000 := by rw [rng_len]; decide
      have hmm : ((List.range 8).map fun (k : Nat) => cutS wd none (some y) ++ nt (((z + 3 * (k : Int)) % 10)) ++ cutS wd (some (y + 1)) none).map D.str = (List.range 8).map fun (k : Nat) => D.str (cutS wd none (some y) ++ nt (((z + 3 * (k : Int)) % 10)) ++ cutS wd (some (y + 1)) none) := by rw [List.map_map]; rfl
      rw [hmm]
      generalize (List.range 8).map (fun (k : Nat) => D.str (cutS wd none (some y) ++ nt (((z + 3 * (k : Int)) % 10)) ++ cutS wd (some (y + 1)) none)) = LL at hc
      have hy1 : (0 : Int) < y := by omega
      have hy2 : (y == 0) = false := by simpa using hy0
      unfold m_law_menu
      simp [plain8] at hc
      simp [a0, a1, a2, a3, a4, b1, b3, b5, b7, eqI, nextM, noP, plain8, hc, hr, hy1, hy2]
end My

set_option Elab.async false
set_option linter.all false
set_option maxRecDepth 100000
set_option maxHeartbeats 1000000
namespace My
open PySem PySem.Spec PyProof.Rows L2 Dl
/-! ### full terms -/
theorem sift2 {e0 e1 e2 e3 e4 : Option Sl} {S : List Sy} : compM (bndN 7) (boolM (bind2 (bind2 (nameV 7) (cI 1) ixD) (cI 2) eqD)) (bind2 (nameV 7) (cI 0) ixD) [e0, e1, e2, e3, e4, none, none, none] (S.map syE) = some ((S.filter fun q => q.2.1 == 2).map fun q => .str q.1) := by
  induction S with
  | nil => rfl
  | cons q S ih =>
    have a0 : atI [D.str q.1, .int q.2.1, .bl q.2.2] 0 = some (.str q.1) := at_lit 0 rfl rfl
    have a1 : atI [D.str q.1, .int q.2.1, .bl q.2.2] 1 = some (.int q.2.1) := at_lit 1 rfl rfl
    rw [List.map_cons]
    unfold compM
    cases hp : q.2.1 == 2 with
    | true => simp [syE, a0, a1, eqI, hp, ih]
    | false => simp [syE, a0, a1, eqI, hp, ih]
theorem full_ok {S : List Sy} (hS : SyOk S) {mn : List Str} (hmn : ∀ s ∈ mn, SOk s) (hl : 0 < mn.length) (row : List Int) (hr : row.length = 15) : ∀ (d k a : Nat), (a + 2) * 2 ^ d ≤ 16 → d < k → ∃ t, f_law_full_ k [.lst (S.map syE), .lst (mn.map D.str), .lst (row.map D.int), .int ((a : Nat) : Int), .int ((d : Nat) : Int)] = some t ∧ Tm d t := by
  intro d
  induction d with
  | zero =>
    intro k a ha hk
    obtain ⟨k, rfl⟩ : ∃ k', k = k' + 1 := ⟨k - 1, by omega⟩
    have ha2 : a < row.length := by simp at ha; omega
    have c1 : atI (row.map D.int) (a : Int) = some (.int row[a]) := atI_nat (by simp [ha2])
    obtain ⟨s, hs, e⟩ := pick D.str mn hl row[a]
    refine ⟨.str s, ?_, .var (hmn s hs)⟩
    show bodyM 5 8 (m_law_full (f_law_full_ k)) _ = _
    simp [m_law_full, retF, eqI, c1, e_mod (show (0 : Int) < (mn.length : Int) by omega), e]
  | succ d ih =>
    intro k a ha hk
    obtain ⟨k, rfl⟩ : ∃ k', k = k' + 1 := ⟨k - 1, by omega⟩
    have hp : (a + 2) * 2 ^ (d + 1) = (2 * a + 4) * 2 ^ d := by rw [Nat.pow_succ, ← Nat.mul_assoc, Nat.mul_comm ((a + 2) * 2 ^ d) 2, ← Nat.mul_assoc]; congr 1
    have hq : 1 ≤ 2 ^ d := Nat.one_le_two_pow
    have hb : (2 * a + 4) * 1 ≤ (2 * a + 4) * 2 ^ d := Nat.mul_le_mul_left _ hq
    have hc : (2 * a + 1 + 2) * 2 ^ d ≤ (2 * a + 4) * 2 ^ d := Nat.mul_le_mul_right _ (by omega)
    have ha2 : a < row.length := by omega
    have c1 : atI (row.map D.int) (a : Int) = some (.int row[a]) := atI_nat (by simp [ha2])
    obtain ⟨t1, e1, h1⟩ := ih k (2 * a + 1) (by omega) (by omega)
    obtain ⟨t2, e2, h2⟩ := ih k (2 * a + 2) (by rw [show 2 * a + 2 + 2 = 2 * a + 4 by omega]; omega) (by omega)
    have hn : 0 < (S.filter fun q => q.2.1 == 2).length := filter_pos (by obtain ⟨q, h1, h2, h3⟩ := hS.two; exact ⟨q, h1, by simp [h2]⟩)
    obtain ⟨q, hq, e⟩ := pick (fun q : Sy => D.str q.1) (S.filter fun q => q.2.1 == 2) hn row[a]
    have hq' := (List.mem_filter.mp hq).1
    have hd0 : (((d : Int) + 1) == 0) = false := by
      have : ¬ ((d : Int) + 1 = 0) := by omega
      simpa using this
    have m1 : mulD (.int 2) (.int (a : Int)) = some (.int (2 * (a : Int))) := e_mul (big (b := 2 ^ 64) (by decide) (by decide)) (big (b := 2 ^ 64) (by omega) (by decide))
    have hsl : S.length ≤ 100000 := by have := hS.len; omega
    refine ⟨.tup [.str q.1, t1, t2], ?_, .app (hS.nam q hq') (by simp) fun x hx => ?_⟩
    · show bodyM 5 8 (m_law_full (f_law_full_ k)) _ = _
      have z1 : (((d + 1 : Nat) : Int) - 1) = (d : Int) := by omega
      have z2 : (((2 * a + 1 : Nat)) : Int) = 2 * (a : Int) + 1 := by omega
      have z3 : (((2 * a + 2 : Nat)) : Int) = 2 * (a : Int) + 2 := by omega
      rw [z2] at e1
      rw [z3] at e2
      simp [m_law_full, retF, nextM, eqI, hd0, c1, e_mod (show (0 : Int) < ((S.filter fun q => q.2.1 == 2).length : Int) by omega), e, sift2, hsl, m1, e1, e2]
    · rcases List.mem_cons.mp hx with rfl | hx
      · exact h1
      · have : x = t2 := by simpa using hx
        rw [this]; exact h2
end My

set_option Elab.async false
set_option linter.all false
set_option maxRecDepth 100000
set_option maxHeartbeats 1000000
namespace My
open PySem PySem.Spec PyProof.Rows L2 Dl
/-! ### fillings -/
theorem sizes_ok {sz : List Int} (h : (sz.all fun s => decide (0 < s) && decide (s.natAbs < 2 ^ 64)) = true) : ∀ s ∈ sz, SizeOk s := fun s hs => by
  have := List.all_eq_true.mp h s hs
  rw [Bool.and_eq_true] at this
  exact ⟨of_decide_eq_true this.1, big (of_decide_eq_true this.2) (Nat.le_refl _)⟩
theorem draw (ns : List Int) (k : Nat) (hk : k ≤ 1000) {i : Int} (hi : i = (k : Int)) (sz : List Int) (h : (sz.all fun s => decide (0 < s) && decide (s.natAbs < 2 ^ 64)) = true) (hl : sz.length ≤ 1000) : ∃ c row, f_law_cell [.scr (ns.map D.int), .int i] = some (.int c) ∧ Fits row sz ∧ f_law_digits [.int c, .lst (sz.map D.int)] = some (.lst (row.map D.int)) := by
  subst hi
  obtain ⟨c, hc⟩ := cell_ok ns k hk
  obtain ⟨row, h1, h2⟩ := digits_ok c sz (sizes_ok h) hl
  exact ⟨c, row, hc, h1, h2⟩
abbrev sz7 : List Int := [1200, 1200, 1200, 1200, 1200, 1200, 1200]
theorem rep7 : mulD (.lst [.int 1200]) (.int 7) = some (.lst [.int 1200, .int 1200, .int 1200, .int 1200, .int 1200, .int 1200, .int 1200]) := rfl
structure FOk (mn : List Str) (m : Nat) (P : List (Str × D)) : Prop where
  each : ∀ p ∈ P, p.1 ∈ mn ∧ Tm m p.2
  len : P.length ≤ 6
theorem FOk.pok {mn : List Str} {m : Nat} {P : List (Str × D)} (h : FOk mn m P) (hmn : ∀ s ∈ mn, SOk s) : POk m P := ⟨fun p hp => ⟨hmn _ (h.each p hp).1, (h.each p hp).2⟩, by have := h.len; omega⟩
theorem filling_ok (ns : List Int) {S : List Sy} (hS : SyOk S) {mn : List Str} (hmn : ∀ s ∈ mn, SOk s) (hl : mn.length = 6) (a dp : Nat) (ha : a ≤ 900) (hdp : dp ≤ 2) {ia id : Int} (hia : ia = (a : Int)) (hid : id = (dp : Int)) : ∃ P, FOk mn (dp + 1) P ∧ f_law_filling [.scr (ns.map D.int), .int ia, .lst (S.map syE), .lst (mn.map D.str), .int id] = some (.lst (P.map encP)) := by
  subst hia hid
  obtain ⟨c, row, hc, hf, hd⟩ := draw ns a (by omega) rfl [6, 6, 2, 3, 3, 3, 3, 3] (by decide) (by decide)
  obtain ⟨r0, a0, p0, q0⟩ := hf.at 0 (i := 0) rfl rfl
  obtain ⟨r1, a1, p1, q1⟩ := hf.at 1 (i := 1) rfl rfl
  obtain ⟨r2, a2, p2, q2⟩ := hf.at 2 (i := 2) rfl rfl
  have hpk : ∃ u : Int, (u = 1 ∨ u = 5) ∧ atI [D.int 1, D.int 5] r2 = some (.int u) := by
    have : r2 = 0 ∨ r2 = 1 := by omega
    rcases this with rfl | rfl
    · exact ⟨1, .inl rfl, at_lit 0 rfl rfl⟩
    · exact ⟨5, .inr rfl, at_lit 1 rfl rfl⟩
  obtain ⟨u, hu, hu2⟩ := hpk
  obtain ⟨env', el, P, y7, y8, y9, rfl, hP1, hP2⟩ := for_ok (bnd := bndN 7) (body := l1_law_filling)
    (fun j env => ∃ (P : List (Str × D)) (y7 y8 y9 : Option Sl), env = [some (.val (.scr (ns.map D.int))), some (.val (.int (a : Int))), some (.val (.lst (S.map syE))), some (.val (.lst (mn.map D.str))), some (.val (.int (dp : Int))), some (.val (.lst (row.map D.int))), some (.own (P.map encP)), y7, y8, y9] ∧ P.length = j ∧ ∀ p ∈ P, p.1 ∈ mn ∧ Tm (dp + 1) p.2)
    (ds := rngD 0 r0.toNat) (env := [some (.val (.scr (ns.map D.int))), some (.val (.int (a : Int))), some (.val (.lst (S.map syE))), some (.val (.lst (mn.map D.str))), some (.val (.int (dp : Int))), some (.val (.lst (row.map D.int))), some (.own []), none, none, none])
    ⟨[], none, none, none, rfl, rfl, fun a ha => by cases ha⟩ fun j d env hd ⟨P, y7, y8, y9, he, hP1, hP2⟩ => by
      obtain ⟨hj, rfl⟩ := rng_get hd
      subst he
      have hj5 : j < 5 := by omega
      have m1 : mulD (.int u) (.int (j : Int)) = some (.int (u * (j : Int))) := e_mul (big (b := 2 ^ 64) (by omega) (by decide)) (big (b := 2 ^ 64) (by omega) (by decide))
      obtain ⟨s, hs, hse⟩ := pick D.str mn (by omega) (r1 + u * (j : Int))
      rw [hl] at hse
      have hse : atI (mn.map D.str) ((r1 + u * (j : Int)) % 6) = some (.str s) := hse
      obtain ⟨c', row', hc', hf', hd'⟩ := draw ns (a + 1 + j) (by omega) (i := (a : Int) + 1 + (j : Int)) (by omega) sz7 (by decide) (by decide)
      have hd' : f_law_digits [.int c', .lst [.int 1200, .int 1200, .int 1200, .int 1200, .int 1200, .int 1200, .int 1200]] = some (.lst (row'.map D.int)) := hd'
      obtain ⟨r, b1, b2, b3⟩ : ∃ r, atI (row.map D.int) (3 + (j : Int)) = some (.int r) ∧ 0 ≤ r ∧ r < 3 := by
        have : j = 0 ∨ j = 1 ∨ j = 2 ∨ j = 3 ∨ j = 4 := by omega
        rcases this with rfl | rfl | rfl | rfl | rfl
        · exact hf.at 3 (by omega) rfl
        · exact hf.at 4 (by omega) rfl
        · exact hf.at 5 (by omega) rfl
        · exact hf.at 6 (by omega) rfl
        · exact hf.at 7 (by omega) rfl
      obtain ⟨m, hm1, hm2, hm3⟩ : ∃ m : Nat, (if r < (dp : Int) then r else (dp : Int)) = (m : Int) ∧ m ≤ 2 ∧ m ≤ dp := by
        split
        · exact ⟨r.toNat, by omega, by omega, by omega⟩
        · exact ⟨dp, rfl, by omega, Nat.le_refl _⟩
      obtain ⟨t, b, ht1, ht2⟩ := term_ok hS hmn (by omega) row' m 8 0 hm2 (by omega)
      have ht1 : f_law_term [.lst (S.map syE), .lst (mn.map D.str), .lst (row'.map D.int), .int 0, .int (m : Int)] = some (.lst [t, .int (b : Int)]) := ht1
      have c0 : atI [t, D.int (b : Int)] 0 = some t := at_lit 0 rfl rfl
      have hlt : P.length < 100000 := by omega
      refine ⟨_, _, rfl, ?_, P ++ [(s, t)], some (.val (.int (j : Int))), some (.val (.str s)), some (.val (.lst (row'.map D.int))), rfl, by simp [hP1], fun p hp => ?_⟩
      · simp [l1_law_filling, a1, a2, hu2, m1, e_mod, hse, hc', rep7, hd', b1, hm1, ht1, c0, hlt, encP]
      · rcases List.mem_append.mp hp with hp | hp
        · exact hP2 p hp
        · have : p = (s, t) := by simpa using hp
          subst this
          exact ⟨hs, ht2.mono (by omega)⟩
  rw [rng_len] at hP1
  refine ⟨P, ⟨hP2, by omega⟩, ?_⟩
  have hz : r0 ≤ 1000000 ∧ -1000000 ≤ r0 := by omega
  unfold f_law_filling m_law_filling
  simp [lstF, retF] at el hd ⊢
  simp [hc, hd, a0, hz, el]
end My

set_option Elab.async false
set_option linter.all false
set_option maxRecDepth 100000
set_option maxHeartbeats 1000000
namespace My
open PySem PySem.Spec PyProof.Rows L2 Dl
theorem told_due {kn mn : List Str} {im : Str → D} (hk : kn.Nodup) (hm : mn.Nodup) (hsub : ∀ s ∈ kn, s ∈ mn) (him : ∀ s, s ∉ kn → im s = .str s) : res (sn kn) im = res (sn mn) im := by
  unfold res
  rw [sn_filter hk hm fun s => ?_]
  constructor
  · exact fun ⟨h1, h2⟩ => ⟨hsub s h1, h2⟩
  · intro ⟨h1, h2⟩
    refine ⟨?_, h2⟩
    by_cases h : s ∈ kn
    · exact h
    · rw [him s h, eqB_strr] at h2
      cases h2
theorem res_mem {l : List Str} {im : Str → D} {p : Str × D} (h : p ∈ res l im) : p.1 ∈ l ∧ p.2 = im p.1 := by
  unfold res at h
  obtain ⟨s, hs, rfl⟩ := List.mem_map.mp h
  exact ⟨(List.mem_filter.mp hs).1, rfl⟩
theorem res_im {mn : List Str} {im : Str → D} (h : ∀ s, s ∉ mn → im s = .str s) (s : Str) : fil (lk (res (sn mn) im)) (.str s) = im s := by
  rw [fil_str]
  cases e : lk (res (sn mn) im) s with
  | some x =>
    have := res_mem (lk_mem e)
    exact this.2
  | none =>
    have hn := lk_none.mp e
    show D.str s = im s
    by_cases hs : s ∈ mn
    · cases hb : eqB (im s) (.str s) with
      | true => exact (eqB_str hb).symm
      | false =>
        refine absurd rfl (hn (s, im s) ?_)
        unfold res
        refine List.mem_map.mpr ⟨s, List.mem_filter.mpr ⟨sn_mem.mpr hs, ?_⟩, rfl⟩
        rw [hb]; rfl
    · exact (h s hs).symm
/-- six names for all -/
structure Nm (mn : List Str) : Prop where
  ok : ∀ s ∈ mn, SOk s
  nd : mn.Nodup
  len : mn.length = 6
/-- what two fillings do one after the other -/
def im2 (one two : List (Str × D)) (s : Str) : D := fil (lk two) (fil (lk one) (.str s))
def told (mn : List Str) (one two : List (Str × D)) : List (Str × D) := res (sn mn) (im2 one two)
theorem FOk.out {mn : List Str} {m : Nat} {P : List (Str × D)} (h : FOk mn m P) {s : Str} (hs : s ∉ mn) : fil (lk P) (.str s) = .str s := by
  rw [fil_str]
  have : lk P s = none := lk_none.mpr fun p hp e => hs (e ▸ (h.each p hp).1)
  rw [this]
  rfl
theorem im2_out {mn : List Str} {m k : Nat} {one two : List (Str × D)} (h1 : FOk mn m one) (h2 : FOk mn k two) {s : Str} (hs : s ∉ mn) : im2 one two s = .str s := by
  unfold im2
  rw [h1.out hs, h2.out hs]
theorem told_ok {mn : List Str} {m k : Nat} {one two : List (Str × D)} (hn : Nm mn) (h1 : FOk mn m one) (h2 : FOk mn k two) : FOk mn (m + k) (told mn one two) := by
  refine ⟨fun p hp => ?_, ?_⟩
  · obtain ⟨h3, h4⟩ := res_mem hp
    refine ⟨sn_mem.mp h3, ?_⟩
    rw [h4]
    have := ((Tm.var (n := 0) (hn.ok _ (sn_mem.mp h3))).fil (h1.pok hn.ok).lk).fil (h2.pok hn.ok).lk
    rw [Nat.zero_add] at this
    exact this
  · unfold told res
    rw [List.length_map]
    exact Nat.le_trans (List.length_filter_le _ _) (by rw [(sn_perm mn).length_eq, hn.len]; exact Nat.le_refl _)
theorem told_str {mn : List Str} {m k : Nat} {one two : List (Str × D)} (h1 : FOk mn m one) (h2 : FOk mn k two) (s : Str) : fil (lk (told mn one two)) (.str s) = fil (lk two) (fil (lk one) (.str s)) := res_im (fun s hs => im2_out h1 h2 hs) s
theorem told_fil {mn : List Str} {m k n : Nat} {one two : List (Str × D)} (h1 : FOk mn m one) (h2 : FOk mn k two) {d : D} (hd : Tm n d) : fil (lk (told mn one two)) d = fil (lk two) (fil (lk one) d) := fil_fil hd (told_str h1 h2)
theorem comp_told {mn : List Str} {m k : Nat} {one two : List (Str × D)} (hn : Nm mn) (h1 : FOk mn m one) (h2 : FOk mn k two) (b c : Bool) (hm : m < 24) (hmk : m + k < 50) : f_composed [asF b one, asF c two] = some (.tup ((told mn one two).map encP)) := by
  have hl : one.length + two.length ≤ 1000 := by have := h1.len; have := h2.len; omega
  obtain ⟨kn, nd, hk, e⟩ := composed_ok b c one two (h1.pok hn.ok) (h2.pok hn.ok) hl hm hmk
  rw [e]
  congr 3
  refine told_due nd hn.nd (fun s hs => ?_) fun s hs => ?_
  · obtain ⟨p, hp, rfl⟩ := (hk s).mp hs
    unfold both at hp
    rcases List.mem_append.mp hp with hp | hp
    · exact (h2.each p hp).1
    · obtain ⟨q, hq, rfl⟩ := List.mem_map.mp hp
      exact (h1.each q hq).1
  · have hb : ∀ p ∈ both one two, p.1 ≠ s := fun p hp e => hs ((hk s).mpr ⟨p, hp, e⟩)
    have n1 : lk one s = none := lk_none.mpr fun p hp e => hb (p.1, fil (lk two) p.2) (List.mem_append_right _ (List.mem_map.mpr ⟨p, hp, rfl⟩)) e
    have n2 : lk two s = none := lk_none.mpr fun p hp e => hb p (List.mem_append_left _ hp) e
    rw [fil_str, n1]
    show fil (lk two) (.str s) = _
    rw [fil_str, n2]
    rfl
theorem due2 {mn : List Str} {m : Nat} {one two : List (Str × D)} (hn : Nm mn) (h1 : FOk mn m one) (h2 : FOk mn m two) (hm : m < 12) : f_law_due [.lst (mn.map D.str), .lst [.lst (one.map encP), .lst (two.map encP)]] = some (.tup ((told mn one two).map encP)) := 
  due_ok mn [one, two] hn.ok (by rw [hn.len]; decide) (fun P hP => by
    rcases List.mem_cons.mp hP with rfl | hP
    · exact h1.pok hn.ok
    · have : P = two := by simpa using hP
      rw [this]; exact h2.pok hn.ok) (show m * 2 < 24 by omega)
theorem FOk.mono {mn : List Str} {m k : Nat} {P : List (Str × D)} (h : FOk mn m P) (hm : m ≤ k) : FOk mn k P := ⟨fun p hp => ⟨(h.each p hp).1, (h.each p hp).2.mono hm⟩, h.len⟩
theorem fil_nil (d : Str) : fil (lk []) (.str d) = .str d := by rw [fil_str]; rfl
theorem lk_nil : lk [] = fun _ => none := rfl
theorem FOk.nil {mn : List Str} {m : Nat} : FOk mn m [] := ⟨fun p hp => (by cases hp), Nat.zero_le _⟩
/-- one filling, without the variables that stand for themselves -/
theorem told_nil_l {mn : List Str} {two : List (Str × D)} : told mn [] two = res (sn mn) fun s => fil (lk two) (.str s) := by
  show res (sn mn) (im2 [] two) = _
  have : im2 [] two = fun s => fil (lk two) (.str s) := funext fun s => by
    unfold im2
    rw [fil_nil]
  rw [this]
theorem told_nil_r {mn : List Str} {m : Nat} {one : List (Str × D)} (hn : Nm mn) (h : FOk mn m one) : told mn one [] = res (sn mn) fun s => fil (lk one) (.str s) := by
  unfold told res
  have : ∀ s ∈ sn mn, im2 one [] s = fil (lk one) (.str s) := fun s hs => by
    unfold im2
    rw [lk_nil]
    exact fil_none ((Tm.var (n := 0) (hn.ok s (sn_mem.mp hs))).fil (h.pok hn.ok).lk)
  rw [List.filter_congr fun s hs => by rw [this s hs]]
  exact List.map_congr_left fun s hs => by rw [this s (List.mem_filter.mp hs).1]
theorem due1 {mn : List Str} {m : Nat} {one : List (Str × D)} (hn : Nm mn) (h1 : FOk mn m one) (hm : m < 24) : f_law_due [.lst (mn.map D.str), .lst [.lst (one.map encP)]] = some (.tup ((res (sn mn) fun s => fil (lk one) (.str s)).map encP)) :=
  due_ok mn [one] hn.ok (by rw [hn.len]; decide) (fun P hP => by
    have : P = one := by simpa using hP
    rw [this]; exact h1.pok hn.ok) (show m * 1 < 24 by omega)
def im3 (one two three : List (Str × D)) (s : Str) : D := fil (lk three) (fil (lk two) (fil (lk one) (.str s)))
theorem due3 {mn : List Str} {m : Nat} {one two three : List (Str × D)} (hn : Nm mn) (h1 : FOk mn m one) (h2 : FOk mn m two) (h3 : FOk mn m three) (hm : m < 8) : f_law_due [.lst (mn.map D.str), .lst [.lst (one.map encP), .lst (two.map encP), .lst (three.map encP)]] = some (.tup ((res (sn mn) (im3 one two three)).map encP)) :=
  due_ok mn [one, two, three] hn.ok (by rw [hn.len]; decide) (fun P hP => by
    rcases List.mem_cons.mp hP with rfl | hP
    · exact h1.pok hn.ok
    · rcases List.mem_cons.mp hP with rfl | hP
      · exact h2.pok hn.ok
      · have : P = three := by simpa using hP
        rw [this]; exact h3.pok hn.ok) (show m * 3 < 24 by omega)
theorem told_l {mn : List Str} {m k : Nat} {one two three : List (Str × D)} (h1 : FOk mn m one) (h2 : FOk mn k two) : told mn (told mn one two) three = res (sn mn) (im3 one two three) := by
  show res (sn mn) (im2 (told mn one two) three) = _
  congr 1
  funext s
  unfold im2 im3
  rw [told_str h1 h2]
theorem told_r {mn : List Str} {m k j : Nat} {one two three : List (Str × D)} (hn : Nm mn) (h1 : FOk mn m one) (h2 : FOk mn k two) (h3 : FOk mn j three) : told mn one (told mn two three) = res (sn mn) (im3 one two three) := by
  have : ∀ s ∈ sn mn, im2 one (told mn two three) s = im3 one two three s := fun s hs => by
    unfold im2 im3
    exact told_fil h2 h3 ((Tm.var (n := 0) (hn.ok s (sn_mem.mp hs))).fil (h1.pok hn.ok).lk)
  show res (sn mn) (im2 one (told mn two three)) = _
  unfold res
  rw [List.filter_congr fun s hs => by rw [this s hs]]
  exact List.map_congr_left fun s hs => by rw [this s (List.mem_filter.mp hs).1]
theorem FOk.okL {mn : List Str} {m : Nat} {P : List (Str × D)} (hn : Nm mn) (h : FOk mn m P) : ∀ d ∈ P.map encP, Okd (m + 1) d := fun d hd => by
  obtain ⟨p, hp, rfl⟩ := List.mem_map.mp hd
  refine okd_tup fun x hx => ?_
  rcases List.mem_cons.mp hx with rfl | hx
  · exact okd_str (hn.ok _ (h.each p hp).1)
  · have : x = p.2 := by simpa using hx
    rw [this]
    exact (h.each p hp).2.okd
theorem FOk.okt {mn : List Str} {m : Nat} {P : List (Str × D)} (hn : Nm mn) (h : FOk mn m P) : Okd (m + 2) (.tup (P.map encP)) := okd_tup (h.okL hn)
theorem FOk.okl {mn : List Str} {m : Nat} {P : List (Str × D)} (hn : Nm mn) (h : FOk mn m P) : Okd (m + 2) (.lst (P.map encP)) := okd_lst (h.okL hn)
/-! ### filled rightly -/
theorem fr_ok {mn : List Str} {n m k : Nat} {d : D} {F L T : List (Str × D)} (hn : Nm mn) (hd : Tm n d) (h1 : FOk mn m F) (h2 : FOk mn k L) (h3 : T.length ≤ 1000) (hT : fil (lk T) d = fil (lk L) (fil (lk F) d)) (hb : n + m + k < 24) :
    f_law_filled_rightly [d, .lst (F.map encP), .lst (L.map encP), .tup (T.map encP)] = some (.bl true) := by
  have hFl : F.length ≤ 1000 := by have := h1.len; omega
  have hLl : L.length ≤ 1000 := by have := h2.len; omega
  have e1 : f_fill_term [d, .lst (F.map encP)] = some (fil (lk F) d) := fill_term_ok hd (by omega) true F hFl
  have hd2 : Tm (n + m) (fil (lk F) d) := hd.fil (h1.pok hn.ok).lk
  have hd3 : Tm (n + m + k) (fil (lk L) (fil (lk F) d)) := hd2.fil (h2.pok hn.ok).lk
  have e2 := table_ok F hFl
  have e3 := fill_table_ok hd (by omega) F
  have e4 := table_ok L hLl
  have e5 := fill_table_ok hd2 (by omega) L
  have e6 : f_fill_term [fil (lk F) d, .tup (L.map encP)] = some (fil (lk L) (fil (lk F) d)) := fill_term_ok hd2 (by omega) false L hLl
  have e7 : f_fill_term [d, .tup (T.map encP)] = some (fil (lk T) d) := fill_term_ok hd (by omega) false T h3
  have e8 : f_fill_term [d, .lst []] = some (fil (lk []) d) := fill_term_ok hd (by omega) true [] (by decide)
  rw [lk_nil, fil_none hd] at e8
  rw [hT] at e7
  have n1 := ne_self (hd2.okd.mono (show n + m ≤ 60 by omega))
  have n2 := ne_self ((h1.okl hn).mono (show m + 2 ≤ 60 by omega))
  have n3 := ne_self (hd3.okd.mono (show n + m + k ≤ 60 by omega))
  have n4 := eq_self (hd3.okd.mono (show n + m + k ≤ 60 by omega))
  have n5 := eq_self (hd.okd.mono (show n ≤ 60 by omega))
  unfold f_law_filled_rightly m_law_filled_rightly
  simp [retF, nextM, listF, e1, e2, e3, e4, e5, e6, e7, e8, n1, n2, n3, n4, n5]
end My

set_option Elab.async false
set_option linter.all false
set_option maxRecDepth 100000
set_option maxHeartbeats 1000000
namespace My
open PySem PySem.Spec PyProof.Rows L2 Dl
theorem Nm.at {mn : List Str} (hn : Nm mn) {k : Nat} {i : Int} (hi : i = (k : Int)) (hk : k < 6) : atI (mn.map D.str) i = some (.str (mn.getD k "")) ∧ mn.getD k "" ∈ mn := by
  have hl := hn.len
  have hk2 : k < mn.length := by omega
  have e : mn.getD k "" = mn[k] := by rw [List.getD_eq_getElem?_getD, List.getElem?_eq_getElem hk2]; rfl
  rw [e]
  exact ⟨at_lit k hi (by simp [hk2]), List.getElem_mem hk2⟩
def ringM : En → Option Out := (seqM (setM 21 (bind2 (cI 2) (bind2 (nameV 1) (cI 8) ixD) addD))
    (seqM (setM 4 (asLst (lcM [12] (rngM1 (consM (nameV 21) nilM)) (bndN 12) yesM (tupM (consM (bind2 (nameV 3) (nameV 12) ixD) (consM (bind2 (nameV 3) (bind2 (bind2 (nameV 12) (cI 1) addD) (nameV 21) modD) ixD) nilM))))))
    (seqM (setOwnM 22 (lcM [12] (rngM1 (consM (nameV 21) nilM)) (bndN 12) yesM (tupM (consM (bind2 (nameV 3) (bind2 (bind2 (nameV 12) (cI 1) addD) (nameV 21) modD) ixD) (consM (bind2 (nameV 3) (nameV 12) ixD) nilM)))))
    (seqM (ifM (boolM (bind2 (bind2 (nameV 1) (cI 9) ixD) (nameV 21) (cmpD fun i j => decide (i < j)))) (setItM 22 (bind2 (nameV 1) (cI 9) ixD) (tupM (consM (bind2 (bind2 (nameR 22) (bind2 (nameV 1) (cI 9) ixD) ixD) (cI 0) ixD) (consM (bind2 (bind2 (bind2 (nameV 5) (lstM (consM (tupM (consM (cS "X") (consM (bind2 (nameV 3) (cI 0) ixD) nilM))) nilM)) addD) (cI 0) ixD) (cI 1) ixD) nilM)))) nextM)
    (frzM [22] (setM 5 (nameV 22)))))))
abbrev lawE (x0 : D) (row : List Int) (sy : D) (mn : List Str) (F L T : D) (x7 x8 x9 x10 x11 x12 x13 x14 x15 x16 x17 x18 x19 x20 x21 x22 : Option Sl) : En :=
  [some (.val x0), some (.val (.lst (row.map D.int))), some (.val sy), some (.val (.lst (mn.map D.str))), some (.val F), some (.val L), some (.val T), x7, x8, x9, x10, x11, x12, x13, x14, x15, x16, x17, x18, x19, x20, x21, x22]
theorem set_enc (P : List (Str × D)) (j : Nat) (p : Str × D) : (P.map encP).set j (encP p) = (P.set j p).map encP := by rw [List.map_set]
theorem ring_ok {x0 sy T : D} {row : List Int} {mn : List Str} {F L : List (Str × D)} (hn : Nm mn) (h : Fits row [10, 6, 4, 4, 4, 3, 362880, 4, 5, 7, 4]) (h1 : FOk mn 3 F) (h2 : FOk mn 2 L) :
    ∃ F' L' y21 y22, FOk mn 3 F' ∧ FOk mn 2 L' ∧ ifM (boolM (bind2 (bind2 (nameV 1) (cI 7) ixD) (cI 1) eqD)) ringM nextM (lawE x0 row sy mn (.lst (F.map encP)) (.lst (L.map encP)) T none none none none none none none none none none none none none none none none) =
      some (.nx (lawE x0 row sy mn (.lst (F'.map encP)) (.lst (L'.map encP)) T none none none none none none none none none none none none none none y21 y22)) := by
  obtain ⟨r7, a7, _, _⟩ := h.at 7 (i := 7) rfl rfl
  obtain ⟨r8, a8, p8, q8⟩ := h.at 8 (i := 8) rfl rfl
  obtain ⟨r9, a9, p9, q9⟩ := h.at 9 (i := 9) rfl rfl
  cases hc : r7 == 1 with
  | false => exact ⟨F, L, none, none, h1, h2, by simp [a7, eqI, hc, nextM]⟩
  | true =>
    obtain ⟨n, hn8⟩ := Int.eq_ofNat_of_zero_le (show 0 ≤ 2 + r8 by omega)
    have hn8 : 2 + r8 = (n : Int) := hn8
    have hnn : 2 ≤ n ∧ n ≤ 6 := by omega
    obtain ⟨j9, hj9⟩ := Int.eq_ofNat_of_zero_le p9
    have hj9 : r9 = (j9 : Int) := hj9
    have hr : (rngD 0 n).length ≤ 100000 := by rw [rng_len]; omega
    have hz : (n : Int) ≤ 1000000 ∧ -1000000 ≤ (n : Int) := by omega
    let P1 : List (Str × D) := (List.range n).map fun (k : Nat) => (mn.getD k "", .str (mn.getD ((k + 1) % n) ""))
    let P2 : List (Str × D) := (List.range n).map fun (k : Nat) => (mn.getD ((k + 1) % n) "", .str (mn.getD k ""))
    have mem1 : ∀ k, k < n → mn.getD k "" ∈ mn ∧ mn.getD ((k + 1) % n) "" ∈ mn := fun k hk => by
      have := Nat.mod_lt (k + 1) (show 0 < n by omega)
      exact ⟨(hn.at rfl (by omega)).2, (hn.at rfl (by omega)).2⟩
    have ok1 : FOk mn 3 P1 := ⟨fun p hp => by
      obtain ⟨k, hk, rfl⟩ := List.mem_map.mp hp
      have := mem1 k (List.mem_range.mp hk)
      exact ⟨this.1, .var (hn.ok _ this.2)⟩, by simp [P1]; omega⟩
    have ok2 : FOk mn 2 P2 := ⟨fun p hp => by
      obtain ⟨k, hk, rfl⟩ := List.mem_map.mp hp
      have := mem1 k (List.mem_range.mp hk)
      exact ⟨this.2, .var (hn.ok _ this.1)⟩, by simp [P2]; omega⟩
    have c1 : ∀ (x4 : D) (x12 x22 : Option Sl), compM (bndN 12) yesM (tupM (consM (bind2 (nameV 3) (nameV 12) ixD) (consM (bind2 (nameV 3) (bind2 (bind2 (nameV 12) (cI 1) addD) (nameV 21) modD) ixD) nilM))) (lawE x0 row sy mn x4 (.lst (L.map encP)) T none none none none none x12 none none none none none none none none (some (.val (.int (n : Int)))) x22) (rngD 0 n) = some (P1.map encP) := fun x4 x12 x22 => by
      rw [comp_rng (g := fun (k : Nat) => encP (mn.getD k "", .str (mn.getD ((k + 1) % n) ""))) fun k hk => ?_]
      · show _ = some (((List.range n).map _).map encP)
        rw [List.map_map]; rfl
      · have e1 := (hn.at (k := k) rfl (by omega)).1
        have e2 := (hn.at (k := (k + 1) % n) (i := ((k : Int) + 1) % (n : Int)) (by simp) (by have := Nat.mod_lt (k + 1) (show 0 < n by omega); omega)).1
        exact ⟨_, rfl, rfl, by simp [e1, e_mod (show (0 : Int) < (n : Int) by omega), e2, encP]⟩
    have c2 : ∀ (x4 : D) (x12 x22 : Option Sl), compM (bndN 12) yesM (tupM (consM (bind2 (nameV 3) (bind2 (bind2 (nameV 12) (cI 1) addD) (nameV 21) modD) ixD) (consM (bind2 (nameV 3) (nameV 12) ixD) nilM))) (lawE x0 row sy mn x4 (.lst (L.map encP)) T none none none none none x12 none none none none none none none none (some (.val (.int (n : Int)))) x22) (rngD 0 n) = some (P2.map encP) := fun x4 x12 x22 => by
      rw [comp_rng (g := fun (k : Nat) => encP (mn.getD ((k + 1) % n) "", .str (mn.getD k ""))) fun k hk => ?_]
      · show _ = some (((List.range n).map _).map encP)
        rw [List.map_map]; rfl
      · have e1 := (hn.at (k := k) rfl (by omega)).1
        have e2 := (hn.at (k := (k + 1) % n) (i := ((k : Int) + 1) % (n : Int)) (by simp) (by have := Nat.mod_lt (k + 1) (show 0 < n by omega); omega)).1
        exact ⟨_, rfl, rfl, by simp [e1, e_mod (show (0 : Int) < (n : Int) by omega), e2, encP]⟩
    have l2 : P2.length = n := by simp [P2]
    generalize P1 = Q1 at ok1 c1
    generalize P2 = Q2 at ok2 c2 l2
    obtain ⟨x, ex, hx1, hx2, hx3⟩ : ∃ x ex, Tm 2 x ∧ atI (L.map encP ++ [.tup [.str "X", .str (mn.getD 0 "")]]) 0 = some ex ∧ ixD ex (.int 1) = some x := by
      cases L with
      | nil => exact ⟨.str (mn.getD 0 ""), _, .var (hn.ok _ (hn.at rfl (by decide)).2), at_lit 0 rfl rfl, at_lit 1 rfl rfl⟩
      | cons p L => exact ⟨p.2, _, (h2.each p (List.mem_cons_self ..)).2, at_lit 0 rfl rfl, at_lit 1 rfl rfl⟩
    have hll : L.length + 1 ≤ 100000 := by have := h2.len; omega
    have n0 := (hn.at (k := 0) (i := 0) rfl (by decide)).1
    generalize mn.getD 0 "" = z0 at hx2 n0
    by_cases hj : j9 < n
    · have hjq : j9 < Q2.length := by omega
      have e1 : ixN Q2.length (j9 : Int) = some j9 := ixN_nat (by omega)
      have e2 : atI (Q2.map encP) (j9 : Int) = some (encP Q2[j9]) := atI_nat (by simp [hjq])
      have e3 : atI [D.str Q2[j9].1, Q2[j9].2] 0 = some (.str Q2[j9].1) := at_lit 0 rfl rfl
      refine ⟨Q1, Q2.set j9 (Q2[j9].1, x), some (.val (.int (n : Int))), some (.val (.lst ((Q2.set j9 (Q2[j9].1, x)).map encP))), ok1, ⟨fun p hp => ?_, by rw [List.length_set]; exact ok2.len⟩, ?_⟩
      · rcases List.mem_or_eq_of_mem_set hp with hp | rfl
        · exact ok2.each p hp
        · exact ⟨(ok2.each _ (List.getElem_mem (by omega))).1, hx1⟩
      · simp [encP] at e2
        simp [lawE] at c1 c2
        simp [ringM, a7, eqI, hc, a8, hn8, hz, c1, c2, hr, a9, hj9, hj, e2, e3, setItM, e1, n0, addD, hll, hx2, hx3, encP]
    · refine ⟨Q1, Q2, some (.val (.int (n : Int))), some (.val (.lst (Q2.map encP))), ok1, ok2, ?_⟩
      simp [lawE] at c1 c2
      simp [ringM, a7, eqI, hc, a8, hn8, hz, c1, c2, hr, a9, hj9, hj, nextM]
end My

set_option Elab.async false
set_option linter.all false
set_option maxRecDepth 100000
set_option maxHeartbeats 4000000
namespace My
open PySem PySem.Spec PyProof.Rows L2 Dl
theorem pairs_of {Q : Str × D → Prop} : ∀ {ys : List D}, (∀ y ∈ ys, ∃ p, y = encP p ∧ Q p) → ∃ P : List (Str × D), ys = P.map encP ∧ ∀ p ∈ P, Q p
  | [], _ => ⟨[], rfl, fun s hs => by cases hs⟩
  | y :: ys, h => by
    obtain ⟨s, rfl, hs⟩ := h y (List.mem_cons_self ..)
    obtain ⟨ls, rfl, hl⟩ := pairs_of fun y' hy => h y' (List.mem_cons_of_mem _ hy)
    refine ⟨s :: ls, rfl, fun t ht => ?_⟩
    rcases List.mem_cons.mp ht with rfl | ht
    · exact hs
    · exact hl t ht
theorem rep3 : mulD (.lst [.int 1200]) (.int 3) = some (.lst [.int 1200, .int 1200, .int 1200]) := rfl
abbrev sz15 : List Int := [60, 60, 60, 60, 60, 60, 60, 60, 60, 60, 60, 60, 60, 60, 60]
theorem rep15 : mulD (.lst [.int 60]) (.int 15) = some (.lst (sz15.map D.int)) := rfl
theorem fil_row {mn : List Str} {ts : List D} {n : Nat} (h : ∀ t ∈ ts, Tm n t) : ts.map (fil (lk [])) = ts := by
  rw [lk_nil]
  exact (List.map_congr_left (g := id) fun t ht => fil_none (h t ht)).trans (List.map_id ts)
theorem okd_row {ts : List D} {n : Nat} (h : ∀ t ∈ ts, Tm n t) : Okd (n + 1) (.tup ts) ∧ Okd (n + 1) (.lst ts) := ⟨okd_tup fun t ht => (h t ht).okd, okd_lst fun t ht => (h t ht).okd⟩
theorem series_loop (ns : List Int) {S : List Sy} (hS : SyOk S) {mn : List Str} (hn : Nm mn) {row : List Int} {F L T : D} {x7 x8 x9 x10 x21 x22 : Option Sl} (n : Nat) (hb : n ≤ 10) : ∃ (ts : List D) (y12 : Option Sl), ts.length = n ∧ (∀ t ∈ ts, Tm 3 t) ∧
    forM' (bndN 12) l1_law (rngD 0 n) (lawE (.scr (ns.map D.int)) row (.lst (S.map syE)) mn F L T x7 x8 x9 x10 (some (.own [])) none none none none none none none none none x21 x22) =
      some (.nx (lawE (.scr (ns.map D.int)) row (.lst (S.map syE)) mn F L T x7 x8 x9 x10 (some (.own ts)) y12 none none none none none none none none x21 x22)) := by
  obtain ⟨env', el, ts, y12, rfl, h1, h2⟩ := for_ok (bnd := bndN 12) (body := l1_law)
    (fun j env => ∃ (ts : List D) (y12 : Option Sl), env = lawE (.scr (ns.map D.int)) row (.lst (S.map syE)) mn F L T x7 x8 x9 x10 (some (.own ts)) y12 none none none none none none none none x21 x22 ∧ ts.length = j ∧ ∀ t ∈ ts, Tm 3 t)
    (ds := rngD 0 n) (env := lawE (.scr (ns.map D.int)) row (.lst (S.map syE)) mn F L T x7 x8 x9 x10 (some (.own [])) none none none none none none none none none x21 x22)
    ⟨[], none, rfl, rfl, fun a ha => by cases ha⟩ fun j d env hd ⟨ts, y12, he, h1, h2⟩ => by
      obtain ⟨hj, rfl⟩ := rng_get hd
      subst he
      obtain ⟨c', row', hc', hf', hd'⟩ := draw ns (19 + j) (by omega) (i := 19 + (j : Int)) (by omega) sz7 (by decide) (by decide)
      have hd' : f_law_digits [.int c', .lst [.int 1200, .int 1200, .int 1200, .int 1200, .int 1200, .int 1200, .int 1200]] = some (.lst (row'.map D.int)) := hd'
      obtain ⟨t, b, ht1, ht2⟩ := term_ok hS hn.ok (by rw [hn.len]; decide) row' 2 8 0 (by decide) (by omega)
      have ht1 : f_law_term [.lst (S.map syE), .lst (mn.map D.str), .lst (row'.map D.int), .int 0, .int 2] = some (.lst [t, .int (b : Int)]) := ht1
      have c0 : atI [t, D.int (b : Int)] 0 = some t := at_lit 0 rfl rfl
      have hlt : ts.length < 100000 := by omega
      refine ⟨_, _, rfl, ?_, ts ++ [t], some (.val (.int (j : Int))), rfl, by simp [h1], fun a ha => ?_⟩
      · simp [l1_law, lawE, hc', rep7, hd', ht1, c0, hlt]
      · rcases List.mem_append.mp ha with ha | ha
        · exact h2 a ha
        · have : a = t := by simpa using ha
          rw [this]; exact ht2
  rw [rng_len] at h1
  exact ⟨ts, y12, h1, h2, el⟩
theorem rightly_loop {mn : List Str} (hn : Nm mn) {x0 sy : D} {row : List Int} {F L T : List (Str × D)} (h1 : FOk mn 3 F) (h2 : FOk mn 2 L) (h3 : FOk mn 2 T) {x7 x9 x10 x11 x12 x21 x22 : Option Sl} : ∀ (ts : List D) (x13 : Option Sl), (∀ t ∈ ts, Tm 3 t) → ∃ y13,
    forM' (bndN 13) l2_law ts (lawE x0 row sy mn (.lst (F.map encP)) (.lst (L.map encP)) (.lst (T.map encP)) x7 (some (.val (.tup ((told mn F L).map encP)))) x9 x10 x11 x12 x13 none none none none none none none x21 x22) =
      some (.nx (lawE x0 row sy mn (.lst (F.map encP)) (.lst (L.map encP)) (.lst (T.map encP)) x7 (some (.val (.tup ((told mn F L).map encP)))) x9 x10 x11 x12 y13 none none none none none none none x21 x22))
  | [], x13, _ => ⟨x13, rfl⟩
  | t :: ts, x13, h => by
    obtain ⟨y13, e⟩ := rightly_loop hn (x0 := x0) (sy := sy) (row := row) h1 h2 h3 (x7 := x7) (x9 := x9) (x10 := x10) (x11 := x11) (x12 := x12) (x21 := x21) (x22 := x22) ts (some (.val t)) fun a ha => h a (List.mem_cons_of_mem _ ha)
    have ht := h t (List.mem_cons_self ..)
    have z1 := (told_ok hn h1 h2).len
    have z2 := (told_ok hn h2 h3).len
    have e1 := fr_ok hn ht h1 h2 (by omega) (told_fil h1 h2 ht) (by decide)
    have e2 := fr_ok hn ht h2 h3 (by omega) (told_fil h2 h3 ht) (by decide)
    have e3 : f_composed [.lst (L.map encP), .lst (T.map encP)] = some (.tup ((told mn L T).map encP)) := comp_told hn h2 h3 true true (by decide) (by decide)
    refine ⟨y13, ?_⟩
    rw [for_cons, ← e]
    simp [l2_law, lawE, e1, e2, e3, nextM]
end My

set_option Elab.async false
set_option linter.all false
set_option maxRecDepth 100000
set_option maxHeartbeats 2000000
/-! The mirrors' words opened one value at a time: what comes later waits until what comes first is a value. -/
namespace Dl
open PySem PySem.Spec PyProof.Rows L2
@[simp high] theorem g_seqM (m n : En → Option Out) (env : En) : seqM m n env = match m env with
  | some (.nx env') => n env'
  | some o => some o
  | none => none := by
  rw [e_seqM]
  cases h : m env with
  | none => rfl
  | some o => cases o <;> rfl
@[simp high] theorem g_setM (i : Nat) (m : En → Option D) (env : En) : setM i m env = match m env with
  | some d => some (.nx (env.set i (some (.val d))))
  | none => none := by
  rw [e_setM]; cases m env <;> rfl
@[simp high] theorem g_retM (m : En → Option D) (env : En) : retM m env = match m env with
  | some d => some (.rt d)
  | none => none := by
  rw [e_retM]; cases m env <;> rfl
@[simp high] theorem g_ifM (c : En → Option Bool) (m n : En → Option Out) (env : En) : ifM c m n env = match c env with
  | some true => m env
  | some false => n env
  | none => none := by
  rw [e_ifM]
  cases h : c env with
  | none => rfl
  | some b => cases b <;> rfl
@[simp high] theorem g_ifV (c : En → Option Bool) (m n : En → Option D) (env : En) : ifV c m n env = match c env with
  | some true => m env
  | some false => n env
  | none => none := by
  rw [e_ifV]
  cases h : c env with
  | none => rfl
  | some b => cases b <;> rfl
@[simp high] theorem g_boolM (m : En → Option D) (env : En) : boolM m env = match m env with
  | some d => bl1 d
  | none => none := by
  rw [e_boolM]; cases m env <;> rfl
@[simp high] theorem g_andM (m n : En → Option Bool) (env : En) : andM m n env = match m env with
  | some true => n env
  | some false => some false
  | none => none := by
  rw [e_andM]
  cases h : m env with
  | none => rfl
  | some b => cases b <;> rfl
@[simp high] theorem g_orM (m n : En → Option Bool) (env : En) : orM m n env = match m env with
  | some true => some true
  | some false => n env
  | none => none := by
  rw [e_orM]
  cases h : m env with
  | none => rfl
  | some b => cases b <;> rfl
@[simp high] theorem g_notM (m : En → Option Bool) (env : En) : notM m env = match m env with
  | some b => some (!b)
  | none => none := by
  rw [e_notM]; cases m env <;> rfl
@[simp high] theorem g_andV (m n : En → Option D) (env : En) : andV m n env = match m env with
  | some (.bl true) => n env
  | some (.bl false) => some (.bl false)
  | _ => none := by
  rw [e_andV]
  cases h : m env with
  | none => rfl
  | some d => cases d with
    | bl b => cases b <;> rfl
    | _ => rfl
@[simp high] theorem g_orV (m n : En → Option D) (env : En) : orV m n env = match m env with
  | some (.bl true) => some (.bl true)
  | some (.bl false) => n env
  | _ => none := by
  rw [e_orV]
  cases h : m env with
  | none => rfl
  | some d => cases d with
    | bl b => cases b <;> rfl
    | _ => rfl
@[simp high] theorem g_bind2 (a b : En → Option D) (f : D → D → Option D) (env : En) : bind2 a b f env = match a env with
  | some d => (match b env with
    | some e => f d e
    | none => none)
  | none => none := by
  rw [e_bind2]
  cases a env with
  | none => rfl
  | some d => cases b env <;> rfl
@[simp high] theorem g_consM (m : En → Option D) (ms : En → Option (List D)) (env : En) : consM m ms env = match m env with
  | some d => (match ms env with
    | some ds => some (d :: ds)
    | none => none)
  | none => none := by
  rw [e_consM]
  cases m env with
  | none => rfl
  | some d => cases ms env <;> rfl
@[simp high] theorem g_callM (f : List D → Option D) (ms : En → Option (List D)) (env : En) : callM f ms env = match ms env with
  | some ds => f ds
  | none => none := by
  rw [e_callM]; cases ms env <;> rfl
@[simp high] theorem g_tupM (ms : En → Option (List D)) (env : En) : tupM ms env = match ms env with
  | some ds => if ds.length ≤ 100000 then some (.tup ds) else none
  | none => none := by
  rw [e_tupM]; cases ms env <;> rfl
@[simp high] theorem g_lstM (ms : En → Option (List D)) (env : En) : lstM ms env = match ms env with
  | some ds => if ds.length ≤ 100000 then some (.lst ds) else none
  | none => none := by
  rw [e_lstM]; cases ms env <;> rfl
@[simp high] theorem g_asLst (ms : En → Option (List D)) (env : En) : asLst ms env = match ms env with
  | some ds => some (.lst ds)
  | none => none := by
  rw [e_asLst]; cases ms env <;> rfl
@[simp high] theorem g_lcM (vs : List Nat) (mi : En → Option (List D)) (bnd : D → En → Option En) (tst : En → Option Bool) (elt : En → Option D) (env : En) : lcM vs mi bnd tst elt env = match mi env with
  | some ds => if ds.length ≤ 100000 then compM bnd tst elt (wipeE env vs) ds else none
  | none => none := by
  rw [e_lcM]; cases mi env <;> rfl
@[simp high] theorem g_forM (mi : En → Option (List D)) (bnd : D → En → Option En) (body : En → Option Out) (env : En) : forM mi bnd body env = match mi env with
  | some ds => forM' bnd body ds env
  | none => none := by
  rw [e_forM]; cases mi env <;> rfl
@[simp high] theorem g_listF (ms : En → Option (List D)) (env : En) : listF ms env = match ms env with
  | some ds => listD ds
  | none => none := by
  show (ms env).bind listD = _
  cases ms env <;> rfl
end Dl

set_option Elab.async false
set_option linter.all false
set_option maxRecDepth 100000
set_option maxHeartbeats 0
namespace My
open PySem PySem.Spec PyProof.Rows L2 Dl
def tailM : En → Option Out :=
    (seqM (setM 7 (lstM (consM (asLst (listF (consM (nameV 4) nilM))) (consM (asLst (listF (consM (nameV 5) nilM))) nilM))))
    (seqM (setM 8 (callM f_composed (consM (bind2 (nameV 7) (cI 0) ixD) (consM (bind2 (nameV 7) (cI 1) ixD) nilM))))
    (seqM (setM 9 (callM f_law_due (consM (nameV 3) (consM (lstM (consM (nameV 4) (consM (nameV 5) nilM))) nilM))))
    (seqM (ifM (orM (boolM (bind2 (nameV 8) (nameV 9) neD)) (orM (boolM (bind2 (callM f_composed (consM (callM tupleD (consM (nameV 4) nilM)) (consM (callM tupleD (consM (nameV 5) nilM)) nilM))) (nameV 9) neD)) (boolM (bind2 (nameV 7) (lstM (consM (nameV 4) (consM (nameV 5) nilM))) neD)))) (retF (cB false)) nextM)
    (seqM (ifM (orM (boolM (bind2 (callM f_composed (consM (lstM nilM) (consM (nameV 5) nilM))) (callM f_law_due (consM (nameV 3) (consM (lstM (consM (nameV 5) nilM)) nilM))) neD)) (boolM (bind2 (callM f_composed (consM (nameV 4) (consM (tupM nilM) nilM))) (callM f_law_due (consM (nameV 3) (consM (lstM (consM (nameV 4) nilM)) nilM))) neD))) (retF (cB false)) nextM)
    (seqM (setM 10 (callM f_law_due (consM (nameV 3) (consM (lstM (consM (nameV 4) (consM (nameV 5) (consM (nameV 6) nilM)))) nilM))))
    (seqM (ifM (orM (boolM (bind2 (callM f_composed (consM (nameV 8) (consM (nameV 6) nilM))) (nameV 10) neD)) (boolM (bind2 (callM f_composed (consM (nameV 4) (consM (callM f_composed (consM (nameV 5) (consM (nameV 6) nilM))) nilM))) (nameV 10) neD))) (retF (cB false)) nextM)
    (seqM (setOwnM 11 (lstF nilM))
    (seqM (forM (rngM1 (consM (bind2 (cI 1) (bind2 (nameV 1) (cI 10) ixD) addD) nilM)) (bndN 12) l1_law)
    (seqM (frzM [11] (forM (itemsA (nameV 11)) (bndN 13) l2_law))
    (seqM (setM 14 (bind2 (callM f_law_term (consM (nameV 2) (consM (nameV 3) (consM (callM f_law_digits (consM (callM f_law_cell (consM (nameV 0) (consM (cI 23) nilM))) (consM (bind2 (lstM (consM (cI 1200) nilM)) (cI 3) mulD) nilM))) (consM (cI 0) (consM (cI 1) nilM)))))) (cI 0) ixD))
    (seqM (setM 15 (callM f_law_full (consM (nameV 2) (consM (nameV 3) (consM (callM f_law_digits (consM (callM f_law_cell (consM (nameV 0) (consM (cI 24) nilM))) (consM (bind2 (lstM (consM (cI 60) nilM)) (cI 15) mulD) nilM))) (consM (cI 0) (consM (cI 3) nilM)))))))
    (seqM (setM 16 (asLst (lcM [12] (rngM1 (consM (cI 3) nilM)) (bndN 12) yesM (tupM (consM (bind2 (nameV 3) (nameV 12) ixD) (consM (callM f_law_full (consM (nameV 2) (consM (nameV 3) (consM (callM f_law_digits (consM (callM f_law_cell (consM (nameV 0) (consM (bind2 (cI 25) (nameV 12) addD) nilM))) (consM (bind2 (lstM (consM (cI 60) nilM)) (cI 15) mulD) nilM))) (consM (cI 0) (consM (cI 3) nilM)))))) nilM))))))
    (seqM (setM 17 (callM f_law_fill (consM (nameV 15) (consM (callM f_law_table (consM (nameV 16) nilM)) nilM))))
    (seqM (ifM (orM (boolM (bind2 (callM f_fill_term (consM (nameV 15) (consM (nameV 16) nilM))) (nameV 17) neD)) (boolM (bind2 (callM f_fill_row (consM (lstM (consM (nameV 14) (consM (nameV 15) nilM))) (consM (nameV 16) nilM))) (tupM (consM (callM f_law_fill (consM (nameV 14) (consM (callM f_law_table (consM (nameV 16) nilM)) nilM))) (consM (nameV 17) nilM))) neD))) (retF (cB false)) nextM)
    (seqM (ifM (boolM (bind2 (callM f_composed (consM (lstM (consM (tupM (consM (bind2 (nameV 3) (cI 5) ixD) (consM (nameV 15) nilM))) nilM)) (consM (nameV 16) nilM))) (callM f_law_due (consM (nameV 3) (consM (lstM (consM (lstM (consM (tupM (consM (bind2 (nameV 3) (cI 5) ixD) (consM (nameV 15) nilM))) nilM)) (consM (nameV 16) nilM))) nilM))) neD)) (retF (cB false)) nextM)
    (seqM (setM 18 (callM f_law_fill (consM (callM f_law_fill (consM (callM f_law_fill (consM (nameV 14) (consM (callM f_law_table (consM (nameV 4) nilM)) nilM))) (consM (callM f_law_table (consM (nameV 5) nilM)) nilM))) (consM (callM f_law_table (consM (nameV 6) nilM)) nilM))))
    (seqM (ifM (orM (boolM (bind2 (callM f_fill_term (consM (callM f_fill_term (consM (callM f_fill_term (consM (nameV 14) (consM (nameV 4) nilM))) (consM (nameV 5) nilM))) (consM (nameV 6) nilM))) (nameV 18) neD)) (boolM (bind2 (callM f_fill_term (consM (nameV 14) (consM (nameV 10) nilM))) (nameV 18) neD))) (retF (cB false)) nextM)
    (seqM (setM 19 (callM tupleD (consM (asLst (lcM [13] (itemsA (nameR 11)) (bndN 13) yesM (callM f_law_fill (consM (nameV 13) (consM (callM f_law_table (consM (nameV 4) nilM)) nilM))))) nilM)))
    (seqM (setM 20 (asLst (listF (consM (nameR 11) nilM))))
    (seqM (ifM (orM (boolM (bind2 (callM f_fill_row (consM (nameV 20) (consM (bind2 (nameV 7) (cI 0) ixD) nilM))) (nameV 19) neD)) (orM (boolM (bind2 (callM f_fill_row (consM (callM tupleD (consM (nameR 11) nilM)) (consM (callM tupleD (consM (nameV 4) nilM)) nilM))) (nameV 19) neD)) (boolM (bind2 (callM f_fill_row (consM (nameV 20) (consM (tupM nilM) nilM))) (callM tupleD (consM (nameR 11) nilM)) neD)))) (retF (cB false)) nextM)
    (seqM (ifM (orM (boolM (bind2 (callM f_fill_row (consM (nameV 20) (consM (nameV 8) nilM))) (callM f_fill_row (consM (nameV 19) (consM (nameV 5) nilM))) neD)) (boolM (bind2 (callM f_fill_row (consM (nameV 19) (consM (nameV 5) nilM))) (callM tupleD (consM (asLst (lcM [13] (itemsA (nameV 19)) (bndN 13) yesM (callM f_law_fill (consM (nameV 13) (consM (callM f_law_table (consM (nameV 5) nilM)) nilM))))) nilM)) neD))) (retF (cB false)) nextM)
    (retF (andV (bind2 (nameV 20) (nameR 11) eqD) (andV (bind2 (nameV 7) (lstM (consM (nameV 4) (consM (nameV 5) nilM))) eqD) (bind2 (callM f_composed (consM (nameV 4) (consM (nameV 5) nilM))) (nameV 9) eqD))))))))))))))))))))))))))
theorem law_split : m_law = (seqM (setM 1 (callM f_law_digits (consM (callM f_law_cell (consM (nameV 0) (consM (cI 0) nilM))) (consM (lstM (consM (cI 10) (consM (cI 6) (consM (cI 4) (consM (cI 4) (consM (cI 4) (consM (cI 3) (consM (cI 362880) (consM (cI 4) (consM (cI 5) (consM (cI 7) (consM (cI 4) nilM)))))))))))) nilM))))
    (seqM (setM 2 (callM f_law_symbols (consM (nameV 1) (consM (callM f_law_labels (consM (callM f_law_digits (consM (callM f_law_cell (consM (nameV 0) (consM (cI 60) nilM))) (consM (lstM (consM (cI 3) (consM (cI 8) (consM (cI 8) (consM (cI 26) (consM (bind2 (cI 36) (cI 7) powD) nilM)))))) nilM))) nilM)) nilM))))
    (seqM (setM 3 (callM f_law_menu (consM (callM f_law_digits (consM (callM f_law_cell (consM (nameV 0) (consM (cI 61) nilM))) (consM (lstM (consM (cI 3) (consM (cI 8) (consM (cI 26) (consM (cI 6) (consM (cI 100000) nilM)))))) nilM))) (consM (cI 6) nilM))))
    (seqM (setM 4 (callM f_law_filling (consM (nameV 0) (consM (cI 1) (consM (nameV 2) (consM (nameV 3) (consM (cI 2) nilM)))))))
    (seqM (setM 5 (callM f_law_filling (consM (nameV 0) (consM (cI 7) (consM (nameV 2) (consM (nameV 3) (consM (cI 1) nilM)))))))
    (seqM (setM 6 (callM f_law_filling (consM (nameV 0) (consM (cI 13) (consM (nameV 2) (consM (nameV 3) (consM (cI 1) nilM)))))))
    (seqM (ifM (boolM (bind2 (bind2 (nameV 1) (cI 7) ixD) (cI 1) eqD)) ringM nextM)
    tailM))))))) := rfl
theorem tail_ok (ns : List Int) {S : List Sy} (hS : SyOk S) {mn : List Str} (hn : Nm mn) {row : List Int} (hf : Fits row [10, 6, 4, 4, 4, 3, 362880, 4, 5, 7, 4]) {F L T : List (Str × D)} (h1 : FOk mn 3 F) (h2 : FOk mn 2 L) (h3 : FOk mn 2 T) (x21 x22 : Option Sl) :
    tailM (lawE (.scr (ns.map D.int)) row (.lst (S.map syE)) mn (.lst (F.map encP)) (.lst (L.map encP)) (.lst (T.map encP)) none none none none none none none none none none none none none none x21 x22) = some (.rt (.bl true)) := by
  have hFl : F.length ≤ 1000 := by have := h1.len; omega
  have hLl : L.length ≤ 1000 := by have := h2.len; omega
  have hTl : T.length ≤ 1000 := by have := h3.len; omega
  have t12 := told_ok hn h1 h2
  have t23 := told_ok hn h2 h3
  have h2' := h2.mono (show 2 ≤ 3 by decide)
  have h3' := h3.mono (show 2 ≤ 3 by decide)
  -- composed and what is due
  have c12 : f_composed [.lst (F.map encP), .lst (L.map encP)] = some (.tup ((told mn F L).map encP)) := comp_told hn h1 h2 true true (by decide) (by decide)
  have c12t : f_composed [.tup (F.map encP), .tup (L.map encP)] = some (.tup ((told mn F L).map encP)) := comp_told hn h1 h2 false false (by decide) (by decide)
  have c23 : f_composed [.lst (L.map encP), .lst (T.map encP)] = some (.tup ((told mn L T).map encP)) := comp_told hn h2 h3 true true (by decide) (by decide)
  have d12 := due2 hn h1 h2' (by decide)
  have cl : f_composed [.lst [], .lst (L.map encP)] = some (.tup ((told mn [] L).map encP)) := comp_told (m := 0) hn .nil h2 true true (by decide) (by decide)
  rw [told_nil_l] at cl
  have cr : f_composed [.lst (F.map encP), .tup []] = some (.tup ((told mn F []).map encP)) := comp_told (k := 0) hn h1 .nil true false (by decide) (by decide)
  rw [told_nil_r hn h1] at cr
  have dl := due1 hn h2 (by decide)
  have dr := due1 hn h1 (by decide)
  have okl : Okd 6 (.tup ((res (sn mn) fun s => fil (lk L) (.str s)).map encP)) := by
    rw [← told_nil_l]; exact ((told_ok (m := 0) hn .nil h2).okt hn).mono (by decide)
  have okr : Okd 6 (.tup ((res (sn mn) fun s => fil (lk F) (.str s)).map encP)) := by
    rw [← told_nil_r hn h1]; exact ((told_ok (k := 0) hn h1 .nil).okt hn).mono (by decide)
  have d3 := due3 hn h1 h2' h3' (by decide)
  have cw1 : f_composed [.tup ((told mn F L).map encP), .lst (T.map encP)] = some (.tup ((told mn (told mn F L) T).map encP)) := comp_told hn t12 h3 false true (by decide) (by decide)
  rw [told_l h1 h2] at cw1
  have cw2 : f_composed [.lst (F.map encP), .tup ((told mn L T).map encP)] = some (.tup ((told mn F (told mn L T)).map encP)) := comp_told hn h1 t23 true false (by decide) (by decide)
  rw [told_r hn h1 h2 h3] at cw2
  have tw : FOk mn 7 (res (sn mn) (im3 F L T)) := by
    have := told_ok hn t12 h3
    rw [told_l h1 h2] at this
    exact this
  have n12 := ne_self ((t12.okt hn).mono (show 3 + 2 + 2 ≤ 60 by decide))
  have q12 := eq_self ((t12.okt hn).mono (show 3 + 2 + 2 ≤ 60 by decide))
  have nw := ne_self ((tw.okt hn).mono (show 7 + 2 ≤ 60 by decide))
  have nl := ne_self (okl.mono (show 6 ≤ 60 by decide))
  have nr := ne_self (okr.mono (show 6 ≤ 60 by decide))
  have okh : Okd 60 (.lst [.lst (F.map encP), .lst (L.map encP)]) := (okd_lst (n := 5) fun d hd => by
    rcases List.mem_cons.mp hd with rfl | hd
    · exact (h1.okl hn).mono (by decide)
    · have : d = .lst (L.map encP) := by simpa using hd
      rw [this]; exact (h2.okl hn).mono (by decide)).mono (by decide)
  have nh := ne_self okh
  have qh := eq_self okh
  have i0 : atI [D.lst (F.map encP), D.lst (L.map encP)] 0 = some (.lst (F.map encP)) := at_lit 0 rfl rfl
  have i1 : atI [D.lst (F.map encP), D.lst (L.map encP)] 1 = some (.lst (L.map encP)) := at_lit 1 rfl rfl
  -- the terms
  obtain ⟨r10, a10, p10, q10⟩ := hf.at 10 (i := 10) rfl rfl
  obtain ⟨n, hnn⟩ := Int.eq_ofNat_of_zero_le (show 0 ≤ 1 + r10 by omega)
  have hnn : 1 + r10 = (n : Int) := hnn
  have hz : (n : Int) ≤ 1000000 ∧ -1000000 ≤ (n : Int) := by omega
  obtain ⟨ts, y12, hts1, hts2, el⟩ := series_loop ns hS hn (row := row) (F := .lst (F.map encP)) (L := .lst (L.map encP)) (T := .lst (T.map encP)) (x7 := some (.val (.lst [.lst (F.map encP), .lst (L.map encP)]))) (x8 := some (.val (.tup ((told mn F L).map encP)))) (x9 := some (.val (.tup ((told mn F L).map encP)))) (x10 := some (.val (.tup ((res (sn mn) (im3 F L T)).map encP)))) (x21 := x21) (x22 := x22) n (by omega)
  obtain ⟨y13, er⟩ := rightly_loop hn (x0 := .scr (ns.map D.int)) (sy := .lst (S.map syE)) (row := row) h1 h2 h3 (x7 := some (.val (.lst [.lst (F.map encP), .lst (L.map encP)]))) (x9 := some (.val (.tup ((told mn F L).map encP)))) (x10 := some (.val (.tup ((res (sn mn) (im3 F L T)).map encP)))) (x11 := some (.val (.lst ts))) (x12 := y12) (x21 := x21) (x22 := x22) ts none hts2
  obtain ⟨k23, w23, b1, b2, b3⟩ := draw ns 23 (by decide) (i := 23) rfl [1200, 1200, 1200] (by decide) (by decide)
  have b3 : f_law_digits [.int k23, .lst [.int 1200, .int 1200, .int 1200]] = some (.lst (w23.map D.int)) := b3
  obtain ⟨sm, bs, g1, hsm⟩ := term_ok hS hn.ok (by rw [hn.len]; decide) w23 1 8 0 (by decide) (by omega)
  have g1 : f_law_term [.lst (S.map syE), .lst (mn.map D.str), .lst (w23.map D.int), .int 0, .int 1] = some (.lst [sm, .int (bs : Int)]) := g1
  have g0 : atI [sm, D.int (bs : Int)] 0 = some sm := at_lit 0 rfl rfl
  obtain ⟨k24, w24, b4, b5, b6⟩ := draw ns 24 (by decide) (i := 24) rfl sz15 (by decide) (by decide)
  obtain ⟨la, g2, hla⟩ := full_ok hS hn.ok (by rw [hn.len]; decide) w24 (by rw [b5.len]; rfl) 3 8 0 (by decide) (by decide)
  have g2 : f_law_full [.lst (S.map syE), .lst (mn.map D.str), .lst (w24.map D.int), .int 0, .int 3] = some la := g2
  have hwide : ∀ x7 x8 x9 x10 x11 x13 x14 x15 x16, ∃ W : List (Str × D), (∀ p ∈ W, p.1 ∈ mn ∧ Tm 3 p.2) ∧ W.length = 3 ∧ compM (bndN 12) yesM (tupM (consM (bind2 (nameV 3) (nameV 12) ixD) (consM (callM f_law_full (consM (nameV 2) (consM (nameV 3) (consM (callM f_law_digits (consM (callM f_law_cell (consM (nameV 0) (consM (bind2 (cI 25) (nameV 12) addD) nilM))) (consM (bind2 (lstM (consM (cI 60) nilM)) (cI 15) mulD) nilM))) (consM (cI 0) (consM (cI 3) nilM)))))) nilM)))
      (lawE (.scr (ns.map D.int)) row (.lst (S.map syE)) mn (.lst (F.map encP)) (.lst (L.map encP)) (.lst (T.map encP)) x7 x8 x9 x10 x11 none x13 x14 x15 x16 none none none none x21 x22) (rngD 0 3) = some (W.map encP) := fun x7 x8 x9 x10 x11 x13 x14 x15 x16 => by
    obtain ⟨ys, e1, e2, e3⟩ := comp_ex (bnd := bndN 12) (tst := yesM) (elt := tupM (consM (bind2 (nameV 3) (nameV 12) ixD) (consM (callM f_law_full (consM (nameV 2) (consM (nameV 3) (consM (callM f_law_digits (consM (callM f_law_cell (consM (nameV 0) (consM (bind2 (cI 25) (nameV 12) addD) nilM))) (consM (bind2 (lstM (consM (cI 60) nilM)) (cI 15) mulD) nilM))) (consM (cI 0) (consM (cI 3) nilM)))))) nilM)))
      (env := lawE (.scr (ns.map D.int)) row (.lst (S.map syE)) mn (.lst (F.map encP)) (.lst (L.map encP)) (.lst (T.map encP)) x7 x8 x9 x10 x11 none x13 x14 x15 x16 none none none none x21 x22) (P := fun y => ∃ p, y = encP p ∧ (p.1 ∈ mn ∧ Tm 3 p.2)) (ds := rngD 0 3) fun d hd => by
        obtain ⟨k, hk, rfl⟩ := rng_mem hd
        obtain ⟨kc, wc, f1, f2, f3⟩ := draw ns (25 + k) (by omega) (i := 25 + (k : Int)) (by omega) sz15 (by decide) (by decide)
        obtain ⟨t, f4, f5⟩ := full_ok hS hn.ok (by rw [hn.len]; decide) wc (by rw [f2.len]; rfl) 3 8 0 (by decide) (by decide)
        have f4 : f_law_full [.lst (S.map syE), .lst (mn.map D.str), .lst (wc.map D.int), .int 0, .int 3] = some t := f4
        obtain ⟨f6, f7⟩ := hn.at (k := k) rfl (by omega)
        generalize mn.getD k "" = nk at f6 f7
        refine ⟨_, _, rfl, rfl, ?_, (nk, t), rfl, f7, f5⟩
        simp [lawE, f6, f1, rep15, f4, encP]
        simp at f3
        simp [f3, f4]
    obtain ⟨W, rfl, hW⟩ := pairs_of e3
    rw [rng_len, List.length_map] at e2
    exact ⟨W, hW, e2, e1⟩
  have g24 : f_law_digits [.int k24, .lst (sz15.map D.int)] = some (.lst (w24.map D.int)) := b6
  simp at g24
  unfold tailM
  refine (seq_nx (env' := lawE (.scr (ns.map D.int)) row (.lst (S.map syE)) mn (.lst (F.map encP)) (.lst (L.map encP)) (.lst (T.map encP)) (some (.val (.lst [.lst (F.map encP), .lst (L.map encP)]))) none none none none none none none none none none none none none x21 x22) ?_).trans ?_
  · simp [lawE, nextM]
  refine (seq_nx (env' := lawE (.scr (ns.map D.int)) row (.lst (S.map syE)) mn (.lst (F.map encP)) (.lst (L.map encP)) (.lst (T.map encP)) (some (.val (.lst [.lst (F.map encP), .lst (L.map encP)]))) (some (.val (.tup ((told mn F L).map encP)))) none none none none none none none none none none none none x21 x22) ?_).trans ?_
  · simp [lawE, nextM, i0, i1, c12]
  refine (seq_nx (env' := lawE (.scr (ns.map D.int)) row (.lst (S.map syE)) mn (.lst (F.map encP)) (.lst (L.map encP)) (.lst (T.map encP)) (some (.val (.lst [.lst (F.map encP), .lst (L.map encP)]))) (some (.val (.tup ((told mn F L).map encP)))) (some (.val (.tup ((told mn F L).map encP)))) none none none none none none none none none none none x21 x22) ?_).trans ?_
  · simp [lawE, nextM, d12]
  refine (seq_nx (env' := lawE (.scr (ns.map D.int)) row (.lst (S.map syE)) mn (.lst (F.map encP)) (.lst (L.map encP)) (.lst (T.map encP)) (some (.val (.lst [.lst (F.map encP), .lst (L.map encP)]))) (some (.val (.tup ((told mn F L).map encP)))) (some (.val (.tup ((told mn F L).map encP)))) none none none none none none none none none none none x21 x22) ?_).trans ?_
  · simp [lawE, nextM, n12, c12t, nh]
  refine (seq_nx (env' := lawE (.scr (ns.map D.int)) row (.lst (S.map syE)) mn (.lst (F.map encP)) (.lst (L.map encP)) (.lst (T.map encP)) (some (.val (.lst [.lst (F.map encP), .lst (L.map encP)]))) (some (.val (.tup ((told mn F L).map encP)))) (some (.val (.tup ((told mn F L).map encP)))) none none none none none none none none none none none x21 x22) ?_).trans ?_
  · simp [lawE, nextM, cl, dl, nl, cr, dr, nr]
  refine (seq_nx (env' := lawE (.scr (ns.map D.int)) row (.lst (S.map syE)) mn (.lst (F.map encP)) (.lst (L.map encP)) (.lst (T.map encP)) (some (.val (.lst [.lst (F.map encP), .lst (L.map encP)]))) (some (.val (.tup ((told mn F L).map encP)))) (some (.val (.tup ((told mn F L).map encP)))) (some (.val (.tup ((res (sn mn) (im3 F L T)).map encP)))) none none none none none none none none none none x21 x22) ?_).trans ?_
  · simp [lawE, nextM, d3]
  refine (seq_nx (env' := lawE (.scr (ns.map D.int)) row (.lst (S.map syE)) mn (.lst (F.map encP)) (.lst (L.map encP)) (.lst (T.map encP)) (some (.val (.lst [.lst (F.map encP), .lst (L.map encP)]))) (some (.val (.tup ((told mn F L).map encP)))) (some (.val (.tup ((told mn F L).map encP)))) (some (.val (.tup ((res (sn mn) (im3 F L T)).map encP)))) none none none none none none none none none none x21 x22) ?_).trans ?_
  · simp [lawE, nextM, cw1, nw, c23, cw2]
  refine (seq_nx (env' := lawE (.scr (ns.map D.int)) row (.lst (S.map syE)) mn (.lst (F.map encP)) (.lst (L.map encP)) (.lst (T.map encP)) (some (.val (.lst [.lst (F.map encP), .lst (L.map encP)]))) (some (.val (.tup ((told mn F L).map encP)))) (some (.val (.tup ((told mn F L).map encP)))) (some (.val (.tup ((res (sn mn) (im3 F L T)).map encP)))) (some (.own [])) none none none none none none none none none x21 x22) ?_).trans ?_
  · simp [lawE, nextM, lstF]
  refine (seq_nx (env' := lawE (.scr (ns.map D.int)) row (.lst (S.map syE)) mn (.lst (F.map encP)) (.lst (L.map encP)) (.lst (T.map encP)) (some (.val (.lst [.lst (F.map encP), .lst (L.map encP)]))) (some (.val (.tup ((told mn F L).map encP)))) (some (.val (.tup ((told mn F L).map encP)))) (some (.val (.tup ((res (sn mn) (im3 F L T)).map encP)))) (some (.own ts)) y12 none none none none none none none none x21 x22) ?_).trans ?_
  · simp [lawE] at el
    simp [lawE, a10, hnn, hz, el]
  refine (seq_nx (env' := lawE (.scr (ns.map D.int)) row (.lst (S.map syE)) mn (.lst (F.map encP)) (.lst (L.map encP)) (.lst (T.map encP)) (some (.val (.lst [.lst (F.map encP), .lst (L.map encP)]))) (some (.val (.tup ((told mn F L).map encP)))) (some (.val (.tup ((told mn F L).map encP)))) (some (.val (.tup ((res (sn mn) (im3 F L T)).map encP)))) (some (.val (.lst ts))) y12 y13 none none none none none none none x21 x22) ?_).trans ?_
  · simp [lawE] at er
    simp [lawE, er]
  refine (seq_nx (env' := lawE (.scr (ns.map D.int)) row (.lst (S.map syE)) mn (.lst (F.map encP)) (.lst (L.map encP)) (.lst (T.map encP)) (some (.val (.lst [.lst (F.map encP), .lst (L.map encP)]))) (some (.val (.tup ((told mn F L).map encP)))) (some (.val (.tup ((told mn F L).map encP)))) (some (.val (.tup ((res (sn mn) (im3 F L T)).map encP)))) (some (.val (.lst ts))) y12 y13 (some (.val (sm))) none none none none none none x21 x22) ?_).trans ?_
  · simp [lawE, nextM, b1, rep3, b3, g1, g0]
  refine (seq_nx (env' := lawE (.scr (ns.map D.int)) row (.lst (S.map syE)) mn (.lst (F.map encP)) (.lst (L.map encP)) (.lst (T.map encP)) (some (.val (.lst [.lst (F.map encP), .lst (L.map encP)]))) (some (.val (.tup ((told mn F L).map encP)))) (some (.val (.tup ((told mn F L).map encP)))) (some (.val (.tup ((res (sn mn) (im3 F L T)).map encP)))) (some (.val (.lst ts))) y12 y13 (some (.val (sm))) (some (.val (la))) none none none none none x21 x22) ?_).trans ?_
  · simp [lawE, nextM, b4, rep15, g2, g24]
  obtain ⟨W, hW1, hW2, hW3⟩ := hwide (some (.val (.lst [.lst (F.map encP), .lst (L.map encP)]))) (some (.val (.tup ((told mn F L).map encP)))) (some (.val (.tup ((told mn F L).map encP)))) (some (.val (.tup ((res (sn mn) (im3 F L T)).map encP)))) (some (.val (.lst ts))) y13 (some (.val (sm))) (some (.val (la))) none
  refine (seq_nx (env' := lawE (.scr (ns.map D.int)) row (.lst (S.map syE)) mn (.lst (F.map encP)) (.lst (L.map encP)) (.lst (T.map encP)) (some (.val (.lst [.lst (F.map encP), .lst (L.map encP)]))) (some (.val (.tup ((told mn F L).map encP)))) (some (.val (.tup ((told mn F L).map encP)))) (some (.val (.tup ((res (sn mn) (im3 F L T)).map encP)))) (some (.val (.lst ts))) y12 y13 (some (.val (sm))) (some (.val (la))) (some (.val (.lst (W.map encP)))) none none none none x21 x22) ?_).trans ?_
  · simp [lawE] at hW3
    simp [lawE, hW3, rng_len]
  have hW : FOk mn 3 W := ⟨hW1, by omega⟩
  have hWl : W.length ≤ 1000 := by omega
  have w1 := table_ok W hWl
  have w2 := fill_table_ok hla (by decide) W
  have w3 : f_fill_term [la, .lst (W.map encP)] = some (fil (lk W) la) := fill_term_ok hla (by decide) true W hWl
  have w4 := fill_table_ok hsm (by decide) W
  have hsl : ∀ t ∈ [sm, la], Tm 3 t := fun t ht => by
    rcases List.mem_cons.mp ht with rfl | ht
    · exact hsm.mono (by decide)
    · have : t = la := by simpa using ht
      rw [this]; exact hla
  have w5 : f_fill_row [.lst [sm, la], .lst (W.map encP)] = some (.tup [fil (lk W) sm, fil (lk W) la]) := fill_row_ok true true [sm, la] hsl (by decide) (by simp) W hWl
  have tla := hla.fil (hW.pok hn.ok).lk
  have w6 := ne_self (tla.okd.mono (show 3 + 3 ≤ 60 by decide))
  have w7 : neD (.tup [fil (lk W) sm, fil (lk W) la]) (.tup [fil (lk W) sm, fil (lk W) la]) = some (.bl false) := ne_self ((okd_row (n := 6) fun t ht => by
    rcases List.mem_cons.mp ht with rfl | ht
    · exact (hsm.fil (hW.pok hn.ok).lk).mono (by decide)
    · have : t = fil (lk W) la := by simpa using ht
      rw [this]; exact tla).1.mono (by decide))
  refine (seq_nx (env' := lawE (.scr (ns.map D.int)) row (.lst (S.map syE)) mn (.lst (F.map encP)) (.lst (L.map encP)) (.lst (T.map encP)) (some (.val (.lst [.lst (F.map encP), .lst (L.map encP)]))) (some (.val (.tup ((told mn F L).map encP)))) (some (.val (.tup ((told mn F L).map encP)))) (some (.val (.tup ((res (sn mn) (im3 F L T)).map encP)))) (some (.val (.lst ts))) y12 y13 (some (.val (sm))) (some (.val (la))) (some (.val (.lst (W.map encP)))) (some (.val (fil (lk W) la))) none none none x21 x22) ?_).trans ?_
  · simp [lawE, nextM, w1, w2]
  refine (seq_nx (env' := lawE (.scr (ns.map D.int)) row (.lst (S.map syE)) mn (.lst (F.map encP)) (.lst (L.map encP)) (.lst (T.map encP)) (some (.val (.lst [.lst (F.map encP), .lst (L.map encP)]))) (some (.val (.tup ((told mn F L).map encP)))) (some (.val (.tup ((told mn F L).map encP)))) (some (.val (.tup ((res (sn mn) (im3 F L T)).map encP)))) (some (.val (.lst ts))) y12 y13 (some (.val (sm))) (some (.val (la))) (some (.val (.lst (W.map encP)))) (some (.val (fil (lk W) la))) none none none x21 x22) ?_).trans ?_
  · simp [lawE, nextM, w1, w3, w4, w5, w6, w7]
  obtain ⟨m5, m5'⟩ := hn.at (k := 5) (i := 5) rfl (by decide)
  generalize mn.getD 5 "" = n5 at m5 m5'
  have hO : FOk mn 3 [(n5, la)] := ⟨fun p hp => by
    have : p = (n5, la) := by simpa using hp
    rw [this]; exact ⟨m5', hla⟩, by simp⟩
  have w8 : f_composed [.lst [.tup [.str n5, la]], .lst (W.map encP)] = some (.tup ((told mn [(n5, la)] W).map encP)) := comp_told hn hO hW true true (by decide) (by decide)
  have w9 : f_law_due [.lst (mn.map D.str), .lst [.lst [.tup [.str n5, la]], .lst (W.map encP)]] = some (.tup ((told mn [(n5, la)] W).map encP)) := by
    have h := due2 hn hO hW (by decide)
    exact h
  have w10 := ne_self (((told_ok hn hO hW).okt hn).mono (show 3 + 3 + 2 ≤ 60 by decide))
  refine (seq_nx (env' := lawE (.scr (ns.map D.int)) row (.lst (S.map syE)) mn (.lst (F.map encP)) (.lst (L.map encP)) (.lst (T.map encP)) (some (.val (.lst [.lst (F.map encP), .lst (L.map encP)]))) (some (.val (.tup ((told mn F L).map encP)))) (some (.val (.tup ((told mn F L).map encP)))) (some (.val (.tup ((res (sn mn) (im3 F L T)).map encP)))) (some (.val (.lst ts))) y12 y13 (some (.val (sm))) (some (.val (la))) (some (.val (.lst (W.map encP)))) (some (.val (fil (lk W) la))) none none none x21 x22) ?_).trans ?_
  · simp [lawE, nextM, m5, w8, w9, w10]
  have fF := hsm.fil (h1.pok hn.ok).lk
  have fL := fF.fil (h2.pok hn.ok).lk
  have fT := fL.fil (h3.pok hn.ok).lk
  have v1 := table_ok F hFl
  have v2 := table_ok L hLl
  have v3 := table_ok T hTl
  have v4 := fill_table_ok hsm (by decide) F
  have v5 := fill_table_ok fF (by decide) L
  have v6 := fill_table_ok fL (by decide) T
  have v7 : f_fill_term [sm, .lst (F.map encP)] = some (fil (lk F) sm) := fill_term_ok hsm (by decide) true F hFl
  have v8 : f_fill_term [fil (lk F) sm, .lst (L.map encP)] = some (fil (lk L) (fil (lk F) sm)) := fill_term_ok fF (by decide) true L hLl
  have v9 : f_fill_term [fil (lk L) (fil (lk F) sm), .lst (T.map encP)] = some (fil (lk T) (fil (lk L) (fil (lk F) sm))) := fill_term_ok fL (by decide) true T hTl
  have v10 : f_fill_term [sm, .tup ((res (sn mn) (im3 F L T)).map encP)] = some (fil (lk (res (sn mn) (im3 F L T))) sm) := fill_term_ok hsm (by decide) false _ (by have := tw.len; omega)
  have v11 : fil (lk (res (sn mn) (im3 F L T))) sm = fil (lk T) (fil (lk L) (fil (lk F) sm)) := by
    rw [← told_l h1 h2, told_fil t12 h3 hsm, told_fil h1 h2 hsm]
  rw [v11] at v10
  have v12 := ne_self (fT.okd.mono (show 2 + 3 + 2 + 2 ≤ 60 by decide))
  refine (seq_nx (env' := lawE (.scr (ns.map D.int)) row (.lst (S.map syE)) mn (.lst (F.map encP)) (.lst (L.map encP)) (.lst (T.map encP)) (some (.val (.lst [.lst (F.map encP), .lst (L.map encP)]))) (some (.val (.tup ((told mn F L).map encP)))) (some (.val (.tup ((told mn F L).map encP)))) (some (.val (.tup ((res (sn mn) (im3 F L T)).map encP)))) (some (.val (.lst ts))) y12 y13 (some (.val (sm))) (some (.val (la))) (some (.val (.lst (W.map encP)))) (some (.val (fil (lk W) la))) (some (.val (fil (lk T) (fil (lk L) (fil (lk F) sm))))) none none x21 x22) ?_).trans ?_
  · simp [lawE, nextM, v1, v2, v3, v4, v5, v6]
  refine (seq_nx (env' := lawE (.scr (ns.map D.int)) row (.lst (S.map syE)) mn (.lst (F.map encP)) (.lst (L.map encP)) (.lst (T.map encP)) (some (.val (.lst [.lst (F.map encP), .lst (L.map encP)]))) (some (.val (.tup ((told mn F L).map encP)))) (some (.val (.tup ((told mn F L).map encP)))) (some (.val (.tup ((res (sn mn) (im3 F L T)).map encP)))) (some (.val (.lst ts))) y12 y13 (some (.val (sm))) (some (.val (la))) (some (.val (.lst (W.map encP)))) (some (.val (fil (lk W) la))) (some (.val (fil (lk T) (fil (lk L) (fil (lk F) sm))))) none none x21 x22) ?_).trans ?_
  · simp [lawE, nextM, v7, v8, v9, v10, v12]
  have htl : ts.length ≤ 1000 := by omega
  have htl5 : ts.length ≤ 100000 := by omega
  have hcF : compM (bndN 13) yesM (callM f_law_fill (consM (nameV 13) (consM (callM f_law_table (consM (nameV 4) nilM)) nilM))) (lawE (.scr (ns.map D.int)) row (.lst (S.map syE)) mn (.lst (F.map encP)) (.lst (L.map encP)) (.lst (T.map encP)) (some (.val (.lst [.lst (F.map encP), .lst (L.map encP)]))) (some (.val (.tup ((told mn F L).map encP)))) (some (.val (.tup ((told mn F L).map encP)))) (some (.val (.tup ((res (sn mn) (im3 F L T)).map encP)))) (some (.val (.lst ts))) y12 none (some (.val (sm))) (some (.val (la))) (some (.val (.lst (W.map encP)))) (some (.val (fil (lk W) la))) (some (.val (fil (lk T) (fil (lk L) (fil (lk F) sm))))) none none x21 x22) ts = some (ts.map (fil (lk F))) := comp_map fun a ha => ⟨_, rfl, rfl, by simp [lawE, v1, fill_table_ok (hts2 a ha) (by decide) F]⟩
  have hts3 : ∀ t ∈ ts.map (fil (lk F)), Tm 6 t := fun t ht => by
    obtain ⟨a, ha, rfl⟩ := List.mem_map.mp ht
    exact (hts2 a ha).fil (h1.pok hn.ok).lk
  have hts4 : ∀ t ∈ (ts.map (fil (lk F))).map (fil (lk L)), Tm 8 t := fun t ht => by
    obtain ⟨a, ha, rfl⟩ := List.mem_map.mp ht
    exact (hts3 a ha).fil (h2.pok hn.ok).lk
  have hmm : ts.map (fil (lk (told mn F L))) = (ts.map (fil (lk F))).map (fil (lk L)) := by
    rw [List.map_map]
    exact List.map_congr_left fun a ha => told_fil h1 h2 (hts2 a ha)
  have u1 : f_fill_row [.lst ts, .lst (F.map encP)] = some (.tup (ts.map (fil (lk F)))) := fill_row_ok true true ts hts2 (by decide) htl F hFl
  have u2 : f_fill_row [.tup ts, .tup (F.map encP)] = some (.tup (ts.map (fil (lk F)))) := fill_row_ok false false ts hts2 (by decide) htl F hFl
  have u3 : f_fill_row [.lst ts, .tup []] = some (.tup (ts.map (fil (lk [])))) := fill_row_ok false true ts hts2 (by decide) htl [] (by decide)
  rw [fil_row (mn := mn) hts2] at u3
  have u4 : f_fill_row [.lst ts, .tup ((told mn F L).map encP)] = some (.tup (ts.map (fil (lk (told mn F L))))) := fill_row_ok false true ts hts2 (by decide) htl _ (by have := t12.len; omega)
  rw [hmm] at u4
  have u5 : f_fill_row [.tup (ts.map (fil (lk F))), .lst (L.map encP)] = some (.tup ((ts.map (fil (lk F))).map (fil (lk L)))) := fill_row_ok true false _ hts3 (by decide) (by rw [List.length_map]; exact htl) L hLl
  have u6 := ne_self ((okd_row hts3).1.mono (show 6 + 1 ≤ 60 by decide))
  have u7 := ne_self ((okd_row hts2).1.mono (show 3 + 1 ≤ 60 by decide))
  have u8 := ne_self ((okd_row hts4).1.mono (show 8 + 1 ≤ 60 by decide))
  have u9 := eq_self ((okd_row hts2).2.mono (show 3 + 1 ≤ 60 by decide))
  refine (seq_nx (env' := lawE (.scr (ns.map D.int)) row (.lst (S.map syE)) mn (.lst (F.map encP)) (.lst (L.map encP)) (.lst (T.map encP)) (some (.val (.lst [.lst (F.map encP), .lst (L.map encP)]))) (some (.val (.tup ((told mn F L).map encP)))) (some (.val (.tup ((told mn F L).map encP)))) (some (.val (.tup ((res (sn mn) (im3 F L T)).map encP)))) (some (.val (.lst ts))) y12 y13 (some (.val (sm))) (some (.val (la))) (some (.val (.lst (W.map encP)))) (some (.val (fil (lk W) la))) (some (.val (fil (lk T) (fil (lk L) (fil (lk F) sm))))) (some (.val (.tup (ts.map (fil (lk F)))))) none x21 x22) ?_).trans ?_
  · simp [lawE] at hcF
    simp [lawE, hcF, htl5]
  refine (seq_nx (env' := lawE (.scr (ns.map D.int)) row (.lst (S.map syE)) mn (.lst (F.map encP)) (.lst (L.map encP)) (.lst (T.map encP)) (some (.val (.lst [.lst (F.map encP), .lst (L.map encP)]))) (some (.val (.tup ((told mn F L).map encP)))) (some (.val (.tup ((told mn F L).map encP)))) (some (.val (.tup ((res (sn mn) (im3 F L T)).map encP)))) (some (.val (.lst ts))) y12 y13 (some (.val (sm))) (some (.val (la))) (some (.val (.lst (W.map encP)))) (some (.val (fil (lk W) la))) (some (.val (fil (lk T) (fil (lk L) (fil (lk F) sm))))) (some (.val (.tup (ts.map (fil (lk F)))))) (some (.val (.lst ts))) x21 x22) ?_).trans ?_
  · simp [lawE, nextM]
  generalize hR : ts.map (fil (lk F)) = R at u1 u2 u5 u6 u4 hmm hts3 hts4 u8 ⊢
  refine (seq_nx (env' := lawE (.scr (ns.map D.int)) row (.lst (S.map syE)) mn (.lst (F.map encP)) (.lst (L.map encP)) (.lst (T.map encP)) (some (.val (.lst [.lst (F.map encP), .lst (L.map encP)]))) (some (.val (.tup ((told mn F L).map encP)))) (some (.val (.tup ((told mn F L).map encP)))) (some (.val (.tup ((res (sn mn) (im3 F L T)).map encP)))) (some (.val (.lst ts))) y12 y13 (some (.val (sm))) (some (.val (la))) (some (.val (.lst (W.map encP)))) (some (.val (fil (lk W) la))) (some (.val (fil (lk T) (fil (lk L) (fil (lk F) sm))))) (some (.val (.tup R))) (some (.val (.lst ts))) x21 x22) ?_).trans ?_
  · simp [lawE, nextM, i0, u1, u2, u3, u6, u7]
  have hcL : compM (bndN 13) yesM (callM f_law_fill (consM (nameV 13) (consM (callM f_law_table (consM (nameV 5) nilM)) nilM))) (lawE (.scr (ns.map D.int)) row (.lst (S.map syE)) mn (.lst (F.map encP)) (.lst (L.map encP)) (.lst (T.map encP)) (some (.val (.lst [.lst (F.map encP), .lst (L.map encP)]))) (some (.val (.tup ((told mn F L).map encP)))) (some (.val (.tup ((told mn F L).map encP)))) (some (.val (.tup ((res (sn mn) (im3 F L T)).map encP)))) (some (.val (.lst ts))) y12 none (some (.val (sm))) (some (.val (la))) (some (.val (.lst (W.map encP)))) (some (.val (fil (lk W) la))) (some (.val (fil (lk T) (fil (lk L) (fil (lk F) sm))))) (some (.val (.tup R))) (some (.val (.lst ts))) x21 x22) R = some (R.map (fil (lk L))) := comp_map fun a ha => ⟨_, rfl, rfl, by simp [lawE, v2, fill_table_ok (hts3 a ha) (by decide) L]⟩
  have hRl : R.length ≤ 100000 := by rw [← hR, List.length_map]; exact htl5
  refine (seq_nx (env' := lawE (.scr (ns.map D.int)) row (.lst (S.map syE)) mn (.lst (F.map encP)) (.lst (L.map encP)) (.lst (T.map encP)) (some (.val (.lst [.lst (F.map encP), .lst (L.map encP)]))) (some (.val (.tup ((told mn F L).map encP)))) (some (.val (.tup ((told mn F L).map encP)))) (some (.val (.tup ((res (sn mn) (im3 F L T)).map encP)))) (some (.val (.lst ts))) y12 y13 (some (.val (sm))) (some (.val (la))) (some (.val (.lst (W.map encP)))) (some (.val (fil (lk W) la))) (some (.val (fil (lk T) (fil (lk L) (fil (lk F) sm))))) (some (.val (.tup R))) (some (.val (.lst ts))) x21 x22) ?_).trans ?_
  · simp [lawE] at hcL
    generalize R.map (fil (lk L)) = R2 at u4 u5 u8 hcL
    simp [lawE, nextM, u4, u5, u8, hcL, hRl]
  simp [lawE, retF, u9, qh, c12, q12]
end My

set_option Elab.async false
set_option linter.all false
set_option maxRecDepth 100000
set_option maxHeartbeats 4000000
namespace My
open PySem PySem.Spec PyProof.Rows L2 Dl
theorem e_pow7 : powD (.int 36) (.int 7) = some (.int 78364164096) := by
  show (if (0 : Int) ≤ 7 ∧ (7 : Int) ≤ 1000000 ∧ (36 : Int).natAbs < 2 ^ 64 then some (D.int ((36 : Int) ^ (7 : Int).toNat)) else none) = _
  rw [if_pos (by decide)]
  rfl
theorem law_true (ns : List Int) (hl : ns.length ≤ 63) : f_law [.scr (ns.map D.int)] = some (.bl true) := by
  obtain ⟨c0, row, a1, hf, a2⟩ := draw ns 0 (by decide) (i := 0) rfl [10, 6, 4, 4, 4, 3, 362880, 4, 5, 7, 4] (by decide) (by decide)
  obtain ⟨c60, r60, b1, f60, b2⟩ := draw ns 60 (by decide) (i := 60) rfl [3, 8, 8, 26, 78364164096] (by decide) (by decide)
  obtain ⟨c61, r61, d1, f61, d2⟩ := draw ns 61 (by decide) (i := 61) rfl [3, 8, 26, 6, 100000] (by decide) (by decide)
  obtain ⟨ls, l1, l2, l3⟩ := labels_ok f60
  obtain ⟨S, hS, s1⟩ := symbols_ok hf l2 l3
  obtain ⟨mn, m1, m2, m3, m4⟩ := menu_ok f61
  have hn : Nm mn := ⟨m3, m2, m1⟩
  obtain ⟨F, h1, e1⟩ := filling_ok ns hS m3 m1 1 2 (by decide) (by decide) (ia := 1) (id := 2) rfl rfl
  obtain ⟨L, h2, e2⟩ := filling_ok ns hS m3 m1 7 1 (by decide) (by decide) (ia := 7) (id := 1) rfl rfl
  obtain ⟨T, h3, e3⟩ := filling_ok ns hS m3 m1 13 1 (by decide) (by decide) (ia := 13) (id := 1) rfl rfl
  obtain ⟨F', L', y21, y22, g1, g2, g3⟩ := ring_ok (x0 := .scr (ns.map D.int)) (sy := .lst (S.map syE)) (T := .lst (T.map encP)) hn hf h1 h2
  have hmain : m_law ([some (.val (.scr (ns.map D.int))), none, none, none, none, none, none, none, none, none, none, none, none, none, none, none, none, none, none, none, none, none, none]) = some (.rt (.bl true)) := by
    rw [law_split]
    simp only [List.map_cons, List.map_nil] at a2 b2 d2
    refine (seq_nx (env' := [some (.val (.scr (ns.map D.int))), some (.val (.lst (row.map D.int))), none, none, none, none, none, none, none, none, none, none, none, none, none, none, none, none, none, none, none, none, none]) ?_).trans ?_
    · simp [a1, a2]
    refine (seq_nx (env' := [some (.val (.scr (ns.map D.int))), some (.val (.lst (row.map D.int))), some (.val (.lst (S.map syE))), none, none, none, none, none, none, none, none, none, none, none, none, none, none, none, none, none, none, none, none]) ?_).trans ?_
    · simp [b1, b2, e_pow7, l1, s1]
    refine (seq_nx (env' := [some (.val (.scr (ns.map D.int))), some (.val (.lst (row.map D.int))), some (.val (.lst (S.map syE))), some (.val (.lst (mn.map D.str))), none, none, none, none, none, none, none, none, none, none, none, none, none, none, none, none, none, none, none]) ?_).trans ?_
    · simp [d1, d2, m4]
    refine (seq_nx (env' := [some (.val (.scr (ns.map D.int))), some (.val (.lst (row.map D.int))), some (.val (.lst (S.map syE))), some (.val (.lst (mn.map D.str))), some (.val (.lst (F.map encP))), none, none, none, none, none, none, none, none, none, none, none, none, none, none, none, none, none, none]) ?_).trans ?_
    · simp [e1]
    refine (seq_nx (env' := [some (.val (.scr (ns.map D.int))), some (.val (.lst (row.map D.int))), some (.val (.lst (S.map syE))), some (.val (.lst (mn.map D.str))), some (.val (.lst (F.map encP))), some (.val (.lst (L.map encP))), none, none, none, none, none, none, none, none, none, none, none, none, none, none, none, none, none]) ?_).trans ?_
    · simp [e2]
    refine (seq_nx (env' := lawE (.scr (ns.map D.int)) row (.lst (S.map syE)) mn (.lst (F.map encP)) (.lst (L.map encP)) (.lst (T.map encP)) none none none none none none none none none none none none none none none none) ?_).trans ?_
    · simp [e3, lawE]
    rw [seq_nx g3]
    exact tail_ok ns hS hn hf g1 g2 h3 y21 y22
  unfold f_law
  rw [e_bodyM, if_pos (by rfl)]
  show (m_law [some (.val (.scr (ns.map D.int))), none, none, none, none, none, none, none, none, none, none, none, none, none, none, none, none, none, none, none, none, none, none]).bind _ = _
  rw [hmain]
  rfl
end My

open PySem PySem.W PyProof.Rows
set_option maxRecDepth 100000 in
set_option maxHeartbeats 0 in
theorem PySem.Challenge.cw_twowaysigns_k10_fillings_composed_holds : PySem.Challenge.rw_twowaysigns_k10_fillings_composed.Holds := by
  w_on; o_law; k_head; (case hw => w_witness2)
  k_fill
  refine L2.walk_of (l := PySem.Challenge.rw_twowaysigns_k10_fillings_composed) (n := 63) (k := 27) (x := "script") (CX := fun _ => L2.CX0) (sp := fun w => Dl.spD _ My.f_law) rfl (by decide) rfl ⟨rfl, by decide, by decide⟩ (fun w h Y => PySem.W.kIn_of Y) ?F (fun _ _ a ns hl _ hS => Dl.law_sp hS (My.law_true ns hl)) (fun _ _ _ _ _ h => h)
  case F =>
    intro w mg fa h KX G hmg
    refine' My.all_mk KX G hmg ?a0 ?l0 ?c0 ?k0 ?a1 ?l1 ?c1 ?k1 ?a2 ?l2 ?c2 ?k2 ?a3 ?l3 ?c3 ?k3 ?a4 ?l4 ?c4 ?k4 ?a5 ?l5 ?c5 ?k5 ?a6 ?l6 ?c6 ?k6 ?a7 ?l7 ?c7 ?k7 ?a8 ?l8 ?c8 ?k8 ?a9 ?l9 ?c9 ?k9 ?a10 ?l10 ?c10 ?k10 ?a11 ?l11 ?c11 ?k11 ?a12 ?l12 ?c12 ?k12 ?a13 ?l13 ?c13 ?k13 ?a14 ?l14 ?c14 ?k14 ?a15 ?l15 ?c15 ?k15 ?a16 ?l16 ?c16 ?k16 ?a17 ?l17 ?c17 ?k17 ?y_int ?y_isinstance ?y_len ?y_list ?y_min ?y_range ?y_sorted ?y_str ?y_tuple
    (case a0 => k_is); (case l0 => k_is); (case c0 => k_is); (case k0 => k_is)
    (case a1 => k_is); (case l1 => k_is); (case c1 => k_is); (case k1 => k_is)
    (case a2 => k_is); (case l2 => k_is); (case c2 => k_is); (case k2 => k_is)
    (case a3 => k_is); (case l3 => k_is); (case c3 => k_is); (case k3 => k_is)
    (case a4 => k_is); (case l4 => k_is); (case c4 => k_is); (case k4 => k_is)
    (case a5 => k_is); (case l5 => k_is); (case c5 => k_is); (case k5 => k_is)
    (case a6 => k_is); (case l6 => k_is); (case c6 => k_is); (case k6 => k_is)
    (case a7 => k_is); (case l7 => k_is); (case c7 => k_is); (case k7 => k_is)
    (case a8 => k_is); (case l8 => k_is); (case c8 => k_is); (case k8 => k_is)
    (case a9 => k_is); (case l9 => k_is); (case c9 => k_is); (case k9 => k_is)
    (case a10 => k_is); (case l10 => k_is); (case c10 => k_is); (case k10 => k_is)
    (case a11 => k_is); (case l11 => k_is); (case c11 => k_is); (case k11 => k_is)
    (case a12 => k_is); (case l12 => k_is); (case c12 => k_is); (case k12 => k_is)
    (case a13 => k_is); (case l13 => k_is); (case c13 => k_is); (case k13 => k_is)
    (case a14 => k_is); (case l14 => k_is); (case c14 => k_is); (case k14 => k_is)
    (case a15 => k_is); (case l15 => k_is); (case c15 => k_is); (case k15 => k_is)
    (case a16 => k_is); (case l16 => k_is); (case c16 => k_is); (case k16 => k_is)
    (case a17 => k_is); (case l17 => k_is); (case c17 => k_is); (case k17 => k_is)
    (case y_int => k_is); (case y_isinstance => k_is); (case y_len => k_is); (case y_list => k_is)
    (case y_min => k_is); (case y_range => k_is); (case y_sorted => k_is); (case y_str => k_is)
    (case y_tuple => k_is)
