import PyProof.Rows.All
import Wide.All
import OpenK.AllK
import Wide.FinOn
import HandS.ForMost
import HandS.ForExc
import HandS.Walk
import HandS.TupAny
import HandS.Wide
import HandS.DictComp
import HandS.IsInst
import HandS.SortRule
import HandS.Flow
import HandS.Lambda
import HandS.EndBits
import HandS.EndTab
import KE.SortData
import HandS.Text
import HandS.More
import HandS.FStr
import PyProof.Rows.StrIntSpec
import PyProof.FString3
import HandS.Style
import KE.SortKeyHeap
import HandS.Deep
import HandS.TupLe
import HandS.Zip
import HandS.Zip0
import KE.KDictZip
import KE.GoesEnum
import PyProof.Rows.ReprR
import HandS.WideBits
import HandS.RevRange
import KE.KNestM
import PySem.Challenge.RW_twowaysigns_k05_own_turnings_whole
set_option Elab.async false
set_option linter.all false
set_option maxRecDepth 100000
set_option maxHeartbeats 2000000
/-! Calls with no text of a thing under way (so that repr tells what it tells). -/
namespace Dl
open PySem PySem.Spec PyProof.Rows L2
structure RoomG (k : Nat) (A : Around) : Prop extends Room k A where
  gd : A.guards = some []
theorem RoomG.mono {j k : Nat} {A : Around} (g : RoomG k A) (le : j ≤ k) : RoomG j A := ⟨g.toRoom.mono le, g.gd⟩
theorem RoomG.deeper {k : Nat} {A : Around} (g : RoomG (k + 1) A) (en : Env) : RoomG k (A.deeper en) := ⟨g.toRoom.deeper en, g.gd⟩
theorem RoomG.in1 {k : Nat} {A : Around} (g : RoomG (k + 1) A) : RoomG k A.in1 := ⟨g.toRoom.in1, g.gd⟩
theorem tycall_guards (ar : Args) : (Code.builtin "type.__call__" ar).guards = [] := by
  have no : (Code.builtin "type.__call__" ar).isGuard = false := (by decide : guardIds.contains "type.__call__" = false)
  unfold Code.guards
  rw [no]
  rfl
theorem RoomG.make {k : Nat} {A : Around} (g : RoomG (k + 1) A) (C : Addr) (ws : List Value) (kw : List (Str × Value)) : RoomG k (A.under (.builtin "type.__call__" ⟨.ref C :: ws, kw⟩)) :=
  ⟨g.toRoom.make C ws kw, (congrArg (fun l => pushGuards l A.guards) (tycall_guards ⟨.ref C :: ws, kw⟩) : pushGuards _ A.guards = pushGuards [] A.guards).trans g.gd⟩
theorem hu_ofG {A : Around} {k : Nat} (g : RoomG k A) : A.units + 1 < cLine := hu_of g.toRoom
/-- what a def keeps, called so -/
structure FnG (P : Program) (w : World) (K : PySem.W.Frag) (mg : Str → Option Value) (base : Heap) (CX : CXT) (k : Nat) (fa : Addr) (fd : FuncData) (ps : List Str) (sp : Sp) : Prop where
  many : ∀ (xs : List V) (H : Hp) (Q : VK) (E : XK), sp xs H Q E → xs.length = ps.length
  goes : ∀ (A : Around) (below : List Env) (s : Shared) (H : Hp) (given : Args) (ws : List Value) (xs : List V) (Q : VK) (E : XK), RoomG k A → Env0 P w K mg base A below s H → BindsTo s fd given (ps.zip ws) → Vals xs ws → sp xs H Q E →
    codeAny (model P w) A (.call (.ref fa) given) (CR CX below P w H s Q E) s
section
variable {P : Program} {w : World} {K : PySem.W.Frag} {mg : Str → Option Value} {base : Heap} {CX : CXT}
theorem FnG.mono {j k : Nat} {fa : Addr} {fd : FuncData} {ps : List Str} {sp : Sp} (F : FnG P w K mg base CX j fa fd ps sp) (le : j ≤ k) : FnG P w K mg base CX k fa fd ps sp :=
  { many := F.many, goes := fun A below s H given ws xs Q E g => F.goes A below s H given ws xs Q E (g.mono le) }
theorem FnG.imp {k : Nat} {fa : Addr} {fd : FuncData} {ps : List Str} {sp sp2 : Sp} (F : FnG P w K mg base CX k fa fd ps sp) (t : ∀ xs H Q E, sp2 xs H Q E → sp xs H Q E) : FnG P w K mg base CX k fa fd ps sp2 :=
  { many := fun xs H Q E z => F.many xs H Q E (t _ _ _ _ z), goes := fun A below s H given ws xs Q E g e b v z => F.goes A below s H given ws xs Q E g e b v (t _ _ _ _ z) }
/-- a body's end is a call's end -/
theorem end_in {N : List Str} {qual : Str} {scope : Scope} {fa : Addr} {cdv : Value} {A : Around} {below : List Env} {s s2 : Shared} {H H2 : Hp} {E : XK} {Q : VK} {σ2 : L2.St} {x : V} {u : Value} (J : Inv (cxOf CX P w K mg base N qual scope fa cdv A below s H E) [] σ2 H2 s2) (r : RelV x u) (q : Q x H2) :
    CE below P w H s Q u s2 := ⟨x, H2, J.os, J.bare, J.base, J.hok, r, q⟩
/-- a def by its body -/
theorem fn_ofG {k : Nat} {fa : Addr} {name qual : Str} {params : Arguments} {body : List Stmt} {scope : Scope} {dV kV doc pm cdv ct oc : Value} {an od : Option Addr} {slots : Array (Option Value)} {N ps : List Str} {sp : Sp}
    (at_ : K.lookup fa = some ⟨oc, od, .func (PySem.W.fnOf name qual params body scope dV kV doc pm an cdv ct), slots⟩) (code : PySem.W.codeIn K cdv qual = true) (S : FnScope N ps scope) (many : ∀ xs H Q E, sp xs H Q E → xs.length = ps.length)
    (within : ∀ (A : Around) (below : List Env) (s : Shared) (H : Hp) (xs : List V) (Q : VK) (E : XK), RoomG k (A.deeper (envOfC qual scope s.heap.objs.size fa cdv)) → sp xs H Q E →
      ∃ t, PSs (cxOf CX P w K mg base N qual scope fa cdv A below s H E) body t ∧ t { nx := fun _ H2 => Q .non H2, rt := Q } (start N xs) H) :
    FnG P w K mg base CX (k + 1) fa (PySem.W.fnOf name qual params body scope dV kV doc pm an cdv ct) ps sp := by
  constructor
  · exact many
  · intro A below s H given ws xs Q E g e0 bound rel z
    have kept : ∀ (b : Addr) (o : Obj), base.get? b = some o → s.heap.get? b = some o := fun b o e => (e0.bs b o e).left
    have inK : K.In s.heap := e0.mod.kin.keeps kept
    have own : ∀ y ∈ ps.zip ws, scope.names.lookup y.1 = some .local ∨ (scope.names.lookup y.1 = some .cell ∧ ((cellsFrom (s.heap.objs.size + 1) scope.names []).lookup y.1).isSome = true) := by
      rintro ⟨y, u⟩ hy
      exact (S.par y (List.of_mem_zip hy).1).imp id fun c => ⟨c, PySem.W.cellsFrom_some _ _ _ (.inl c)⟩
    refine codeAny_call_function g.depth (inK _ _ at_) rfl S.co S.gen rfl (PySem.W.codeRec_of inK code) (bound _ _ _ _ (wpAny_newFunctionEnv_cells S.kind own ?_))
    rintro _ rfl s1 ent
    refine ⟨(e0.mod.nolimit.keeps kept).keeps ent.toInCall.keep, codeAny_func ?_⟩
    obtain ⟨t, runs, here⟩ := within A below s H xs Q E (g.deeper _) z
    have I0 : Inv (cxOf CX P w K mg base N qual scope fa cdv A below s H E) [] (start N xs) H s1 := inv_start S g.hd e0 (many _ _ _ _ z) rel ent
    refine wpAny_mono (runs.run [] s1 (start N xs) H _ I0 here) ?_ fun _ _ z => z
    intro fl s2 fin
    match fl, fin with
    | .ret u, ⟨x, _, H2, J, r, q⟩ => exact end_in J r q
    | .next, ⟨_, H2, J, q⟩ => exact end_in (x := V.non) (u := Value.none) J rfl q
    | .brk, ⟨_, _, _, q⟩ => exact q.elim
    | .cont, ⟨_, _, _, q⟩ => exact q.elim
theorem okG {x qual : Str} {st : Stmt} {fa : Addr} {fd : FuncData} {N ps : List Str} {k : Nat} {sp : Sp} (F : Fun K x qual st fa fd) (S : FnScope N ps (defScope st)) (many : ∀ xs H Q E, sp xs H Q E → xs.length = ps.length)
    (within : ∀ (cdv : Value) (A : Around) (below : List Env) (s : Shared) (H : Hp) (xs : List V) (Q : VK) (E : XK), RoomG k (A.deeper (envOfC qual (defScope st) s.heap.objs.size fa cdv)) → sp xs H Q E →
      ∃ t, PSs (cxOf CX0 P w K mg base N qual (defScope st) fa cdv A below s H E).nox (defBody st) t ∧ t { nx := fun _ H2 => Q .non H2, rt := Q } (start N xs) H) : FnG P w K mg base CX0 (k + 1) fa fd ps sp := by
  obtain ⟨_, _, _, _, _, _, cdv, _, _, rfl, at_, code⟩ := F.ex
  exact fn_ofG at_ code S many fun A below s H xs Q E g z => (within cdv A below s H xs Q E g z).imp fun _ h => ⟨h.1.nox, h.2⟩
end
section
variable {X : Cx} {CX : CXT} {k : Nat} {fa C : Addr} {fd : FuncData} {ps : List Str} {sp : Sp} {dvs : List V} {ds : List Value} {E : XK} {x m : Str} {p pos apos : Pos} {e o : Expr} {es : List Expr} {ta : TE} {t : TA}
theorem run_G {pins : List (Addr × Obj)} {σ : L2.St} {H : Hp} {s : Shared} {Q : VK} {ws : List Value} {xs : List V} (F : FnG X.prog X.w X.K X.mg X.base CX k fa fd ps sp) (g : RoomG k X.A) (hb : Binds X.K fd ps ds) (hd : Vals dvs ds) (pass : Passes CX X E)
    (I : Inv X pins σ H s) (rel : Vals xs ws) (z : sp (xs ++ dvs) H Q E) : wpAny (model X.prog X.w) X.A (call (.ref fa) ws) (EP X pins σ Q) X.xe s := by
  have rel2 := rel.append hd
  have count : (ws ++ ds).length = ps.length := (rel2.length.symm).trans (F.many _ _ _ _ z)
  refine wpAny_call (codeAny_mono (F.goes X.A X.stack s H ⟨ws, []⟩ _ _ Q E g I.env0 (hb s ws I.kIn count) rel2 z) ?_)
  intro r s2 fin
  match r, fin with
  | .error ex, fin => exact pass pins σ H s ex s2 I fin
  | .ok (.ret u), fin => exact I.after fin
  | .ok .next, fin => exact False.elim fin
  | .ok .brk, fin => exact False.elim fin
  | .ok .cont, fin => exact False.elim fin
theorem pe_callG (F : FnG X.prog X.w X.K X.mg X.base CX k fa fd ps sp) (g : RoomG k X.A) (hg : Gl X x) (hm : X.mg x = some (.ref fa)) (hk : PySem.W.keepIn X.K (.ref fa) = true) (hb : Binds X.K fd ps ds) (hd : Vals dvs ds) (pass : Passes CX X E) (ha : PA X (e :: es) t)
    (hdb : (x == ("__debug__" : Str)) = false := by decide) (he : starEach (e :: es) X.env = (false, eval e X.env) :: starEach es X.env := by rfl) (hpl : (backTo pos (starEach es X.env)).any (·.1) = false := by rfl) : PE X (.Call (.Name x p) (e :: es) [] pos) (tCall sp dvs E t) :=
  ⟨fun pins s σ H Q I z => wpAny_Call_Name_kw (ld_glob I hg hm (PySem.W.callWith_K (h₀ := X.base) I.ok.mod.kin hk (thn (ha.run pos pins s σ H _ I z) fun ws s1 ⟨xs, H1, I1, rel, z1⟩ => ⟨I1.kIn, run_G F g hb hd pass I1 rel z1⟩) he hpl) hdb)⟩
theorem pe_methG {pl : Sem Bool} (he : PE X o ta) (c : Cls X.K C) (hm : Meth X.K C m fa) (F : FnG X.prog X.w X.K X.mg X.base CX k fa fd ps sp) (g : RoomG k X.A) (hb : Binds X.K fd ps ds) (hd : Vals dvs ds) (pass : Passes CX X E) (ha : PA X (e :: es) t)
    (hst : starEach (e :: es) X.env = (false, eval e X.env) :: starEach es X.env := by rfl) (hpl : (backTo pos (starEach es X.env)).any (·.1) = false := by rfl)
    (ht : eval (.Call (.Attribute o m apos) (e :: es) [] pos) X.env = (do let ov ← eval o X.env; standAt apos.atName; let (f, first) ← holding [ov] (getMethod ov m pl); callWith pos f first (backTo pos (starEach (e :: es) X.env)) (backToKw pos (keywordEach [] X.env))) := by rfl) :
    PE X (.Call (.Attribute o m apos) (e :: es) [] pos) (tMeth C m sp dvs E ta t) := by
  constructor
  intro pins s σ H Q I z
  refine PySem.W.methodCall_KW (pl := pl) (thn (he.run pins s σ H _ I z) ?_) ht
  rintro u s1 ⟨_, H1, I1, rx, a, dx, fs, rfl, ins, no, z1⟩
  have rx : u = Value.ref a := rx
  subst rx
  exact getmeth_ok I1 ins c hm no (PySem.W.callWith_K (first := [.ref a]) (h₀ := X.base) I.ok.mod.kin hm.kp (thn (ha.run pos pins s1 σ H1 _ I1 z1) fun ws s2 ⟨xs, H2, I2, rel, z2⟩ => ⟨I2.kIn, run_G (ws := .ref a :: ws) (xs := .ref a :: xs) F g hb hd pass I2 (.cons rfl rel) z2⟩) hst hpl)
theorem make_G {pins : List (Addr × Obj)} {σ : L2.St} {H : Hp} {s : Shared} {Q : VK} {ws : List Value} {xs : List V} (M : Mk X.K C fa) (F : FnG X.prog X.w X.K X.mg X.base CX k fa fd ps sp) (g : RoomG (k + 1) X.A) (hb : Binds X.K fd ps ds) (hd : Vals dvs ds) (pass : Passes CX X E) (I : Inv X pins σ H s) (rel : Vals xs ws)
    (z : ∀ a dx, H a = none → H dx = none → dx ≠ a → sp (.ref a :: (xs ++ dvs)) (upd (upd H dx (.own a)) a (.ins C dx [])) (fun v H2 => v = .non ∧ Q (.ref a) H2) E) : wpAny (model X.prog X.w) X.A (call (.ref C) ws) (EP X pins σ Q) X.xe s := by
  let a := s.heap.objs.size + 1
  have z1 := z a s.heap.objs.size (I.hok.fresh (Nat.le_succ _)) (I.hok.fresh (Nat.le_refl _)) (Nat.ne_of_lt (Nat.lt_succ_self _))
  have J := Inv.made (C := C) I
  have rel2 : Vals (V.ref a :: (xs ++ dvs)) (Value.ref a :: (ws ++ ds)) := .cons rfl (rel.append hd)
  have count : (Value.ref a :: ws ++ ds).length = ps.length := (rel2.length.symm).trans (F.many _ _ _ _ z1)
  have init := F.goes _ X.stack _ _ ⟨Value.ref a :: ws, []⟩ (Value.ref a :: (ws ++ ds)) _ _ E (g.make C ws []) (J.env0.make C ws []) (hb _ (Value.ref a :: ws) J.kIn count) rel2 z1
  refine wpAny_call (make_map (f := fa) I.kIn M.makes M.init (beq_iff_eq.mp M.fn) (codeAny_mono init ?_))
  intro r s2 fin
  match r, fin with
  | .error ex, fin => exact pass pins σ _ _ ex s2 J fin
  | .ok (.ret u), fin =>
    obtain ⟨v, H2, J2, rv, ev, q⟩ := J.after fin
    subst ev
    exact ⟨rv, V.ref a, H2, J2, rfl, q⟩
  | .ok .next, fin => exact False.elim fin
  | .ok .brk, fin => exact False.elim fin
  | .ok .cont, fin => exact False.elim fin
theorem pe_makeG (M : Mk X.K C fa) (F : FnG X.prog X.w X.K X.mg X.base CX k fa fd ps sp) (g : RoomG (k + 1) X.A) (hg : Gl X x) (hm : X.mg x = some (.ref C)) (hb : Binds X.K fd ps ds) (hd : Vals dvs ds) (pass : Passes CX X E) (ha : PA X (e :: es) t)
    (hdb : (x == ("__debug__" : Str)) = false := by decide) (he : starEach (e :: es) X.env = (false, eval e X.env) :: starEach es X.env := by rfl) (hpl : (backTo pos (starEach es X.env)).any (·.1) = false := by rfl) : PE X (.Call (.Name x p) (e :: es) [] pos) (tMake C sp dvs E t) :=
  ⟨fun pins s σ H Q I z => wpAny_Call_Name_kw (ld_glob I hg hm (PySem.W.callWith_K (h₀ := X.base) I.ok.mod.kin M.kp (thn (ha.run pos pins s σ H _ I z) fun ws s1 ⟨xs, H1, I1, rel, z1⟩ => ⟨I1.kIn, make_G M F g hb hd pass I1 rel z1⟩) he hpl) hdb)⟩
end
end Dl

set_option Elab.async false
set_option linter.all false
set_option maxRecDepth 100000
set_option maxHeartbeats 2000000
/-! The law's own call, with no text of a thing under way. -/
namespace Dl
open PySem PySem.Spec PyProof.Rows L2
/-- what is tracked at the bottom: the script, if it is not of the head, and the tables -/
def botH (K : PySem.W.Frag) (a : Addr) (it : Obj) (zs : List V) (T : List Addr) : Hp := fun b => if b = a then (if K.lookup a = none then some (.frz it (.lst zs)) else none) else if b ∈ T then some (.tbl #[]) else none
theorem botH_seen {K : PySem.W.Frag} {a b : Addr} {it : Obj} {zs : List V} {T : List Addr} {u : HO} (e : botH K a it zs T b = some u) : (b = a ∧ K.lookup a = none ∧ u = .frz it (.lst zs)) ∨ (b ≠ a ∧ b ∈ T ∧ u = .tbl #[]) := by
  unfold botH at e
  by_cases h : b = a
  · rw [if_pos h] at e
    by_cases n : K.lookup a = none
    · rw [if_pos n] at e
      cases e
      exact .inl ⟨h, n, rfl⟩
    · rw [if_neg n] at e
      cases e
  · rw [if_neg h] at e
    by_cases t : b ∈ T
    · rw [if_pos t] at e
      cases e
      exact .inr ⟨h, t, rfl⟩
    · rw [if_neg t] at e
      cases e
def emptyTab : Obj := { cls := .none, data := .fields #[] }
structure Bottom (w : World) (K : PySem.W.Frag) (mg : Str → Option Value) (cs : List (Addr × Addr)) (s : Shared) : Prop where
  inK : K.In s.heap
  glob : s.heap.Ns mainGlobals mg
  blt : ∃ mb, s.heap.Ns builtinsNs mb ∧ ∀ y : Str, y ≠ "__name__" → mb y = bootBuiltins y
  lim : s.heap.NoLimit
  gens : s.gens = #[]
  tabs : ∀ p ∈ cs, s.heap.get? p.2 = some emptyTab
  free : ∀ p ∈ cs, K.lookup p.2 = none
  codes : ∀ p ∈ cs, PySem.W.CodeHd s.heap p.1 p.2
  bmod : ∃ (bm : Addr) (ob : Obj), mg "__builtins__" = some (.ref bm) ∧ bm ≠ builtinsNs ∧ s.heap.get? bm = some ob ∧ ob.cls = .type "module" ∧ ob.dict = some builtinsNs ∧ ob.data = .plain
section
variable {P : Program} {w : World} {K : PySem.W.Frag} {mg : Str → Option Value} {cs : List (Addr × Addr)} {s : Shared} {a : Addr} {vs : List Value} {ns : List Int}
abbrev scrO (vs : List Value) : Obj := { cls := .type "list", data := .seq vs.toArray }
abbrev hereH (K : PySem.W.Frag) (cs : List (Addr × Addr)) (a : Addr) (vs : List Value) (ns : List Int) : Hp := botH K a (scrO vs) (ns.map V.int) (cs.map (·.2))
theorem Bottom.tab (B : Bottom w K mg cs s) {b : Addr} (hb : b ∈ cs.map (·.2)) : s.heap.get? b = some emptyTab ∧ K.lookup b = none := by
  obtain ⟨p, hp, rfl⟩ := List.mem_map.mp hb
  exact ⟨B.tabs p hp, B.free p hp⟩
theorem scr_no_tab (B : Bottom w K mg cs s) (scr : s.heap.get? a = some (scrO vs)) : a ∉ cs.map (·.2) := fun z => by
  have two := (B.tab z).1.symm.trans scr
  have data : Data.fields #[] = Data.seq vs.toArray _ := congrArg Obj.data (Option.some.inj two)
  cases data
theorem tab_here (B : Bottom w K mg cs s) (scr : s.heap.get? a = some (scrO vs)) (ns : List Int) {p : Addr × Addr} (hp : p ∈ cs) : hereH K cs a vs ns p.2 = some (.tbl #[]) := by
  have hm : p.2 ∈ cs.map (·.2) := List.mem_map.mpr ⟨p, hp, rfl⟩
  show (if p.2 = a then _ else if p.2 ∈ cs.map (·.2) then _ else none) = _
  have far : p.2 ≠ a := fun z => scr_no_tab B scr (by rw [← z]; exact hm)
  rw [if_neg far, if_pos hm]
/-- what is neither a list nor a table is not tracked -/
theorem unseen (B : Bottom w K mg cs s) (scr : s.heap.get? a = some (scrO vs)) {b : Addr} {o : Obj} (e : s.heap.get? b = some o) (n1 : ∀ us n, o.data ≠ .seq us n) (n2 : o.data ≠ .fields #[]) : hereH K cs a vs ns b = none := by
  cases q : hereH K cs a vs ns b with
  | none => rfl
  | some u =>
    rcases botH_seen q with ⟨rfl, _, _⟩ | ⟨_, t, _⟩
    · rw [scr] at e
      exact absurd (congrArg Obj.data (Option.some.inj e)).symm (n1 _ _)
    · rw [(B.tab t).1] at e
      exact absurd (congrArg Obj.data (Option.some.inj e)).symm n2
theorem unseenK (B : Bottom w K mg cs s) (scr : s.heap.get? a = some (scrO vs)) {b : Addr} {o : Obj} (e : K.lookup b = some o) : hereH K cs a vs ns b = none := by
  cases q : hereH K cs a vs ns b with
  | none => rfl
  | some u =>
    rcases botH_seen q with ⟨rfl, n, _⟩ | ⟨_, t, _⟩
    · exact nomatch e.symm.trans n
    · exact nomatch e.symm.trans (B.tab t).2
theorem ns_here (B : Bottom w K mg cs s) (scr : s.heap.get? a = some (scrO vs)) {b : Addr} {m : Str → Option Value} (h : s.heap.Ns b m) : (hidT s.heap (hereH K cs a vs ns)).Ns b m := by
  obtain ⟨o, es, ep, e, d, r⟩ := h
  exact ⟨o, es, ep, hidT_get e (unseen B scr e (fun _ _ z => nomatch d.symm.trans z) fun z => nomatch d.symm.trans z), d, r⟩
theorem mod_here (B : Bottom w K mg cs s) (scr : s.heap.get? a = some (scrO vs)) : L2.Mod K mg (hidT s.heap (hereH K cs a vs ns)) where
  kin := fun b o e => hidT_get (B.inK b o e) (unseenK B scr e)
  glob := ns_here B scr B.glob
  blt := B.blt.imp fun mb h => ⟨ns_here B scr h.1, h.2⟩
  nolimit := by
    obtain ⟨mc, n, q⟩ := B.lim
    exact ⟨mc, ns_here B scr n, q⟩
theorem tabB_here (B : Bottom w K mg cs s) (scr : s.heap.get? a = some (scrO vs)) {p : Addr × Addr} (hp : p ∈ cs) : LamX.TabB (hidT s.heap (hereH K cs a vs ns)) mg p.1 p.2 := by
  obtain ⟨oG, esG, epG, eG, dG, _⟩ := B.glob
  have tp := B.tabs p hp
  refine { code := ?_, bm := ?_, gP := fun z => ?_ }
  · obtain ⟨o, us, file, tf, flags, tg, inF, text, tt, e, c1, c2, c3, rest⟩ := B.codes p hp
    refine ⟨o, us, file, tf, flags, tg, inF, text, tt, hidT_get e (unseen B scr e (fun _ _ z => nomatch c2.symm.trans z) fun z => ?_), c1, c2, c3, rest⟩
    have : us = #[] := Data.fields.inj (c2.symm.trans z)
    rw [this] at c3
    cases c3
  · obtain ⟨bm, ob, m1, m2, m3, m4, m5, m6⟩ := B.bmod
    have k1 : bm ≠ mainGlobals := fun z => by
      rw [z] at m3
      have := congrArg Obj.data (Option.some.inj (m3.symm.trans eG))
      exact nomatch m6.symm.trans (this.trans dG)
    have k2 : bm ≠ p.2 := fun z => by
      rw [z] at m3
      have := congrArg Obj.data (Option.some.inj (m3.symm.trans tp))
      exact nomatch m6.symm.trans this
    exact ⟨bm, ob, m1, m2, k1, k2, hidT_get m3 (unseen B scr m3 (fun _ _ z => nomatch m6.symm.trans z) fun z => nomatch m6.symm.trans z), m4, m5, m6⟩
  · rw [z] at eG
    have := congrArg Obj.data (Option.some.inj (eG.symm.trans tp))
    exact nomatch dG.symm.trans this
theorem ok_here (B : Bottom w K mg cs s) (scr : s.heap.get? a = some (scrO vs)) (zs_are : IntsAre vs ns) (few : ns.length ≤ sizeLine) : HOk P w (hereH K cs a vs ns) s.heap := fun b u e => by
  rcases botH_seen e with ⟨rfl, _, rfl⟩ | ⟨_, t, rfl⟩
  · exact ⟨scr, (List.length_map (as := ns) V.int).symm ▸ few, vs, _, vals_ints zs_are, scr⟩
  · exact (B.tab t).1
theorem scr_here (B : Bottom w K mg cs s) (scr : s.heap.get? a = some (scrO vs)) (zs_are : IntsAre vs ns) (few : ns.length ≤ sizeLine) : SqL K (hereH K cs a vs ns) a (ns.map V.int) := by
  cases k : K.lookup a with
  | none =>
    refine .inl (.inr ⟨scrO vs, ?_⟩)
    show (if a = a then (if K.lookup a = none then some (HO.frz (scrO vs) (.lst (ns.map V.int))) else none) else _) = _
    rw [if_pos rfl, if_pos k]
  | some o =>
    have same : o = scrO vs := Option.some.inj ((B.inK a o k).symm.trans scr)
    subst same
    exact .inr ⟨_, vs.toArray, _, k, rfl, rfl, rfl, by rw [List.size_toArray, zs_are.length]; exact few, vals_ints zs_are⟩
theorem law_G {k : Nat} {fa : Addr} {fd : FuncData} {x : Str} {sp : Sp} (B : Bottom w K mg cs s) (scr : s.heap.get? a = some (scrO vs)) (zs_are : IntsAre vs ns) (few : ns.length ≤ sizeLine) (g : RoomG k callerA)
    (F : ∀ base : Heap, K.In base → base.Ns mainGlobals mg → (∀ p ∈ cs, LamX.TabB base mg p.1 p.2) → FnG P w K mg base CX0 k fa fd [x] sp) (bind : ∀ (s : Shared) (u : Value), BindsTo s fd ⟨[u], []⟩ [(x, u)])
    (told : ∀ H : Hp, (∀ p ∈ cs, H p.2 = some (.tbl #[])) → SqL K H a (ns.map V.int) → sp [.ref a] H (fun v _ => v = .bl true) E0) :
    codeAny (model P w) callerA (.call (.ref fa) ⟨[.ref a], []⟩) (fun r s2 => r = .ok (.ret (.bool true)) ∧ OldK s.heap s2.heap ∧ s2.os = s.os ∧ AllBare s2.gens) s := by
  have M := mod_here (ns := ns) B scr
  have entry : Env0 P w K mg (hidT s.heap (hereH K cs a vs ns)) callerA [] s (hereH K cs a vs ns) :=
    { frames := rfl, mod := M, bs := fun b o e => of_hidT e, bsz := Nat.le_of_eq (hidT_size _ _), funs := trivial, frf := fun b z => absurd (show b ∈ ([] : List Addr) from z) List.not_mem_nil, hok := ok_here B scr zs_are few, bare := .of_eq B.gens }
  have runs := (F _ M.kin M.glob fun p hp => tabB_here B scr hp).goes callerA [] s _ ⟨[.ref a], []⟩ [.ref a] [.ref a] _ _ g entry (bind s (.ref a)) (.cons rfl .nil) (told _ (fun p hp => tab_here B scr ns hp) (scr_here B scr zs_are few))
  refine codeAny_mono runs ?_
  intro r s2 fin
  match r, fin with
  | .error _, fin => exact False.elim fin
  | .ok .next, fin => exact False.elim fin
  | .ok .brk, fin => exact False.elim fin
  | .ok .cont, fin => exact False.elim fin
  | .ok (.ret u), ⟨v, H2, os, bare, un, ok2, rel, tr⟩ =>
    have tr : v = .bl true := tr
    subst tr
    have rel : u = Value.bool true := rel
    subst rel
    have stays : ∀ (b : Addr) (o : Obj), b ∉ cs.map (·.2) → s.heap.get? b = some o → s2.heap.get? b = some o := fun b o nt e => by
      cases q : hereH K cs a vs ns b with
      | none => exact un.keep b o e q (fun z => absurd (show b ∈ ([] : List Addr) from z) List.not_mem_nil) (by simp)
      | some u =>
        rcases botH_seen q with ⟨rfl, _, rfl⟩ | ⟨_, t, _⟩
        · rw [scr] at e
          cases e
          exact (ok2 b _ (un.frzs b _ _ q)).1
        · exact absurd t nt
    have grows : ∀ p ∈ cs, ∃ more : Array Value, s2.heap.get? p.2 = some { cls := .none, data := .fields more } := fun p hp => by
      obtain ⟨more, z⟩ := un.tbls p.2 #[] (tab_here B scr ns hp)
      exact ⟨_, ok2 p.2 _ z⟩
    have each : ∀ (b : Addr) (o : Obj), s.heap.get? b = some o → asItWas s.heap s2.heap b o ∧ ∃ o2, s2.heap.get? b = some o2 := fun b o e => by
      by_cases t : b ∈ cs.map (·.2)
      · obtain ⟨p, hp, rfl⟩ := List.mem_map.mp t
        obtain ⟨more, hm⟩ := grows p hp
        rw [B.tabs p hp] at e
        cases e
        exact ⟨.inr (.inl ⟨((B.codes p hp).tab (B.tabs p hp)).isCodeTable, rfl, #[], more, rfl, by rw [Array.empty_append]; exact hm⟩), _, hm⟩
      · exact ⟨.inl (stays b o t e), o, stays b o t e⟩
    exact ⟨rfl, ⟨fun b o e => (each b o e).1, fun b o e => (each b o e).2⟩, os, bare⟩
end
/-- what is known of the law's promise at the head's heap -/
def LawAtG (l : PySem.W.OpenLaw) (w : World) (K : PySem.W.Frag) (k n : Nat) (x : Str) (mg : Str → Option Value) (fa : Addr) (h : Heap) : Prop :=
  ∃ (fd : FuncData) (cs : List (Addr × Addr)) (sp : Sp), (∀ p ∈ cs, h.get? p.2 = some emptyTab) ∧ (∀ p ∈ cs, K.lookup p.2 = none) ∧ (∀ p ∈ cs, PySem.W.CodeHd h p.1 p.2) ∧ (∀ (s : Shared) (u : Value), BindsTo s fd ⟨[u], []⟩ [(x, u)]) ∧
    (∀ (H : Hp) (a : Addr) (ns : List Int), ns.length ≤ n → (∀ p ∈ cs, H p.2 = some (.tbl #[])) → SqL K H a (ns.map V.int) → sp [.ref a] H (fun v _ => v = .bl true) E0) ∧
    ∀ base : Heap, K.In base → base.Ns mainGlobals mg → (∀ p ∈ cs, LamX.TabB base mg p.1 p.2) → FnG l.prog w K mg base CX0 k fa fd [x] sp
theorem walk_G {l : PySem.W.OpenLaw} {n k : Nat} {q : Program} {loose : List Str} {XP : (Str → Option Value) → Heap → Prop} {YP : World → Heap → Prop} {d : DefRec} {K : Params → PySem.W.Frag} {x : Str} (most : l.most = some n) (few : n ≤ sizeLine) (plain : d.params.defaults = []) (g : Room k callerA)
    (inK : ∀ (w : World) (h : Heap), YP w h → (K w.params).In h) (F : ∀ (w : World) (mg : Str → Option Value) (fa : Addr) (h : Heap), YP w h → (K w.params).In h → h.Ns mainGlobals mg → mg d.name = some (.ref fa) → LawAtG l w (K w.params) k n x mg fa h) :
    PySem.W.WalkO q loose XP YP l.row.toRowW d [] (fun f vs => PySem.call f vs) := by
  refine Att.attach_callB most plain ?_
  intro w s0 s mg mb fa o pm cd doc a vs ns G Y ho hd hcd hmg scr zs_are len bits gens
  obtain ⟨fd, cs, sp, t1, t2, t3, bind, told, runs⟩ := F w mg fa _ Y (inK w _ Y) G.T.g hmg
  exact law_G (B := { inK := inK w _ Y, glob := G.T.g, blt := ⟨mb, G.T.b, G.T.builtins⟩, lim := G.T.nolimit, gens := gens, tabs := t1, free := t2, codes := t3, bmod := G.T.bmain }) scr zs_are (Nat.le_trans len few) ⟨g, rfl⟩ runs bind fun H h1 h2 => told H a ns len h1 h2
end Dl

set_option Elab.async false
set_option linter.all false
set_option maxRecDepth 100000
set_option maxHeartbeats 2000000
/-! Values as data: what a def of plain data does, told by a function from data to data. -/
namespace Dl
open PySem PySem.Spec PyProof.Rows L2

/-- plain data -/
inductive D where
  | non | bl (b : Bool) | int (i : Int) | str (s : Str)
  | tup (ds : List D) | lst (ds : List D)
  /-- a list that is only read (the script) -/
  | scr (ds : List D)
  | dic (ks : List Key) (ds : List D)
  /-- an instance whose fields stay as they are: its class, their names, their values -/
  | obj (c : Addr) (xs : List Str) (ds : List D)

mutual
inductive Is (K : PySem.W.Frag) (H : Hp) : V → D → Prop
  | non : Is K H .non .non
  | bl (b : Bool) : Is K H (.bl b) (.bl b)
  | int (i : Int) : Is K H (.int i) (.int i)
  | str (s : Str) : Is K H (.str s) (.str s)
  | tup {a : Addr} {vs : List V} {ds : List D} : SqT K H a vs → IsL K H vs ds → Is K H (.ref a) (.tup ds)
  | lst {a : Addr} {vs : List V} {ds : List D} : H a = some (.lst vs) → IsL K H vs ds → Is K H (.ref a) (.lst ds)
  | scr {a : Addr} {vs : List V} {ds : List D} : SqL K H a vs → IsL K H vs ds → Is K H (.ref a) (.scr ds)
  | dic {a : Addr} {kvs : List (Key × V)} {ks : List Key} {ds : List D} : H a = some (.dK kvs) → kvs.map (·.1) = ks → IsL K H (kvs.map (·.2)) ds → Is K H (.ref a) (.dic ks ds)
  | obj {a c dx : Addr} {fs : List (Str × V)} {xs : List Str} {ds : List D} : H a = some (.ins c dx fs) → fs.map (·.1) = xs → IsL K H (fs.map (·.2)) ds → Is K H (.ref a) (.obj c xs ds)
inductive IsL (K : PySem.W.Frag) (H : Hp) : List V → List D → Prop
  | nil : IsL K H [] []
  | cons {v : V} {vs : List V} {d : D} {ds : List D} : Is K H v d → IsL K H vs ds → IsL K H (v :: vs) (d :: ds)
end

theorem same_rd {H H' : Hp} {a : Addr} {u : HO} (e : Same H H') (h : Rd H a u) : Rd H' a u := by
  rcases h with h | ⟨o, h⟩
  · exact .inl (e _ _ h)
  · exact .inr ⟨o, e _ _ h⟩
theorem same_l {K : PySem.W.Frag} {H H' : Hp} {a : Addr} {xs : List V} (e : Same H H') (h : SqL K H a xs) : SqL K H' a xs := e.seq h
theorem same_t {K : PySem.W.Frag} {H H' : Hp} {a : Addr} {xs : List V} (e : Same H H') (h : SqT K H a xs) : SqT K H' a xs := by
  rcases h with h | h
  · exact .inl (same_rd e h)
  · exact .inr h
mutual
theorem Is.mono {K : PySem.W.Frag} {H H' : Hp} (e : Same H H') {v : V} {d : D} : Is K H v d → Is K H' v d
  | .non => .non
  | .bl b => .bl b
  | .int i => .int i
  | .str s => .str s
  | .tup h r => .tup (same_t e h) (r.mono e)
  | .lst h r => .lst (e _ _ h) (r.mono e)
  | .scr h r => .scr (same_l e h) (r.mono e)
  | .dic h k r => .dic (e _ _ h) k (r.mono e)
  | .obj h k r => .obj (e _ _ h) k (r.mono e)
theorem IsL.mono {K : PySem.W.Frag} {H H' : Hp} (e : Same H H') {vs : List V} {ds : List D} : IsL K H vs ds → IsL K H' vs ds
  | .nil => .nil
  | .cons h r => .cons (h.mono e) (r.mono e)
end
theorem IsL.len {K : PySem.W.Frag} {H : Hp} : ∀ {vs : List V} {ds : List D}, IsL K H vs ds → vs.length = ds.length
  | _, _, .nil => rfl
  | _, _, .cons _ r => congrArg (· + 1) r.len
theorem IsL.get {K : PySem.W.Frag} {H : Hp} : ∀ {vs : List V} {ds : List D} {i : Nat} {d : D}, IsL K H vs ds → ds[i]? = some d → ∃ v, vs[i]? = some v ∧ Is K H v d
  | _, _, _, _, .nil, e => by simp at e
  | _, _, 0, _, .cons h _, e => by simp at e; subst e; exact ⟨_, rfl, h⟩
  | _, _, i + 1, d, .cons _ r, e => by
    obtain ⟨v, h1, h2⟩ := r.get (i := i) (d := d) (by simpa using e)
    exact ⟨v, by simpa using h1, h2⟩
theorem IsL.getv {K : PySem.W.Frag} {H : Hp} : ∀ {vs : List V} {ds : List D} {i : Nat} {v : V}, IsL K H vs ds → vs[i]? = some v → ∃ d, ds[i]? = some d ∧ Is K H v d
  | _, _, _, _, .nil, e => by simp at e
  | _, _, 0, _, .cons h _, e => by simp at e; subst e; exact ⟨_, rfl, h⟩
  | _, _, i + 1, d, .cons _ r, e => by
    obtain ⟨v, h1, h2⟩ := r.getv (i := i) (v := d) (by simpa using e)
    exact ⟨v, by simpa using h1, h2⟩
theorem IsL.append {K : PySem.W.Frag} {H : Hp} : ∀ {vs ws : List V} {ds es : List D}, IsL K H vs ds → IsL K H ws es → IsL K H (vs ++ ws) (ds ++ es)
  | _, _, _, _, .nil, s => s
  | _, _, _, _, .cons h r, s => .cons h (r.append s)
theorem IsL.take {K : PySem.W.Frag} {H : Hp} : ∀ {vs : List V} {ds : List D} (n : Nat), IsL K H vs ds → IsL K H (vs.take n) (ds.take n)
  | _, _, 0, _ => .nil
  | _, _, _ + 1, .nil => .nil
  | _, _, n + 1, .cons h r => .cons h (r.take n)
theorem IsL.drop {K : PySem.W.Frag} {H : Hp} : ∀ {vs : List V} {ds : List D} (n : Nat), IsL K H vs ds → IsL K H (vs.drop n) (ds.drop n)
  | _, _, 0, r => r
  | _, _, _ + 1, .nil => .nil
  | _, _, n + 1, .cons _ r => r.drop n
theorem IsL.set {K : PySem.W.Frag} {H : Hp} {v : V} {d : D} (h0 : Is K H v d) : ∀ {vs : List V} {ds : List D} (i : Nat), IsL K H vs ds → IsL K H (vs.set i v) (ds.set i d)
  | _, _, _, .nil => .nil
  | _, _, 0, .cons _ r => .cons h0 r
  | _, _, i + 1, .cons h r => .cons h (r.set h0 i)
theorem IsL.reverse {K : PySem.W.Frag} {H : Hp} : ∀ {vs : List V} {ds : List D}, IsL K H vs ds → IsL K H vs.reverse ds.reverse
  | _, _, .nil => .nil
  | _, _, .cons h r => by
    rw [List.reverse_cons, List.reverse_cons]
    exact r.reverse.append (.cons h .nil)
theorem IsL.eraseIdx {K : PySem.W.Frag} {H : Hp} : ∀ {vs : List V} {ds : List D} (i : Nat), IsL K H vs ds → IsL K H (vs.eraseIdx i) (ds.eraseIdx i)
  | _, _, _, .nil => .nil
  | _, _, 0, .cons _ r => r
  | _, _, i + 1, .cons h r => .cons h (r.eraseIdx i)

/-! ### heaps: G what stands still, H all that is tracked -/
/-- the tables of code objects that are tracked, each with the name of what it tells -/
class TbA where
  T : List (Addr × Str)
variable [TbA]
theorem lst_nt {vs : List V} (ps : Array Value) : HO.lst vs ≠ .tbl ps := fun z => by cases z
theorem dK_nt {kvs : List (Key × V)} (ps : Array Value) : HO.dK kvs ≠ .tbl ps := fun z => by cases z
theorem ins_nt {c dx : Addr} {fs : List (Str × V)} (ps : Array Value) : HO.ins c dx fs ≠ .tbl ps := fun z => by cases z
def NoTb (G : Hp) : Prop := ∀ a ps, G a ≠ some (.tbl ps)
structure Go (G H G' H' : Hp) : Prop where
  s : Same G H
  g : Same G G'
  gh : Same G' H'
  out : ∀ a o, G a = none → H a = some o → (∀ ps, o ≠ .tbl ps) → G' a = none ∧ H' a = some o
  tb : LamX.Tabs TbA.T H → LamX.Tabs TbA.T H'
  fr : ∀ a, H' a = none → H a = none
  gn : NoTb G → NoTb G'
theorem Go.refl {G H : Hp} (h : Same G H) : Go G H G H := ⟨h, Same.refl G, h, fun _ _ n e _ => ⟨n, e⟩, id, fun _ e => e, id⟩
theorem Go.trans {G H G1 H1 G2 H2 : Hp} (a : Go G H G1 H1) (b : Go G1 H1 G2 H2) : Go G H G2 H2 :=
  ⟨a.s, a.g.trans b.g, b.gh, fun x o n e t => let ⟨n1, e1⟩ := a.out x o n e t; b.out x o n1 e1 t, fun t => b.tb (a.tb t), fun x e => a.fr x (b.fr x e), fun t => b.gn (a.gn t)⟩
/-- no table, no code object -/
structure PlainO (o : HO) : Prop where
  nt : ∀ ps, o ≠ .tbl ps
  nc : ∀ c q, o ≠ LamX.CodeO c q
theorem lst_pl {vs : List V} : PlainO (.lst vs) := ⟨lst_nt, fun c q z => by unfold LamX.CodeO at z; cases z⟩
theorem dK_pl {kvs : List (Key × V)} : PlainO (.dK kvs) := ⟨dK_nt, fun c q z => by unfold LamX.CodeO at z; cases z⟩
theorem ins_pl {c dx : Addr} {fs : List (Str × V)} : PlainO (.ins c dx fs) := ⟨ins_nt, fun c q z => by unfold LamX.CodeO at z; cases z⟩
theorem frz_pl {o : Obj} {u : HO} : PlainO (.frz o u) := ⟨fun ps z => (by cases z), fun c q z => (by unfold LamX.CodeO at z; cases z)⟩
theorem own_pl {x : Addr} : PlainO (.own x) := ⟨fun ps z => (by cases z), fun c q z => (by unfold LamX.CodeO at z; cases z)⟩
theorem tabs_mut {T : List (Addr × Str)} {H : Hp} {p : Addr} {o0 o : HO} (t : LamX.Tabs T H) (h : H p = some o0) (n : PlainO o0) : LamX.Tabs T (upd H p o) := fun x hx => by
  obtain ⟨ps, h1, h2, h3⟩ := t x hx
  refine ⟨ps, ?_, h2, fun pos cv hc => ?_⟩
  · have ne : x.1 ≠ p := fun z => by
      rw [z, h] at h1
      exact n.nt ps (Option.some.inj h1)
    rw [upd_ne ne]
    exact h1
  · obtain ⟨c, e1, e2⟩ := h3 pos cv hc
    refine ⟨c, e1, ?_⟩
    have ne : c ≠ p := fun z => by
      rw [z, h] at e2
      exact n.nc _ _ (Option.some.inj e2)
    rw [upd_ne ne]
    exact e2
/-- all that is tracked but the tables -/
def noT (H : Hp) : Hp := fun a => match H a with
  | some (.tbl _) => none
  | o => o
theorem noT_of {H : Hp} {a : Addr} {o : HO} (h : H a = some o) (t : ∀ ps, o ≠ .tbl ps) : noT H a = some o := by
  unfold noT
  rw [h]
  cases o with
  | tbl ps => exact absurd rfl (t ps)
  | _ => rfl
theorem noT_at {H : Hp} {a : Addr} {o : HO} (h : noT H a = some o) : H a = some o ∧ ∀ ps, o ≠ .tbl ps := by
  unfold noT at h
  split at h
  · cases h
  · rename_i n
    exact ⟨h, fun ps z => by subst z; exact n ps h⟩
theorem Go.same {G H G' H' : Hp} (a : Go G H G' H') : Same (noT H) H' := fun x o e => by
  obtain ⟨e, t⟩ := noT_at e
  cases q : G x with
  | none => exact (a.out x o q e t).2
  | some u =>
    have e1 := a.s x u q
    rw [e] at e1
    cases e1
    exact a.gh x o (a.g x o q)
theorem Go.free {G H G' H' : Hp} (a : Go G H G' H') {x : Addr} (e : H' x = none) : H x = none := a.fr x e
theorem notb_upd {G : Hp} {p : Addr} {o : HO} (n : NoTb G) (ho : ∀ ps, o ≠ .tbl ps) : NoTb (upd G p o) := fun a ps z => by
  by_cases h : a = p
  · subst h
    rw [upd_same] at z
    exact ho ps (Option.some.inj z)
  · rw [upd_ne h] at z
    exact n a ps z
theorem noT_no {H : Hp} : NoTb (noT H) := fun a ps z => (noT_at z).2 ps rfl
theorem upd_none {H : Hp} {a b : Addr} {o : HO} (e : upd H a o b = none) : H b = none := by
  unfold upd at e
  split at e
  · cases e
  · exact e
theorem same_upd {H : Hp} {p : Addr} {o : HO} (h : H p = none) : Same H (upd H p o) := fun b x e => by
  rw [upd_ne (ne_of_none e h)]
  exact e
theorem Go.new {G H : Hp} {p : Addr} {o : HO} (gh : Same G H) (hp : H p = none) (ho : ∀ ps, o ≠ .tbl ps := by intro ps z; cases z) : Go G H (upd G p o) (upd H p o) := by
  have gp : G p = none := gh.free hp
  refine ⟨gh, same_upd gp, fun a u e => ?_, fun a u n e _ => ?_, fun t => t.ext (same_upd hp), fun a e => upd_none e, fun t => notb_upd t ho⟩
  · by_cases h : a = p
    · subst h
      rw [upd_same] at e ⊢
      exact e
    · rw [upd_ne h] at e ⊢
      exact gh a u e
  · have ne : a ≠ p := ne_of_none e hp
    rw [upd_ne ne, upd_ne ne]
    exact ⟨n, e⟩

/-- something new that is not data yet -/
theorem Go.fresh {G H G' H' : Hp} {l : Addr} {o : HO} (g : Go G H G' H') (hl : H' l = none) : Go G H G' (upd H' l o) := by
  have nl : G' l = none := g.gh.free hl
  refine ⟨g.s, g.g, fun a u n => ?_, fun a u n e t => ?_, fun t => (g.tb t).ext (same_upd hl), fun a e => g.fr a (upd_none e), g.gn⟩
  · rw [upd_ne (ne_of_none n nl)]; exact g.gh a u n
  · obtain ⟨n1, e3⟩ := g.out a u n e t
    exact ⟨n1, by rw [upd_ne (ne_of_none e3 hl)]; exact e3⟩
/-- an own thing changes -/
theorem Go.mut {G0 H0 G H : Hp} {p : Addr} {o0 o : HO} (g : Go G0 H0 G H) (gp : G p = none) (h0 : H0 p = none) (hp : H p = some o0) (pl : PlainO o0) : Go G0 H0 G (upd H p o) := by
  refine ⟨g.s, g.g, fun a u e => ?_, fun a u n e t => ?_, fun t => tabs_mut (g.tb t) hp pl, fun a e => g.fr a (upd_none e), g.gn⟩
  · rw [upd_ne (ne_of_none e gp)]; exact g.gh a u e
  · obtain ⟨n1, e1⟩ := g.out a u n e t
    exact ⟨n1, by rw [upd_ne (ne_of_none e h0)]; exact e1⟩
theorem noT_le {H H' : Hp} (s : Same H H') : Same (noT H) H' := fun x o e => s x o (noT_at e).1
theorem noT_mono {H H' : Hp} (s : Same H H') : Same (noT H) (noT H') := fun x o e => noT_of (s x o (noT_at e).1) (noT_at e).2
theorem rd_noT {H : Hp} {a : Addr} {u : HO} (n : ∀ ps, u ≠ .tbl ps) (h : Rd H a u) : Rd (noT H) a u := by
  rcases h with h | ⟨o, h⟩
  · exact .inl (noT_of h n)
  · exact .inr ⟨o, noT_of h fun ps z => by cases z⟩
theorem sqL_noT {K : PySem.W.Frag} {H : Hp} {a : Addr} {xs : List V} (h : SqL K H a xs) : SqL K (noT H) a xs := by
  rcases h with h | h
  · exact .inl (rd_noT (fun ps z => (by cases z)) h)
  · exact .inr h
theorem sqT_noT {K : PySem.W.Frag} {H : Hp} {a : Addr} {xs : List V} (h : SqT K H a xs) : SqT K (noT H) a xs := by
  rcases h with h | h
  · exact .inl (rd_noT (fun ps z => (by cases z)) h)
  · exact .inr h
/-! ### slots -/
inductive Sl where
  | val (d : D) | own (ds : List D) | ownd (ks : List Key) (ds : List D)
  /-- an instance that its __init__ is making -/
  | owni (p c : Addr) (xs : List Str) (ds : List D)
abbrev En := List (Option Sl)
def Sl.isOwn : Sl → Bool
  | .val _ => false
  | _ => true
def SlOk (K : PySem.W.Frag) (G H0 H : Hp) (v : V) : Sl → Prop
  | .val d => Is K G v d
  | .own ds => ∃ p vs, v = .ref p ∧ H0 p = none ∧ G p = none ∧ H p = some (.lst vs) ∧ IsL K G vs ds
  | .ownd ks ds => ∃ p kvs, v = .ref p ∧ H0 p = none ∧ G p = none ∧ H p = some (.dK kvs) ∧ kvs.map (·.1) = ks ∧ IsL K G (kvs.map (·.2)) ds
  | .owni p c xs ds => ∃ dx fs, v = .ref p ∧ H0 p = none ∧ G p = none ∧ H p = some (.ins c dx fs) ∧ fs.map (·.1) = xs ∧ IsL K G (fs.map (·.2)) ds
structure Rp (K : PySem.W.Frag) (H0 G : Hp) (env : En) (σ : L2.St) (H : Hp) : Prop where
  gh : Same G H
  tb : LamX.Tabs TbA.T H
  gn : NoTb G
  len : σ.length = env.length
  sl : ∀ (i : Nat) (s : Sl), env[i]? = some (some s) → ∃ v, σ[i]? = some (some v) ∧ SlOk K G H0 H v s
  dis : ∀ (i j : Nat) (s t : Sl) (v : V), i ≠ j → env[i]? = some (some s) → env[j]? = some (some t) → s.isOwn = true → t.isOwn = true → σ[i]? = some (some v) → σ[j]? ≠ some (some v)
section
variable {K : PySem.W.Frag} {H0 G H G' H' : Hp} {env : En} {σ : L2.St} {v : V} {s : Sl}
theorem SlOk.go (e : Go G H G' H') (h : SlOk K G H0 H v s) : SlOk K G' H0 H' v s := by
  cases s with
  | val d => exact Is.mono e.g h
  | own ds =>
    obtain ⟨p, vs, e1, e2, e3, e4, e5⟩ := h
    obtain ⟨n, q⟩ := e.out p _ e3 e4 lst_nt
    exact ⟨p, vs, e1, e2, n, q, e5.mono e.g⟩
  | ownd ks ds =>
    obtain ⟨p, kvs, e1, e2, e3, e4, e5, e6⟩ := h
    obtain ⟨n, q⟩ := e.out p _ e3 e4 dK_nt
    exact ⟨p, kvs, e1, e2, n, q, e5, e6.mono e.g⟩
  | owni p c xs ds =>
    obtain ⟨dx, fs, e1, e2, e3, e4, e5, e6⟩ := h
    obtain ⟨n, q⟩ := e.out p _ e3 e4 ins_nt
    exact ⟨dx, fs, e1, e2, n, q, e5, e6.mono e.g⟩
theorem Rp.go (r : Rp K H0 G env σ H) (e : Go G H G' H') : Rp K H0 G' env σ H' :=
  ⟨e.gh, e.tb r.tb, e.gn r.gn, r.len, fun i s h => let ⟨v, h1, h2⟩ := r.sl i s h; ⟨v, h1, h2.go e⟩, r.dis⟩
end

/-- v reads as d: data that stands still, or an own list, an own dict -/
inductive IsR (K : PySem.W.Frag) (G H : Hp) : V → D → Prop
  | is {v : V} {d : D} : Is K G v d → IsR K G H v d
  | own {p : Addr} {vs : List V} {ds : List D} : G p = none → H p = some (.lst vs) → IsL K G vs ds → IsR K G H (.ref p) (.lst ds)
  | ownd {p : Addr} {kvs : List (Key × V)} {ks : List Key} {ds : List D} : G p = none → H p = some (.dK kvs) → kvs.map (·.1) = ks → IsL K G (kvs.map (·.2)) ds → IsR K G H (.ref p) (.dic ks ds)
inductive IsRL (K : PySem.W.Frag) (G H : Hp) : List V → List D → Prop
  | nil : IsRL K G H [] []
  | cons {v : V} {vs : List V} {d : D} {ds : List D} : IsR K G H v d → IsRL K G H vs ds → IsRL K G H (v :: vs) (d :: ds)
section
variable {K : PySem.W.Frag} {G H G' H' : Hp} {v : V} {d : D}
theorem IsR.go (e : Go G H G' H') (h : IsR K G H v d) : IsR K G' H' v d := by
  cases h with
  | is h => exact .is (h.mono e.g)
  | own n q r => obtain ⟨n', q'⟩ := e.out _ _ n q lst_nt; exact .own n' q' (r.mono e.g)
  | ownd n q k r => obtain ⟨n', q'⟩ := e.out _ _ n q dK_nt; exact .ownd n' q' k (r.mono e.g)
theorem IsRL.go (e : Go G H G' H') : ∀ {vs : List V} {ds : List D}, IsRL K G H vs ds → IsRL K G' H' vs ds
  | _, _, .nil => .nil
  | _, _, .cons h r => .cons (h.go e) (IsRL.go e r)
theorem IsR.non (h : IsR K G H v .non) : v = .non := by cases h with | is h => cases h; rfl
theorem IsR.bl {b : Bool} (h : IsR K G H v (.bl b)) : v = .bl b := by cases h with | is h => cases h; rfl
theorem IsR.int {i : Int} (h : IsR K G H v (.int i)) : v = .int i := by cases h with | is h => cases h; rfl
theorem IsR.str {s : Str} (h : IsR K G H v (.str s)) : v = .str s := by cases h with | is h => cases h; rfl
theorem IsR.tup {ds : List D} (gh : Same G H) (h : IsR K G H v (.tup ds)) : ∃ p vs, v = .ref p ∧ SqT K G p vs ∧ SqT K H p vs ∧ IsL K G vs ds := by
  cases h with
  | is h => cases h with | tup q r => exact ⟨_, _, rfl, q, same_t gh q, r⟩
theorem IsR.lst {ds : List D} (gh : Same G H) (h : IsR K G H v (.lst ds)) : ∃ p vs, v = .ref p ∧ H p = some (.lst vs) ∧ IsL K G vs ds := by
  cases h with
  | is h => cases h with | lst q r => exact ⟨_, _, rfl, gh _ _ q, r⟩
  | own n q r => exact ⟨_, _, rfl, q, r⟩
theorem IsR.scr {ds : List D} (gh : Same G H) (h : IsR K G H v (.scr ds)) : ∃ p vs, v = .ref p ∧ SqL K H p vs ∧ IsL K G vs ds := by
  cases h with
  | is h => cases h with | scr q r => exact ⟨_, _, rfl, same_l gh q, r⟩
theorem IsR.dic {ks : List Key} {ds : List D} (gh : Same G H) (h : IsR K G H v (.dic ks ds)) : ∃ p kvs, v = .ref p ∧ H p = some (.dK kvs) ∧ kvs.map (·.1) = ks ∧ IsL K G (kvs.map (·.2)) ds := by
  cases h with
  | is h => cases h with | dic q k r => exact ⟨_, _, rfl, gh _ _ q, k, r⟩
  | ownd n q k r => exact ⟨_, _, rfl, q, k, r⟩
theorem IsRL.one {vs : List V} (h : IsRL K G H vs [d]) : ∃ v, vs = [v] ∧ IsR K G H v d := by
  cases h with
  | cons a r => cases r; exact ⟨_, rfl, a⟩
theorem IsRL.two {vs : List V} {e : D} (h : IsRL K G H vs [d, e]) : ∃ v w, vs = [v, w] ∧ IsR K G H v d ∧ IsR K G H w e := by
  cases h with
  | cons a r =>
    cases r with
    | cons b r => cases r; exact ⟨_, _, rfl, a, b⟩
end

/-! ### the judgements -/
/-- an expression's reading gives the data m env, new or standing still -/
def TD (K : PySem.W.Frag) (t : TE) (m : En → Option D) : Prop := ∀ (H0 : Hp) (env : En) (σ : L2.St) (H G : Hp) (d : D) (Q : VK), Rp K H0 G env σ H → m env = some d → (∀ v G' H', Go G H G' H' → Is K G' v d → Q v H') → t σ H Q
/-- .. it may be an own list too: for those who only read it -/
def TR (K : PySem.W.Frag) (t : TE) (m : En → Option D) : Prop := ∀ (H0 : Hp) (env : En) (σ : L2.St) (H G : Hp) (d : D) (Q : VK), Rp K H0 G env σ H → m env = some d → (∀ v G' H', Go G H G' H' → IsR K G' H' v d → Q v H') → t σ H Q
def TB (K : PySem.W.Frag) (t : TT) (m : En → Option Bool) : Prop := ∀ (H0 : Hp) (env : En) (σ : L2.St) (H G : Hp) (b : Bool) (Q : Bool → Hp → Prop), Rp K H0 G env σ H → m env = some b → (∀ G' H', Go G H G' H' → Q b H') → t σ H Q
def TAd (K : PySem.W.Frag) (t : TA) (m : En → Option (List D)) : Prop := ∀ (H0 : Hp) (env : En) (σ : L2.St) (H G : Hp) (ds : List D) (Q : List V → Hp → Prop), Rp K H0 G env σ H → m env = some ds → (∀ vs G' H', Go G H G' H' → IsL K G' vs ds → Q vs H') → t σ H Q
def TAr (K : PySem.W.Frag) (t : TA) (m : En → Option (List D)) : Prop := ∀ (H0 : Hp) (env : En) (σ : L2.St) (H G : Hp) (ds : List D) (Q : List V → Hp → Prop), Rp K H0 G env σ H → m env = some ds → (∀ vs G' H', Go G H G' H' → IsRL K G' H' vs ds → Q vs H') → t σ H Q
structure DE (X : Cx) (K : PySem.W.Frag) (e : Expr) (t : TE) (m : En → Option D) : Prop where
  p : PE X e t
  d : TD K t m
structure DR (X : Cx) (K : PySem.W.Frag) (e : Expr) (t : TE) (m : En → Option D) : Prop where
  p : PE X e t
  d : TR K t m
structure DT (X : Cx) (K : PySem.W.Frag) (e : Expr) (t : TT) (m : En → Option Bool) : Prop where
  p : PT X e t
  d : TB K t m
structure DW (X : Cx) (K : PySem.W.Frag) (e : Expr) (t : TT) (m : En → Option Bool) : Prop where
  p : PW X e t
  d : TB K t m
structure DA (X : Cx) (K : PySem.W.Frag) (es : List Expr) (t : TA) (m : En → Option (List D)) : Prop where
  p : PA X es t
  d : TAd K t m
structure DAr (X : Cx) (K : PySem.W.Frag) (es : List Expr) (t : TA) (m : En → Option (List D)) : Prop where
  p : PA X es t
  d : TAr K t m

theorem bind_some_of {α β : Type} {o : Option α} {f : α → Option β} {z : β} (h : o.bind f = some z) : ∃ x, o = some x ∧ f x = some z := by
  cases o with
  | none => cases h
  | some x => exact ⟨x, rfl, h⟩
section
variable {X : Cx} {K : PySem.W.Frag} {e : Expr} {es : List Expr} {pos : Pos} {t : TE} {ta tb : TE} {tt tu : TT}
def nameV (i : Nat) (env : En) : Option D := match env[i]? with
  | some (some (.val d)) => some d
  | _ => none
def nameR (i : Nat) (env : En) : Option D := match env[i]? with
  | some (some (.val d)) => some d
  | some (some (.own ds)) => some (.lst ds)
  | some (some (.ownd ks ds)) => some (.dic ks ds)
  | _ => none
theorem nameV_some {i : Nat} {env : En} {d : D} (h : nameV i env = some d) : env[i]? = some (some (.val d)) := by
  unfold nameV at h
  split at h
  · cases h; assumption
  · cases h
theorem td_name (i : Nat) : TD K (tVar i) (nameV i) := fun H0 env σ H G d Q r h q => by
  obtain ⟨v, h1, h2⟩ := r.sl i _ (nameV_some h)
  exact ⟨v, h1, q v G H (Go.refl r.gh) h2⟩
theorem tr_name (i : Nat) : TR K (tVar i) (nameR i) := fun H0 env σ H G d Q r h q => by
  unfold nameR at h
  split at h
  · rename_i e1
    cases h
    obtain ⟨v, h1, h2⟩ := r.sl i _ e1
    exact ⟨v, h1, q v G H (Go.refl r.gh) (.is h2)⟩
  · rename_i e1
    cases h
    obtain ⟨v, h1, p, vs, e2, e3, e4, e5, e6⟩ := r.sl i _ e1
    subst e2
    exact ⟨_, h1, q _ G H (Go.refl r.gh) (.own e4 e5 e6)⟩
  · rename_i e1
    cases h
    obtain ⟨v, h1, p, kvs, e2, e3, e4, e5, e6, e7⟩ := r.sl i _ e1
    subst e2
    exact ⟨_, h1, q _ G H (Go.refl r.gh) (.ownd e4 e5 e6 e7)⟩
  · cases h
theorem de_name (i : Nat) {x : Str} (hN : X.N[i]? = some x := by rfl) (hv : Vis X.env.scope x := by first | exact Or.inl rfl | exact Or.inr (Or.inl rfl) | exact Or.inr (Or.inr rfl)) (hd : (x == ("__debug__" : Str)) = false := by decide)
    (hcd : (x == ("__classdict__" : Str)) = false := by decide) : DE X K (.Name x pos) (tVar i) (nameV i) := ⟨pe_var hN hv hd hcd, td_name i⟩
theorem dr_name (i : Nat) {x : Str} (hN : X.N[i]? = some x := by rfl) (hv : Vis X.env.scope x := by first | exact Or.inl rfl | exact Or.inr (Or.inl rfl) | exact Or.inr (Or.inr rfl)) (hd : (x == ("__debug__" : Str)) = false := by decide)
    (hcd : (x == ("__classdict__" : Str)) = false := by decide) : DR X K (.Name x pos) (tVar i) (nameR i) := ⟨pe_var hN hv hd hcd, tr_name i⟩
theorem TD.r {m : En → Option D} (h : TD K t m) : TR K t m := fun H0 env σ H G d Q r e q => h H0 env σ H G d Q r e fun v G' H' g i => q v G' H' g (.is i)
theorem dr_of {m : En → Option D} (h : DE X K e t m) : DR X K e t m := ⟨h.p, h.d.r⟩
/-- constants -/
theorem td_c {v : V} {d : D} (h : ∀ G, Is K G v d) : TD K (tC v) (fun _ => some d) := fun H0 env σ H G d' Q r e q => by
  cases e
  exact q v G H (Go.refl r.gh) (h G)
theorem de_int {i : Int} {j} : DE X K (.Constant (.int i) j pos) (tC (.int i)) (fun _ => some (.int i)) := ⟨pe_int, td_c fun _ => .int i⟩
theorem de_bl {b : Bool} {j} : DE X K (.Constant (.bool b) j pos) (tC (.bl b)) (fun _ => some (.bl b)) := ⟨pe_bl, td_c fun _ => .bl b⟩
theorem de_str {x : Str} {j} : DE X K (.Constant (.str x) j pos) (tC (.str x)) (fun _ => some (.str x)) := ⟨pe_str, td_c fun _ => .str x⟩
theorem de_non {j} : DE X K (.Constant .none j pos) (tC .non) (fun _ => some .non) := ⟨pe_non, td_c fun _ => .non⟩
/-- a global of the module that holds an int, a text -/
theorem de_glob {x : Str} {v : V} {u : Value} {d : D} (hg : Gl X x) (hm : X.mg x = some u) (r : RelV v u) (h : ∀ G, Is K G v d) (hd : (x == ("__debug__" : Str)) = false := by decide) : DE X K (.Name x pos) (tC v) (fun _ => some d) := ⟨pe_glob hg hm r hd, td_c h⟩
/-- argument lists -/
theorem tad_nil : TAd K tNil (fun _ => some []) := fun H0 env σ H G ds Q r e q => by cases e; exact q [] G H (Go.refl r.gh) .nil
theorem tar_nil : TAr K tNil (fun _ => some []) := fun H0 env σ H G ds Q r e q => by cases e; exact q [] G H (Go.refl r.gh) .nil
theorem da_nil : DA X K [] tNil (fun _ => some []) := ⟨pa_nil, tad_nil⟩
theorem dar_nil : DAr X K [] tNil (fun _ => some []) := ⟨pa_nil, tar_nil⟩
def consM (m : En → Option D) (ms : En → Option (List D)) (env : En) : Option (List D) := (m env).bind fun d => (ms env).bind fun ds => some (d :: ds)
theorem consM_some {m : En → Option D} {ms : En → Option (List D)} {env : En} {ds : List D} (h : consM m ms env = some ds) : ∃ d r, m env = some d ∧ ms env = some r ∧ ds = d :: r := by
  obtain ⟨d, h1, h⟩ := bind_some_of h
  obtain ⟨r, h2, h⟩ := bind_some_of h
  cases h
  exact ⟨d, r, h1, h2, rfl⟩
variable {ta' : TA} {tk : TA}
theorem da_cons {m : En → Option D} {ms : En → Option (List D)} (h1 : DE X K e t m) (h2 : DA X K es ta' ms) (hs : starEach (e :: es) X.env = (false, eval e X.env) :: starEach es X.env := by rfl) : DA X K (e :: es) (tCons t ta') (consM m ms) := by
  refine ⟨pa_cons h1.p h2.p hs, fun H0 env σ H G ds Q r e q => ?_⟩
  obtain ⟨d, ds', e1, e2, rfl⟩ := consM_some e
  refine h1.d H0 env σ H G d _ r e1 fun v G1 H1 g1 i1 => ?_
  exact h2.d H0 env σ H1 G1 ds' _ (r.go g1) e2 fun vs G2 H2 g2 i2 => q _ G2 H2 (g1.trans g2) (.cons (i1.mono g2.g) i2)
theorem dar_cons {m : En → Option D} {ms : En → Option (List D)} (h1 : DR X K e t m) (h2 : DAr X K es ta' ms) (hs : starEach (e :: es) X.env = (false, eval e X.env) :: starEach es X.env := by rfl) : DAr X K (e :: es) (tCons t ta') (consM m ms) := by
  refine ⟨pa_cons h1.p h2.p hs, fun H0 env σ H G ds Q r e q => ?_⟩
  obtain ⟨d, ds', e1, e2, rfl⟩ := consM_some e
  refine h1.d H0 env σ H G d _ r e1 fun v G1 H1 g1 i1 => ?_
  exact h2.d H0 env σ H1 G1 ds' _ (r.go g1) e2 fun vs G2 H2 g2 i2 => q _ G2 H2 (g1.trans g2) (.cons (i1.go g2) i2)
/-- displays -/
def tupM (ms : En → Option (List D)) (env : En) : Option D := (ms env).bind fun ds => if ds.length ≤ 100000 then some (.tup ds) else none
def lstM (ms : En → Option (List D)) (env : En) : Option D := (ms env).bind fun ds => if ds.length ≤ 100000 then some (.lst ds) else none
theorem de_tup {x1} {ms : En → Option (List D)} (h : DA X K es ta' ms) : DE X K (.Tuple es x1 pos) (tTup ta') (tupM ms) := by
  refine ⟨pe_tup h.p, fun H0 env σ H G d Q r e q => ?_⟩
  obtain ⟨ds, e1, e⟩ := bind_some_of e
  split at e
  · cases e
    rename_i hz
    refine h.d H0 env σ H G ds _ r e1 fun vs G1 H1 g1 i1 => ⟨?_, fun p hp => ?_⟩
    · rw [i1.len]; exact Nat.le_trans hz (by decide)
    · have g2 : Go G1 H1 (upd G1 p (.tup vs)) (upd H1 p (.tup vs)) := Go.new g1.gh hp
      exact q _ _ _ (g1.trans g2) (.tup (SqT.of upd_same) (i1.mono g2.g))
  · cases e
theorem de_lst {ms : En → Option (List D)} (h : DA X K es ta' ms) : DE X K (.List es pos) (tLst ta') (lstM ms) := by
  refine ⟨pe_lst h.p, fun H0 env σ H G d Q r e q => ?_⟩
  obtain ⟨ds, e1, e⟩ := bind_some_of e
  split at e
  · cases e
    rename_i hz
    refine h.d H0 env σ H G ds _ r e1 fun vs G1 H1 g1 i1 => ⟨?_, fun p hp => ?_⟩
    · rw [i1.len]; exact Nat.le_trans hz (by decide)
    · have g2 : Go G1 H1 (upd G1 p (.lst vs)) (upd H1 p (.lst vs)) := Go.new g1.gh hp
      exact q _ _ _ (g1.trans g2) (.lst upd_same (i1.mono g2.g))
  · cases e
/-! operators, by their rule on values -/
def RO (K : PySem.W.Frag) (r : R2) (f : D → D → Option D) : Prop := ∀ (G H : Hp) (x y : V) (d e z : D) (Q : VK), Same G H → IsR K G H x d → IsR K G H y e → f d e = some z → (∀ v G' H', Go G H G' H' → Is K G' v z → Q v H') → r x y H Q
def RU1 (K : PySem.W.Frag) (r : V → Hp → VK → Prop) (f : D → Option D) : Prop := ∀ (G H : Hp) (x : V) (d z : D) (Q : VK), Same G H → IsR K G H x d → f d = some z → (∀ v G' H', Go G H G' H' → Is K G' v z → Q v H') → r x H Q
def RCl (K : PySem.W.Frag) (r : List V → Hp → VK → Prop) (f : List D → Option D) : Prop := ∀ (G H : Hp) (vs : List V) (ds : List D) (z : D) (Q : VK), Same G H → IsRL K G H vs ds → f ds = some z → (∀ v G' H', Go G H G' H' → Is K G' v z → Q v H') → r vs H Q
def bind2 (ma mb : En → Option D) (f : D → D → Option D) (env : En) : Option D := (ma env).bind fun d => (mb env).bind fun e => f d e
theorem bind2_some {ma mb : En → Option D} {f : D → D → Option D} {env : En} {z : D} (h : bind2 ma mb f env = some z) : ∃ d e, ma env = some d ∧ mb env = some e ∧ f d e = some z := by
  obtain ⟨d, h1, h⟩ := bind_some_of h
  obtain ⟨r, h2, h⟩ := bind_some_of h
  exact ⟨d, r, h1, h2, h⟩
theorem td_op {r : R2} {f : D → D → Option D} {ma mb : En → Option D} (hr : RO K r f) (ha : TR K ta ma) (hb : TR K tb mb) : TD K (tOp r ta tb) (bind2 ma mb f) := fun H0 env σ H G z Q rp e q => by
  obtain ⟨d, e', e1, e2, e3⟩ := bind2_some e
  refine ha H0 env σ H G d _ rp e1 fun v G1 H1 g1 i1 => ?_
  refine hb H0 env σ H1 G1 e' _ (rp.go g1) e2 fun w G2 H2 g2 i2 => ?_
  exact hr G2 H2 v w d e' z Q g2.gh (i1.go g2) i2 e3 fun u G3 H3 g3 i3 => q u G3 H3 ((g1.trans g2).trans g3) i3
theorem td_un {r : V → Hp → VK → Prop} {f : D → Option D} {ma : En → Option D} (hr : RU1 K r f) (ha : TR K ta ma) : TD K (tUn r ta) (fun env => (ma env).bind f) := fun H0 env σ H G z Q rp e q => by
  obtain ⟨d, e1, e3⟩ := bind_some_of e
  refine ha H0 env σ H G d _ rp e1 fun v G1 H1 g1 i1 => ?_
  exact hr G1 H1 v d z Q g1.gh i1 e3 fun u G3 H3 g3 i3 => q u G3 H3 (g1.trans g3) i3
variable {a b : Expr}
theorem de_op {op : Operator} {r : R2} {f : D → D → Option D} {ma mb : En → Option D} (ho : OpR X (binaryOp op) r) (hr : RO K r f) (ha : DR X K a ta ma) (hb : DR X K b tb mb) : DE X K (.BinOp a op b pos) (tOp r ta tb) (bind2 ma mb f) := ⟨pe_op ho ha.p hb.p, td_op hr ha.d hb.d⟩
theorem de_un {op : UnaryOp} {r : V → Hp → VK → Prop} {f : D → Option D} {ma : En → Option D} (ho : UnR X (unaryOp op) r) (hr : RU1 K r f) (ha : DR X K a ta ma) : DE X K (.UnaryOp op a pos) (tUn r ta) (fun env => (ma env).bind f) := ⟨pe_un ho ha.p, td_un hr ha.d⟩
theorem de_cmp {op : CmpOp} {r : R2} {f : D → D → Option D} {ma mb : En → Option D} (ho : OpR X (compareOp op) r) (hr : RO K r f) (ha : DR X K a ta ma) (hb : DR X K b tb mb) (hm : behindInMarks op b = false) : DE X K (.Compare a [op] [b] pos) (tOp r ta tb) (bind2 ma mb f) := ⟨pe_cmpR ho ha.p hb.p hm, td_op hr ha.d hb.d⟩
def boolM (m : En → Option D) (env : En) : Option Bool := match m env with
  | some (.bl b) => some b
  | _ => none
theorem boolM_some {m : En → Option D} {env : En} {b : Bool} (h : boolM m env = some b) : m env = some (.bl b) := by
  unfold boolM at h
  split at h
  · cases h; assumption
  · cases h
theorem tb_test {m : En → Option D} (h : TD K t m) : TB K (tTest t) (boolM m) := fun H0 env σ H G b Q r e q =>
  h H0 env σ H G _ _ r (boolM_some e) fun v G1 H1 g1 i1 => by cases i1; exact ⟨b, rfl, q G1 H1 g1⟩
theorem tb_B {m : En → Option D} (h : TD K t m) : TB K (tB t) (boolM m) := fun H0 env σ H G b Q r e q =>
  h H0 env σ H G _ _ r (boolM_some e) fun v G1 H1 g1 i1 => by cases i1; exact ⟨b, rfl, q G1 H1 g1⟩
theorem dt_cmp {op : CmpOp} {r : R2} {f : D → D → Option D} {ma mb : En → Option D} (ho : OpR X (compareOp op) r) (hr : RO K r f) (ha : DR X K a ta ma) (hb : DR X K b tb mb) (hm : behindInMarks op b = false) : DT X K (.Compare a [op] [b] pos) (tTest (tOp r ta tb)) (boolM (bind2 ma mb f)) := ⟨pt_cmpR ho ha.p hb.p hm, tb_test (td_op hr ha.d hb.d)⟩
theorem dt_val {m : En → Option D} (h : DE X K e t m) (he : ∀ whole, isTrue e X.env whole = (do let v ← whole; standAt e.pos; holding [v] (truthy v)) := by intro _; rfl) : DT X K e (tB t) (boolM m) := ⟨pt_val h.p he, tb_B h.d⟩
/-- and, or, not -/
def andM (m n : En → Option Bool) (env : En) : Option Bool := (m env).bind fun b => if b = true then n env else some false
def orM (m n : En → Option Bool) (env : En) : Option Bool := (m env).bind fun b => if b = true then some true else n env
def notM (m : En → Option Bool) (env : En) : Option Bool := (m env).bind fun b => some (!b)
variable {rest : List Expr} {mt nt : En → Option Bool}
theorem dw_and1 (h : DT X K a tt mt) : DW X K (.BoolOp .And [a] pos) tt mt := ⟨pw_and1 h.p, h.d⟩
theorem dw_or1 (h : DT X K a tt mt) : DW X K (.BoolOp .Or [a] pos) tt mt := ⟨pw_or1 h.p, h.d⟩
theorem dw_and (h1 : DT X K a tt mt) (h2 : DW X K (.BoolOp .And (b :: rest) pos) tu nt) : DW X K (.BoolOp .And (a :: b :: rest) pos) (tAnd tt tu) (andM mt nt) := by
  refine ⟨pw_and h1.p h2.p, fun H0 env σ H G c Q r e q => ?_⟩
  obtain ⟨x, e1, e2⟩ := bind_some_of e
  refine h1.d H0 env σ H G x _ r e1 fun G1 H1 g1 => ?_
  cases x with
  | true => exact iteT (h2.d H0 env σ H1 G1 c Q (r.go g1) (by simpa using e2) fun G2 H2 g2 => q G2 H2 (g1.trans g2))
  | false => 
    have e3 : c = false := by simpa using e2.symm
    subst e3
    exact iteF (q G1 H1 g1)
theorem dw_or (h1 : DT X K a tt mt) (h2 : DW X K (.BoolOp .Or (b :: rest) pos) tu nt) : DW X K (.BoolOp .Or (a :: b :: rest) pos) (tOr tt tu) (orM mt nt) := by
  refine ⟨pw_or h1.p h2.p, fun H0 env σ H G c Q r e q => ?_⟩
  obtain ⟨x, e1, e2⟩ := bind_some_of e
  refine h1.d H0 env σ H G x _ r e1 fun G1 H1 g1 => ?_
  cases x with
  | false => exact iteF (h2.d H0 env σ H1 G1 c Q (r.go g1) (by simpa using e2) fun G2 H2 g2 => q G2 H2 (g1.trans g2))
  | true => 
    have e3 : c = true := by simpa using e2.symm
    subst e3
    exact iteT (q G1 H1 g1)
theorem dt_w (h : DW X K e tt mt) : DT X K e tt mt := ⟨h.p.pt, h.d⟩
theorem dt_not (h : DT X K a tt mt) : DT X K (.UnaryOp .Not a pos) (tNot tt) (notM mt) := by
  refine ⟨pt_not h.p, fun H0 env σ H G c Q r e q => ?_⟩
  obtain ⟨x, e1, e2⟩ := bind_some_of e
  cases e2
  exact h.d H0 env σ H G x _ r e1 fun G1 H1 g1 => q G1 H1 g1
/-- .. as values -/
def bl1 : D → Option Bool
  | .bl b => some b
  | _ => none
theorem bl1_some {d : D} {b : Bool} (h : bl1 d = some b) : d = .bl b := by cases d <;> simp [bl1] at h; rw [h]
def andV (ma mb : En → Option D) (env : En) : Option D := (ma env).bind fun d => (bl1 d).bind fun b => if b = true then mb env else some (.bl false)
def orV (ma mb : En → Option D) (env : En) : Option D := (ma env).bind fun d => (bl1 d).bind fun b => if b = true then some (.bl true) else mb env
variable {ma mb : En → Option D}
theorem de_one {op} (h : DE X K a ta ma) : DE X K (.BoolOp op [a] pos) ta ma := ⟨pe_one h.p, h.d⟩
theorem de_and (h1 : DE X K a ta ma) (h2 : DE X K (.BoolOp .And (b :: rest) pos) tb mb) : DE X K (.BoolOp .And (a :: b :: rest) pos) (tAndV ta tb) (andV ma mb) := by
  refine ⟨pe_and h1.p h2.p, fun H0 env σ H G c Q r e q => ?_⟩
  obtain ⟨x, e1, e2⟩ := bind_some_of e
  obtain ⟨y, e3, e4⟩ := bind_some_of e2
  cases bl1_some e3
  refine h1.d H0 env σ H G _ _ r e1 fun v G1 H1 g1 i1 => ?_
  cases i1
  refine ⟨y, rfl, ?_⟩
  cases y with
  | true => exact iteT (h2.d H0 env σ H1 G1 c Q (r.go g1) (by simpa using e4) fun w G2 H2 g2 => q w G2 H2 (g1.trans g2))
  | false => 
    have e5 : c = .bl false := by simpa using e4.symm
    subst e5
    exact iteF (q _ G1 H1 g1 (.bl false))
theorem de_or (h1 : DE X K a ta ma) (h2 : DE X K (.BoolOp .Or (b :: rest) pos) tb mb) : DE X K (.BoolOp .Or (a :: b :: rest) pos) (tOrV ta tb) (orV ma mb) := by
  refine ⟨pe_or h1.p h2.p, fun H0 env σ H G c Q r e q => ?_⟩
  obtain ⟨x, e1, e2⟩ := bind_some_of e
  obtain ⟨y, e3, e4⟩ := bind_some_of e2
  cases bl1_some e3
  refine h1.d H0 env σ H G _ _ r e1 fun v G1 H1 g1 i1 => ?_
  cases i1
  refine ⟨y, rfl, ?_⟩
  cases y with
  | false => exact iteF (h2.d H0 env σ H1 G1 c Q (r.go g1) (by simpa using e4) fun w G2 H2 g2 => q w G2 H2 (g1.trans g2))
  | true => 
    have e5 : c = .bl true := by simpa using e4.symm
    subst e5
    exact iteT (q _ G1 H1 g1 (.bl true))
def notV (ma : En → Option D) (env : En) : Option D := (ma env).bind fun d => (bl1 d).bind fun b => some (.bl (!b))
theorem de_not (h : DE X K a ta ma) : DE X K (.UnaryOp .Not a pos) (tNotV ta) (notV ma) := by
  refine ⟨pe_not h.p, fun H0 env σ H G c Q r e q => ?_⟩
  obtain ⟨x, e1, e2⟩ := bind_some_of e
  obtain ⟨y, e3, e4⟩ := bind_some_of e2
  cases e4
  cases bl1_some e3
  refine h.d H0 env σ H G _ _ r e1 fun v G1 H1 g1 i1 => ?_
  cases i1
  exact ⟨y, rfl, q _ G1 H1 g1 (.bl _)⟩
def ifV (mc : En → Option Bool) (ma mb : En → Option D) (env : En) : Option D := (mc env).bind fun b => if b = true then ma env else mb env
theorem de_if {c : Expr} (hc : DT X K c tt mt) (h1 : DE X K a ta ma) (h2 : DE X K b tb mb) : DE X K (.IfExp c a b pos) (tIf tt ta tb) (ifV mt ma mb) := by
  refine ⟨pe_ifExp hc.p h1.p h2.p, fun H0 env σ H G z Q r e q => ?_⟩
  obtain ⟨x, e1, e2⟩ := bind_some_of e
  refine hc.d H0 env σ H G x _ r e1 fun G1 H1 g1 => ?_
  cases x with
  | true => exact iteT (h1.d H0 env σ H1 G1 z Q (r.go g1) (by simpa using e2) fun w G2 H2 g2 => q w G2 H2 (g1.trans g2))
  | false => exact iteF (h2.d H0 env σ H1 G1 z Q (r.go g1) (by simpa using e2) fun w G2 H2 g2 => q w G2 H2 (g1.trans g2))
/-- built-ins called -/
def callM (f : List D → Option D) (ms : En → Option (List D)) (env : En) : Option D := (ms env).bind f
theorem td_cb {r : List V → Hp → VK → Prop} {f : List D → Option D} {ms : En → Option (List D)} (hr : RCl K r f) (h : TAr K ta' ms) : TD K (tCB r ta') (callM f ms) := fun H0 env σ H G z Q rp e q => by
  obtain ⟨ds, e1, e2⟩ := bind_some_of e
  exact h H0 env σ H G ds _ rp e1 fun vs G1 H1 g1 i1 => hr G1 H1 vs ds z Q g1.gh i1 e2 fun v G2 H2 g2 i2 => q v G2 H2 (g1.trans g2) i2
theorem de_callB {id : String} {x : Str} {p : Pos} {r : List V → Hp → VK → Prop} {f : List D → Option D} {ms : En → Option (List D)} (hc : CallR X (.builtin id) r) (hr : RCl K r f) (hg : Gl X x) (hm : X.mg x = none) (hv : bootBuiltins x = some (.builtin id)) (ha : DAr X K (e :: es) ta' ms)
    (hn : x ≠ "__name__" := by decide) (hdb : (x == ("__debug__" : Str)) = false := by decide)
    (he : starEach (e :: es) X.env = (false, eval e X.env) :: starEach es X.env := by rfl) (hpl : (backTo pos (starEach es X.env)).any (·.1) = false := by rfl) : DE X K (.Call (.Name x p) (e :: es) [] pos) (tCB r ta') (callM f ms) :=
  ⟨pe_callB hc hg hm hv ha.p hn hdb he hpl, td_cb hr ha.d⟩
theorem de_callTy {T : String} {x : Str} {p : Pos} {r : List V → Hp → VK → Prop} {f : List D → Option D} {ms : En → Option (List D)} (hc : CallR X (.type T) r) (hr : RCl K r f) (hg : Gl X x) (hm : X.mg x = none) (hv : bootBuiltins x = some (.type T)) (ha : DAr X K (e :: es) ta' ms)
    (hn : x ≠ "__name__" := by decide) (hdb : (x == ("__debug__" : Str)) = false := by decide)
    (he : starEach (e :: es) X.env = (false, eval e X.env) :: starEach es X.env := by rfl) (hpl : (backTo pos (starEach es X.env)).any (·.1) = false := by rfl) : DE X K (.Call (.Name x p) (e :: es) [] pos) (tCB r ta') (callM f ms) :=
  ⟨pe_callTy hc hg hm hv ha.p hn hdb he hpl, td_cb hr ha.d⟩

/-! ### defs -/
/-- the promise of a def of plain data -/
def spD (K : PySem.W.Frag) (f : List D → Option D) : Sp := fun vs H Q _ => ∃ (G : Hp) (ds : List D) (d : D), (Same G H ∧ LamX.Tabs TbA.T H ∧ NoTb G) ∧ IsL K G vs ds ∧ f ds = some d ∧ ∀ v G' H', Go G H G' H' → Is K G' v d → Q v H'
/-- the def x stands in the module and keeps f's promise -/
structure DF (P : Program) (w : World) (K : PySem.W.Frag) (mg : Str → Option Value) (base : Heap) (x : Str) (k : Nat) (ps : List Str) (f : List D → Option D) : Prop where
  ex : ∃ (fa : Addr) (fd : FuncData), mg x = some (.ref fa) ∧ PySem.W.keepIn K (.ref fa) = true ∧ Binds K fd ps [] ∧ FnG P w K mg base CX0 k fa fd ps (spD K f)
theorem td_call {f : List D → Option D} {ms : En → Option (List D)} {dvs : List V} (hd : dvs = []) (h : TAd K ta' ms) : TD K (tCall (spD K f) dvs E0 ta') (callM f ms) := fun H0 env σ H G z Q rp e q => by
  obtain ⟨ds, e1, e2⟩ := bind_some_of e
  subst hd
  refine h H0 env σ H G ds _ rp e1 fun vs G1 H1 g1 i1 => ⟨G1, ds, z, ⟨g1.gh, g1.tb rp.tb, g1.gn rp.gn⟩, by rw [List.append_nil]; exact i1, e2, fun v G2 H2 g2 i2 => q v G2 H2 (g1.trans g2) i2⟩
theorem de_call {x : Str} {p : Pos} {k j : Nat} {ps : List Str} {f : List D → Option D} {ms : En → Option (List D)} (F : DF X.prog X.w K X.mg X.base x k ps f) (hr : RoomG j X.A) (hg : Gl X x) (ha : DA X K (e :: es) ta' ms) (hkj : k ≤ j) (hK : X.K = K := by rfl)
    (hdb : (x == ("__debug__" : Str)) = false := by decide) (he : starEach (e :: es) X.env = (false, eval e X.env) :: starEach es X.env := by rfl) (hpl : (backTo pos (starEach es X.env)).any (·.1) = false := by rfl) :
    DE X K (.Call (.Name x p) (e :: es) [] pos) (tCall (spD K f) [] E0 ta') (callM f ms) := by
  subst hK
  obtain ⟨fa, fd, hm, hk, hb, F⟩ := F.ex
  exact ⟨pe_callG F (hr.mono hkj) hg hm hk hb .nil pass0 ha.p hdb he hpl, td_call rfl ha.d⟩
end

/-! ### statements -/
inductive Out where
  | nx (env : En) | rt (d : D) | bk (env : En) | ct (env : En)
def Fin (K : PySem.W.Frag) (G0 H0 G : Hp) (Dn : Ends) : Out → Prop
  | .nx env => ∀ σ' G' H', Rp K H0 G' env σ' H' → Go G0 H0 G' H' → Same G G' → Dn.nx σ' H'
  | .rt d => ∀ v G' H', Go G0 H0 G' H' → Same G G' → Is K G' v d → Dn.rt v H'
  | .bk env => ∀ σ' G' H', Rp K H0 G' env σ' H' → Go G0 H0 G' H' → Same G G' → Dn.bk σ' H'
  | .ct env => ∀ σ' G' H', Rp K H0 G' env σ' H' → Go G0 H0 G' H' → Same G G' → Dn.ct σ' H'
def TSm (K : PySem.W.Frag) (t : TS) (m : En → Option Out) : Prop := ∀ (G0 H0 : Hp) (env : En) (σ : L2.St) (H G : Hp) (o : Out) (Dn : Ends), Rp K H0 G env σ H → Go G0 H0 G H → m env = some o → Fin K G0 H0 G Dn o → t Dn σ H
structure DS (X : Cx) (K : PySem.W.Frag) (st : Stmt) (t : TS) (m : En → Option Out) : Prop where
  p : PS X st t
  d : TSm K t m
structure DSs (X : Cx) (K : PySem.W.Frag) (sts : List Stmt) (t : TS) (m : En → Option Out) : Prop where
  p : PSs X sts t
  d : TSm K t m
theorem Fin.mono {K : PySem.W.Frag} {G0 H0 G G1 : Hp} {Dn : Ends} {o : Out} (h : Fin K G0 H0 G Dn o) (e : Same G G1) : Fin K G0 H0 G1 Dn o := by
  cases o with
  | nx env => exact fun σ' G' H' r g s => h σ' G' H' r g (e.trans s)
  | rt d => exact fun v G' H' g s i => h v G' H' g (e.trans s) i
  | bk env => exact fun σ' G' H' r g s => h σ' G' H' r g (e.trans s)
  | ct env => exact fun σ' G' H' r g s => h σ' G' H' r g (e.trans s)
section
variable {X : Cx} {K : PySem.W.Frag} {st : Stmt} {rest : List Stmt} {t u : TS} {te : TE} {tt : TT} {e : Expr} {pos : Pos} {ms ns : En → Option Out} {m : En → Option D}
def seqM (m n : En → Option Out) (env : En) : Option Out := (m env).bind fun
  | .nx env' => n env'
  | o => some o
theorem tsm_next : TSm K tNext (fun env => some (.nx env)) := fun G0 H0 env σ H G o Dn r g e f => by
  cases e
  exact f σ G H r g (Same.refl G)
theorem tsm_seq (h1 : TSm K t ms) (h2 : TSm K u ns) : TSm K (tSeq t u) (seqM ms ns) := fun G0 H0 env σ H G o Dn r g e f => by
  obtain ⟨o1, e1, e2⟩ := bind_some_of e
  refine h1 G0 H0 env σ H G o1 { Dn with nx := u Dn } r g e1 ?_
  cases o1 with
  | nx env' => exact fun σ' G' H' r' g' s => h2 G0 H0 env' σ' H' G' o Dn r' g' e2 (f.mono s)
  | rt d => cases e2; exact f
  | bk env' => cases e2; exact f
  | ct env' => cases e2; exact f
theorem dss_nil : DSs X K [] tNext (fun env => some (.nx env)) := ⟨pss_nil, tsm_next⟩
theorem dss_cons (h1 : DS X K st t ms) (h2 : DSs X K rest u ns) : DSs X K (st :: rest) (tSeq t u) (seqM ms ns) := ⟨pss_cons h1.p h2.p, tsm_seq h1.d h2.d⟩
theorem dss_one (h1 : DS X K st t ms) : DSs X K [st] t ms := ⟨pss_one h1.p, h1.d⟩
theorem ds_pass : DS X K (.Pass pos) tNext (fun env => some (.nx env)) := ⟨ps_pass, tsm_next⟩
theorem ds_break : DS X K (.Break pos) tBreak (fun env => some (.bk env)) := ⟨ps_break, fun G0 H0 env σ H G o Dn r g e f => by cases e; exact f σ G H r g (Same.refl G)⟩
theorem ds_cont : DS X K (.Continue pos) tCont (fun env => some (.ct env)) := ⟨ps_continue, fun G0 H0 env σ H G o Dn r g e f => by cases e; exact f σ G H r g (Same.refl G)⟩
def ifM (mc : En → Option Bool) (m n : En → Option Out) (env : En) : Option Out := (mc env).bind fun b => if b = true then m env else n env
theorem ds_if {c : Expr} {a b : List Stmt} {mc : En → Option Bool} (hc : DT X K c tt mc) (ha : DSs X K a t ms) (hb : DSs X K b u ns) : DS X K (.If c a b pos) (tIfS tt t u) (ifM mc ms ns) := by
  refine ⟨ps_if hc.p ha.p hb.p, fun G0 H0 env σ H G o Dn r g e f => ?_⟩
  obtain ⟨x, e1, e2⟩ := bind_some_of e
  refine hc.d H0 env σ H G x _ r e1 fun G1 H1 g1 => ?_
  cases x with
  | true => exact iteT (ha.d G0 H0 env σ H1 G1 o Dn (r.go g1) (g.trans g1) (by simpa using e2) (f.mono g1.g))
  | false => exact iteF (hb.d G0 H0 env σ H1 G1 o Dn (r.go g1) (g.trans g1) (by simpa using e2) (f.mono g1.g))

/-! #### an own list becomes a thing that stands still: nothing happens in the heap -/
def frz : Option Sl → Option Sl
  | some (.own ds) => some (.val (.lst ds))
  | some (.ownd ks ds) => some (.val (.dic ks ds))
  | some (.owni _ c xs ds) => some (.val (.obj c xs ds))
  | s => s
def frzAt (i : Nat) (env : En) : En := env.set i (frz (env[i]?.getD none))
theorem Rp.fz {H0 G G0 H : Hp} {env : En} {σ : L2.St} (i : Nat) (r : Rp K H0 G env σ H) (g : Go G0 H0 G H) : ∃ G', Rp K H0 G' (frzAt i env) σ H ∧ Go G0 H0 G' H ∧ Same G G' := by
  have keep : frzAt i env = env → ∃ G', Rp K H0 G' (frzAt i env) σ H ∧ Go G0 H0 G' H ∧ Same G G' := fun h => ⟨G, by rw [h]; exact r, g, Same.refl G⟩
  have hset : ∀ s, env[i]? = some s → frz s = s → frzAt i env = env := fun s h1 h2 => by
    unfold frzAt
    rw [h1]
    show env.set i (frz s) = env
    rw [h2]
    obtain ⟨hi, he⟩ := List.getElem?_eq_some_iff.mp h1
    rw [← he]
    exact List.set_getElem_self hi
  cases h1 : env[i]? with
  | none =>
    refine keep ?_
    unfold frzAt
    exact List.set_eq_of_length_le (List.getElem?_eq_none_iff.mp h1)
  | some s =>
    cases s with
    | none => exact keep (hset _ h1 rfl)
    | some s =>
      -- the own object at p turns to what stands still
      have main : ∀ (p : Addr) (o : HO) (d : D), σ[i]? = some (some (.ref p)) → H0 p = none → G p = none → H p = some o → s.isOwn = true → frz (some s) = some (.val d) → (∀ G' : Hp, Same G G' → G' p = some o → Is K G' (.ref p) d) → (∀ ps, o ≠ .tbl ps) → ∃ G', Rp K H0 G' (frzAt i env) σ H ∧ Go G0 H0 G' H ∧ Same G G' := fun p o d hσ h0 hG hH hown hfr his hnt => by
        have hs : Same G (upd G p o) := Dl.same_upd hG
        have hgh : Same (upd G p o) H := fun x u e => by
          by_cases hx : x = p
          · subst hx; rw [upd_same] at e; cases e; exact hH
          · rw [upd_ne hx] at e; exact r.gh x u e
        refine ⟨upd G p o, ⟨hgh, r.tb, notb_upd r.gn hnt, ?_, ?_, ?_⟩, ⟨g.s, g.g.trans hs, hgh, fun a u n e t => ?_, g.tb, g.fr, fun t => notb_upd (g.gn t) hnt⟩, hs⟩
        · rw [r.len]; unfold frzAt; rw [List.length_set]
        · intro j s' hj
          unfold frzAt at hj
          rw [h1] at hj
          by_cases hji : j = i
          · subst hji
            obtain ⟨hlt, _⟩ := List.getElem?_eq_some_iff.mp h1
            rw [List.getElem?_set_self hlt] at hj
            have hj' : frz (some s) = some s' := Option.some.inj hj
            rw [hfr] at hj'
            cases hj'
            exact ⟨_, hσ, his _ hs upd_same⟩
          · rw [List.getElem?_set_ne (Ne.symm hji)] at hj
            obtain ⟨v, h2, h3⟩ := r.sl j s' hj
            refine ⟨v, h2, ?_⟩
            have hne : s'.isOwn = true → v ≠ .ref p := fun ho hv => by
              subst hv
              exact r.dis i j s s' (.ref p) (Ne.symm hji) h1 hj hown ho hσ h2
            cases s' with
            | val d' => exact Is.mono hs h3
            | own ds =>
              obtain ⟨q, vs, e2, e3, e4, e5, e6⟩ := h3
              have hq : q ≠ p := fun z => hne rfl (by rw [e2, z])
              exact ⟨q, vs, e2, e3, by rw [upd_ne hq]; exact e4, e5, e6.mono hs⟩
            | ownd ks ds =>
              obtain ⟨q, kvs, e2, e3, e4, e5, e6, e7⟩ := h3
              have hq : q ≠ p := fun z => hne rfl (by rw [e2, z])
              exact ⟨q, kvs, e2, e3, by rw [upd_ne hq]; exact e4, e5, e6, e7.mono hs⟩
            | owni q c xs ds =>
              obtain ⟨dx, fs, e2, e3, e4, e5, e6, e7⟩ := h3
              have hq : q ≠ p := fun z => hne rfl (by rw [e2, z])
              exact ⟨dx, fs, e2, e3, by rw [upd_ne hq]; exact e4, e5, e6, e7.mono hs⟩
        · have back : ∀ (k : Nat) (s1 : Sl), (frzAt i env)[k]? = some (some s1) → s1.isOwn = true → env[k]? = some (some s1) := fun k s1 e o1 => by
            unfold frzAt at e
            rw [h1] at e
            by_cases hk : k = i
            · subst hk
              obtain ⟨hlt, _⟩ := List.getElem?_eq_some_iff.mp h1
              rw [List.getElem?_set_self hlt] at e
              have e' : frz (some s) = some s1 := Option.some.inj e
              rw [hfr] at e'
              cases e'
              cases o1
            · rw [List.getElem?_set_ne (Ne.symm hk)] at e
              exact e
          exact fun a b s1 s2 v hab ha hb o1 o2 => r.dis a b s1 s2 v hab (back a s1 ha o1) (back b s2 hb o2) o1 o2
        · obtain ⟨n1, e1⟩ := g.out a u n e t
          have hne : a ≠ p := fun z => by rw [z, h0] at e; cases e
          exact ⟨by rw [upd_ne hne]; exact n1, e1⟩
      cases s with
      | val d => exact keep (hset _ h1 rfl)
      | own ds =>
        obtain ⟨v, h2, p, vs, e2, e3, e4, e5, e6⟩ := r.sl i _ h1
        subst e2
        exact main p _ _ h2 e3 e4 e5 rfl rfl (fun G' s q => .lst q (e6.mono s)) lst_nt
      | ownd ks ds =>
        obtain ⟨v, h2, p, kvs, e2, e3, e4, e5, e6, e7⟩ := r.sl i _ h1
        subst e2
        exact main p _ _ h2 e3 e4 e5 rfl rfl (fun G' s q => .dic q e6 (e7.mono s)) dK_nt
      | owni p c xs ds =>
        obtain ⟨v, h2, dx, fs, e2, e3, e4, e5, e6, e7⟩ := r.sl i _ h1
        subst e2
        exact main p _ _ h2 e3 e4 e5 rfl rfl (fun G' s q => .obj q e6 (e7.mono s)) ins_nt
def frzL (is : List Nat) (env : En) : En := is.foldl (fun env i => frzAt i env) env
theorem Rp.fzL {H0 G0 H : Hp} {σ : L2.St} : ∀ (is : List Nat) {G : Hp} {env : En}, Rp K H0 G env σ H → Go G0 H0 G H → ∃ G', Rp K H0 G' (frzL is env) σ H ∧ Go G0 H0 G' H ∧ Same G G'
  | [], G, env, r, g => ⟨G, r, g, Same.refl G⟩
  | i :: is, G, env, r, g => by
    obtain ⟨G1, r1, g1, s1⟩ := r.fz i g
    obtain ⟨G2, r2, g2, s2⟩ := Rp.fzL is r1 g1
    exact ⟨G2, r2, g2, s1.trans s2⟩
theorem tsm_frz (is : List Nat) (h : TSm K t ms) : TSm K t (fun env => ms (frzL is env)) := fun G0 H0 env σ H G o Dn r g e f => by
  obtain ⟨G1, r1, g1, s1⟩ := r.fzL is g
  exact h G0 H0 _ σ H G1 o Dn r1 g1 e (f.mono s1)
theorem ds_frz (is : List Nat) (h : DS X K st t ms) : DS X K st t (fun env => ms (frzL is env)) := ⟨h.p, tsm_frz is h.d⟩
/-- all own things -/
def frzAll (env : En) : En := frzL (List.range env.length) env
theorem tsm_frzAll (h : TSm K t ms) : TSm K t (fun env => ms (frzAll env)) := fun G0 H0 env σ H G o Dn r g e f => by
  obtain ⟨G1, r1, g1, s1⟩ := r.fzL (List.range env.length) g
  exact h G0 H0 _ σ H G1 o Dn r1 g1 e (f.mono s1)

/-! #### return, a name's value, an expression -/
def retM (m : En → Option D) (env : En) : Option Out := (m env).bind fun d => some (.rt d)
theorem tsm_ret (h : TD K te m) : TSm K (tRet te) (retM m) := fun G0 H0 env σ H G o Dn r g e f => by
  obtain ⟨d, e1, e2⟩ := bind_some_of e
  cases e2
  exact h H0 env σ H G d _ r e1 fun v G1 H1 g1 i1 => f v G1 H1 (g.trans g1) g1.g i1
theorem ds_ret (h : DE X K e te m) : DS X K (.Return (some e) pos) (tRet te) (fun env => retM m (frzAll env)) := ⟨ps_ret h.p, tsm_frzAll (tsm_ret h.d)⟩
theorem ds_retN : DS X K (.Return none pos) tRetN (fun _ => some (.rt .non)) := ⟨ps_retN, fun G0 H0 env σ H G o Dn r g e f => by cases e; exact f .non G H g (Same.refl G) .non⟩
def setM (i : Nat) (m : En → Option D) (env : En) : Option Out := (m env).bind fun d => some (.nx (env.set i (some (.val d))))
theorem Rp.set {H0 G H : Hp} {env : En} {σ : L2.St} {v : V} {d : D} (r : Rp K H0 G env σ H) (i : Nat) (h : Is K G v d) : Rp K H0 G (env.set i (some (.val d))) (σ.set i (some v)) H := by
  have back : ∀ (k : Nat) (s1 : Sl), k ≠ i → (env.set i (some (Sl.val d)))[k]? = some (some s1) → env[k]? = some (some s1) := fun k s1 hk e => by
    rw [List.getElem?_set_ne (Ne.symm hk)] at e
    exact e
  have own : ∀ (k : Nat) (s1 : Sl), (env.set i (some (Sl.val d)))[k]? = some (some s1) → s1.isOwn = true → k ≠ i := fun k s1 e o z => by
    subst z
    have hlt : k < env.length := by
      have := (List.getElem?_eq_some_iff.mp e).1
      rwa [List.length_set] at this
    rw [List.getElem?_set_self hlt] at e
    cases e
    cases o
  refine ⟨r.gh, r.tb, r.gn, by rw [List.length_set, List.length_set]; exact r.len, fun k s1 e => ?_, fun a b s1 s2 w hab ha hb o1 o2 => ?_⟩
  · by_cases hk : k = i
    · subst hk
      have hlt : k < env.length := by
        have := (List.getElem?_eq_some_iff.mp e).1
        rwa [List.length_set] at this
      rw [List.getElem?_set_self hlt] at e
      cases e
      exact ⟨v, by rw [List.getElem?_set_self (by rw [r.len]; exact hlt)], h⟩
    · obtain ⟨w, h1, h2⟩ := r.sl k s1 (back k s1 hk e)
      exact ⟨w, by rw [List.getElem?_set_ne (Ne.symm hk)]; exact h1, h2⟩
  · have na := own a s1 ha o1
    have nb := own b s2 hb o2
    rw [List.getElem?_set_ne (Ne.symm na), List.getElem?_set_ne (Ne.symm nb)]
    exact r.dis a b s1 s2 w hab (back a s1 na ha) (back b s2 nb hb) o1 o2
theorem tsm_set (i : Nat) (h : TD K te m) : TSm K (tAsg te (gName i)) (setM i m) := fun G0 H0 env σ H G o Dn r g e f => by
  obtain ⟨d, e1, e2⟩ := bind_some_of e
  cases e2
  exact h H0 env σ H G d _ r e1 fun v G1 H1 g1 i1 => f (σ.set i (some v)) G1 H1 ((r.go g1).set i i1) (g.trans g1) g1.g
theorem ds_set (i : Nat) {x : Str} {pos' : Pos} (h : DE X K e te m) (hN : X.N.Nodup) (hi : X.N[i]? = some x := by rfl) (hx : Loc X.env.scope x := by first | exact Or.inl rfl | exact Or.inr rfl) (hs : swapsWith e (some (.Name x pos')) pos.line X.env = pure false := by rfl)
    (hf : X.fn x = true ∨ X.env.scope.names.lookup x = some .local := by first | exact .inl rfl | exact .inr rfl) : DS X K (.Assign [.Name x pos'] e pos) (tAsg te (gName i)) (setM i m) := ⟨ps_set hN hi hx h.p hs hf, tsm_set i h.d⟩
def exprM (m : En → Option D) (env : En) : Option Out := (m env).bind fun _ => some (.nx env)
theorem ds_expr (h : DE X K e te m) (hs : swapsWith e none pos.line X.env = pure false := by rfl) : DS X K (.Expr e pos) (tDrop te) (exprM m) := by
  refine ⟨ps_expr h.p hs, fun G0 H0 env σ H G o Dn r g e f => ?_⟩
  obtain ⟨d, e1, e2⟩ := bind_some_of e
  cases e2
  exact h.d H0 env σ H G d _ r e1 fun v G1 H1 g1 i1 => f σ G1 H1 (r.go g1) (g.trans g1) g1.g
end

/-! ### a def's rule -/
def runM (n : Nat) (m : En → Option Out) (ds : List D) : Option D := (m (ds.map (fun d => some (Sl.val d)) ++ List.replicate (n - ds.length) none)).bind fun
  | .rt d => some d
  | .nx _ => some .non
  | _ => none
def bodyM (np n : Nat) (m : En → Option Out) (ds : List D) : Option D := if ds.length = np then runM n m ds else none
theorem start_rp {K : PySem.W.Frag} {H0 G H : Hp} {N : List Str} {vs : List V} {ds : List D} (gh : Same G H) (gt : LamX.Tabs TbA.T H) (gn : NoTb G) (h : IsL K G vs ds) : Rp K H0 G (ds.map (fun d => some (Sl.val d)) ++ List.replicate (N.length - ds.length) none) (L2.start N vs) H := by
  have hl := h.len
  have at_ : ∀ (i : Nat) (s : Sl), (ds.map (fun d => some (Sl.val d)) ++ List.replicate (N.length - ds.length) none)[i]? = some (some s) → ∃ d, ds[i]? = some d ∧ s = .val d := fun i s e => by
    by_cases hi : i < ds.length
    · rw [List.getElem?_append_left (by rw [List.length_map]; exact hi), List.getElem?_map, List.getElem?_eq_getElem hi] at e
      cases e
      exact ⟨_, List.getElem?_eq_getElem hi, rfl⟩
    · rw [List.getElem?_append_right (by rw [List.length_map]; omega)] at e
      have := List.getElem?_replicate (n := N.length - ds.length) (a := (none : Option Sl)) (i := i - (ds.map (fun d => some (Sl.val d))).length)
      rw [this] at e
      split at e <;> cases e
  refine ⟨gh, gt, gn, ?_, fun i s e => ?_, fun i j s t v _ hi _ o => ?_⟩
  · unfold L2.start
    simp only [List.length_append, List.length_map, List.length_replicate, hl]
  · obtain ⟨d, e1, rfl⟩ := at_ i s e
    obtain ⟨v, e2, e3⟩ := h.get e1
    refine ⟨v, ?_, e3⟩
    unfold L2.start
    have hlt : i < vs.length := (List.getElem?_eq_some_iff.mp e2).1
    rw [List.getElem?_append_left (by rw [List.length_map]; exact hlt), List.getElem?_map, e2]
    rfl
  · obtain ⟨d, _, rfl⟩ := at_ i s hi
    cases o
section
variable {P : Program} {w : World} {K : PySem.W.Frag} {mg : Str → Option Value} {base : Heap}
theorem fn_ok {x qual : Str} {st : Stmt} {f : Addr} {fd : FuncData} {N ps : List Str} {k : Nat} {t : TS} {m : En → Option Out} (F : Fun K x qual st f fd) (S : FnScope N ps (defScope st))
    (h : ∀ (cdv : Value) (A : Around) (outer : List Env) (s : Shared) (H : Hp) (E : XK), RoomG k (A.deeper (envOfC qual (defScope st) s.heap.objs.size f cdv)) → DSs (cxOf CX0 P w K mg base N qual (defScope st) f cdv A outer s H E).nox K (defBody st) t m) :
    FnG P w K mg base CX0 (k + 1) f fd ps (spD K (bodyM ps.length N.length m)) := by
  refine okG F S (fun vs H Q E hs => ?_) (fun cdv A outer s H vs Q E hr hs => ?_)
  · obtain ⟨G, ds, d, _, i, e, _⟩ := hs
    rw [i.len]
    unfold bodyM at e
    split at e
    · assumption
    · cases e
  · obtain ⟨G, ds, d, ⟨gh, gt, gn⟩, i, e, q⟩ := hs
    have D := h cdv A outer s H E hr
    refine ⟨_, D.p, ?_⟩
    unfold bodyM at e
    split at e
    · unfold runM at e
      obtain ⟨o, e1, e2⟩ := bind_some_of e
      refine D.d G H _ _ H G o _ (start_rp gh gt gn i) (Go.refl gh) e1 ?_
      cases o with
      | rt d' => cases e2; exact fun v G' H' g _ iv => q v G' H' g iv
      | nx env => cases e2; exact fun σ' G' H' _ g _ => q .non G' H' g .non
      | bk env => cases e2
      | ct env => cases e2
    · cases e
theorem df_of {x : Str} {fa : Addr} {fd : FuncData} {ps : List Str} {k : Nat} {f g : List D → Option D} (hm : mg x = some (.ref fa)) (hk : PySem.W.keepIn K (.ref fa) = true) (hb : Binds K fd ps []) (F : FnG P w K mg base CX0 k fa fd ps (spD K f)) (hfg : ∀ ds d, g ds = some d → f ds = some d) :
    DF P w K mg base x k ps g := ⟨fa, fd, hm, hk, hb, F.imp fun vs H Q E ⟨G, ds, d, gh, i, e, q⟩ => ⟨G, ds, d, gh, i, hfg ds d e, q⟩⟩
end
end Dl

set_option Elab.async false
set_option linter.all false
set_option maxRecDepth 100000
set_option maxHeartbeats 2000000
/-! Values as data: what is walked, loops, comprehensions, own lists and dicts. -/
namespace Dl
open PySem PySem.Spec PyProof.Rows L2
variable [TbA]

/-! ### what is walked: the data, as long as the base B is there -/
structure Src (K : PySem.W.Frag) (J : It) (ds : List D) (B G : Hp) : Prop where
  ex : ∃ Y : Nat → Hp → V → Hp → Prop, Walk J ds.length (fun H => Same B H) Y ∧ ∀ i H x H' d G', ds[i]? = some d → Same G G' → Same G' H → Y i H x H' → ∃ G'', Go G' H G'' H' ∧ Is K G'' x d
/-- .. a walk that leans on what stands still alone -/
def TI0 (K : PySem.W.Frag) (wi : TI) (m : En → Option (List D)) : Prop := ∀ (H0 : Hp) (env : En) (σ : L2.St) (H G : Hp) (ds : List D) (R : It → Hp → Prop), Rp K H0 G env σ H → m env = some ds → (∀ J G' H', Go G H G' H' → Src K J ds (noT G') G' → R J H') → wi σ H R
/-- .. on all that is tracked -/
def TI1 (K : PySem.W.Frag) (wi : TI) (m : En → Option (List D)) : Prop := ∀ (H0 : Hp) (env : En) (σ : L2.St) (H G : Hp) (ds : List D) (R : It → Hp → Prop), Rp K H0 G env σ H → m env = some ds → (∀ J G' H', Go G H G' H' → Src K J ds (noT H') G' → R J H') → wi σ H R
structure DI0 (X : Cx) (K : PySem.W.Frag) (tg e : Expr) (wi : TI) (m : En → Option (List D)) : Prop where
  p : PI X tg e wi
  d : TI0 K wi m
structure DI1 (X : Cx) (K : PySem.W.Frag) (tg e : Expr) (wi : TI) (m : En → Option (List D)) : Prop where
  p : PI X tg e wi
  d : TI1 K wi m
theorem Src.base {K : PySem.W.Frag} {J : It} {ds : List D} {B B' G : Hp} (h : Src K J ds B G) (s : Same B B') : Src K J ds B' G := by
  obtain ⟨Y, w, y⟩ := h.ex
  exact ⟨Y, w.mono (fun H q => s.trans q) (fun _ _ _ _ _ _ z => z), y⟩
theorem DI0.to1 {X : Cx} {K : PySem.W.Frag} {tg e : Expr} {wi : TI} {m : En → Option (List D)} (h : DI0 X K tg e wi m) : DI1 X K tg e wi m :=
  ⟨h.p, fun H0 env σ H G ds R r e q => h.d H0 env σ H G ds R r e fun J G' H' g s => q J G' H' g (s.base (noT_mono g.gh))⟩
section
variable {K : PySem.W.Frag} {G H : Hp} {a b : Addr} {xs ys : List V} {ds es : List D}
theorem src_list {B : Hp} (h : SqL K B a xs) (i : IsL K G xs ds) : Src K (Itl K a) ds B G := by
  refine ⟨YAt xs, ?_, fun j H x H' d G' e s1 s2 y => ?_⟩
  · rw [← i.len]
    exact walk_list.mono (fun H q => same_l q h) (fun _ _ _ _ _ _ z => z)
  · obtain ⟨e1, e2⟩ := y
    subst e1
    obtain ⟨v, h1, h2⟩ := i.get e
    rw [e2] at h1
    cases h1
    exact ⟨G', Go.refl s2, h2.mono s1⟩
theorem src_tup {B : Hp} (h : SqT K B a xs) (i : IsL K G xs ds) : Src K (Itt K a) ds B G := by
  refine ⟨YAt xs, ?_, fun j H x H' d G' e s1 s2 y => ?_⟩
  · rw [← i.len]
    exact walk_tup.mono (fun H q => same_t q h) (fun _ _ _ _ _ _ z => z)
  · obtain ⟨e1, e2⟩ := y
    subst e1
    obtain ⟨v, h1, h2⟩ := i.get e
    rw [e2] at h1
    cases h1
    exact ⟨G', Go.refl s2, h2.mono s1⟩
def rngD (lo : Int) (n : Nat) : List D := (List.range n).map fun (i : Nat) => D.int (lo + (i : Int))
theorem src_range {B : Hp} {lo : Int} {n : Nat} : Src K (Itr lo n) (rngD lo n) B G := by
  refine ⟨YFn fun (i : Nat) => .int (lo + (i : Int)), ?_, fun j H x H' d G' e s1 s2 y => ?_⟩
  · have e : (rngD lo n).length = n := by unfold rngD; rw [List.length_map, List.length_range]
    rw [e]
    exact walk_range.mono (fun _ _ => trivial) (fun _ _ _ _ _ _ z => z)
  · obtain ⟨e1, e2⟩ := y
    subst e1 e2
    have ej : d = .int (lo + (j : Int)) := by
      unfold rngD at e
      rw [List.getElem?_map] at e
      cases q : (List.range n)[j]? with
      | none => rw [q] at e; cases e
      | some z =>
        rw [q] at e
        obtain ⟨hj, hz⟩ := List.getElem?_eq_some_iff.mp q
        rw [List.getElem_range] at hz
        subst hz
        cases e
        rfl
    subst ej
    exact ⟨G', Go.refl s2, .int _⟩
def strD (s : Str) : List D := s.cps.toList.map fun c => D.str ⟨#[c]⟩
theorem src_str {B : Hp} {z : Str} : Src K (Its z) (strD z) B G := by
  refine ⟨fun i H v H' => H' = H ∧ ∃ c, z.cps[i]? = some c ∧ v = .str ⟨#[c]⟩, ?_, fun j H x H' d G' e s1 s2 y => ?_⟩
  · have e : (strD z).length = z.cps.size := by unfold strD; rw [List.length_map, Array.length_toList]
    rw [e]
    exact walk_str.mono (fun _ _ => trivial) (fun _ _ _ _ _ _ z => z)
  · obtain ⟨e1, c, e2, e3⟩ := y
    subst e1 e3
    have ej : d = .str ⟨#[c]⟩ := by
      unfold strD at e
      rw [List.getElem?_map, Array.getElem?_toList, e2] at e
      cases e
      rfl
    subst ej
    exact ⟨G', Go.refl s2, .str _⟩
theorem go_pair {G' : Hp} {H H' : Hp} {x y : V} {d e : D} {T : Addr} (s : Same G' H) (n : H T = none) (q : H' = upd H T (.tup [x, y])) (h1 : Is K G' x d) (h2 : Is K G' y e) : ∃ G'', Go G' H G'' H' ∧ Is K G'' (.ref T) (.tup [d, e]) := by
  subst q
  have g := Go.new (o := .tup [x, y]) s n
  exact ⟨_, g, .tup (SqT.of upd_same) (.cons (h1.mono g.g) (.cons (h2.mono g.g) .nil))⟩
def enumD (ds : List D) : List D := (List.range ds.length).zipWith (fun (i : Nat) d => D.tup [.int (i : Int), d]) ds
theorem enumD_get {i : Nat} {d : D} (h : (enumD ds)[i]? = some d) : ∃ x, ds[i]? = some x ∧ d = .tup [.int (i : Int), x] := by
  unfold enumD at h
  rw [List.getElem?_zipWith] at h
  cases h1 : (List.range ds.length)[i]? with
  | none => rw [h1] at h; simp at h
  | some k =>
    cases h2 : ds[i]? with
    | none => rw [h1, h2] at h; simp at h
    | some x =>
      rw [h1, h2] at h
      obtain ⟨hj, hz⟩ := List.getElem?_eq_some_iff.mp h1
      rw [List.getElem_range] at hz
      subst hz
      cases h
      exact ⟨x, rfl, rfl⟩
theorem src_enum {B : Hp} (h : SqL K B a xs) (i : IsL K G xs ds) : Src K (Ite K a) (enumD ds) B G := by
  refine ⟨YPair (fun (i : Nat) => some (.int (i : Int))) (fun i => xs[i]?), ?_, fun j H x H' d G' e s1 s2 y => ?_⟩
  · have e : (enumD ds).length = xs.length := by unfold enumD; rw [List.length_zipWith, List.length_range, Nat.min_self, i.len]
    rw [e]
    exact walk_enum.mono (fun H q => same_l q h) (fun _ _ _ _ _ _ z => z)
  · obtain ⟨T, u, v, rfl, n, q, e1, e2⟩ := y
    obtain ⟨d1, h1, rfl⟩ := enumD_get e
    cases e1
    obtain ⟨w, h2, h3⟩ := i.get h1
    have e2' : xs[j]? = some v := e2
    rw [e2'] at h2
    cases h2
    exact go_pair s2 n q (.int _) (h3.mono s1)
def zipD (ds es : List D) : List D := ds.zipWith (fun d e => D.tup [d, e]) es
theorem src_zip {B : Hp} (h : SqL K B a xs) (h' : SqL K B b ys) (i : IsL K G xs ds) (i' : IsL K G ys es) : Src K (Itz K a b) (zipD ds es) B G := by
  refine ⟨YPair (fun (i : Nat) => xs[i]?) (fun i => ys[i]?), ?_, fun j H x H' d G' e s1 s2 y => ?_⟩
  · have e : (zipD ds es).length = min xs.length ys.length := by unfold zipD; rw [List.length_zipWith, i.len, i'.len]
    rw [e]
    exact (walk_zip rfl).mono (fun H q => ⟨same_l q h, same_l q h'⟩) (fun _ _ _ _ _ _ z => z)
  · obtain ⟨T, u, v, rfl, n, q, e1, e2⟩ := y
    unfold zipD at e
    rw [List.getElem?_zipWith] at e
    obtain ⟨d1, h1, h1'⟩ := i.getv e1
    obtain ⟨d2, h2, h2'⟩ := i'.getv e2
    rw [h1, h2] at e
    cases e
    exact go_pair s2 n q (h1'.mono s1) (h2'.mono s1)
end
section
variable {X : Cx} {K : PySem.W.Frag} {tg e e2 : Expr} {te : TE} {ta : TA} {p pos tpos : Pos} {elts : List Expr} {kk : Nat}
/-- the items of a list, of a tuple -/
def itemsL (m : En → Option D) (env : En) : Option (List D) := match m env with
  | some (.lst ds) => some ds
  | _ => none
def itemsT (m : En → Option D) (env : En) : Option (List D) := match m env with
  | some (.tup ds) => some ds
  | _ => none
/-- .. or the signs of a text -/
def itemsA (m : En → Option D) (env : En) : Option (List D) := match m env with
  | some (.lst ds) => some ds
  | some (.scr ds) => some ds
  | some (.tup ds) => some ds
  | some (.str s) => some (strD s)
  | _ => none
theorem PI.or {wi wi' : TI} (h : PI X tg e wi) (h' : PI X tg e wi') : PI X tg e (fun σ H R => wi σ H R ∨ wi' σ H R) :=
  ⟨fun pins s σ H R I q => q.elim (h.run pins s σ H R I) (h'.run pins s σ H R I)⟩
theorem di0_seq {m : En → Option D} (h : DE X K e te m) (hK : X.K = K := by rfl) : DI0 X K tg e (fun σ H R => iList K te σ H R ∨ iTup K te σ H R ∨ iStr te σ H R) (itemsA m) := by
  subst hK
  refine ⟨PI.or (pi_list h.p) (PI.or (pi_tup h.p) (pi_str h.p)), fun H0 env σ H G ds R r e q => ?_⟩
  unfold itemsA at e
  split at e
  · cases e
    rename_i e1
    refine .inl (h.d H0 env σ H G _ _ r e1 fun v G1 H1 g1 i1 => ?_)
    cases i1 with
    | lst s1 i1 => exact ⟨_, rfl, ⟨_, SqL.of (g1.gh _ _ s1)⟩, q _ G1 H1 g1 (src_list (sqL_noT (SqL.of s1)) i1)⟩
  · cases e
    rename_i e1
    refine .inl (h.d H0 env σ H G _ _ r e1 fun v G1 H1 g1 i1 => ?_)
    cases i1 with
    | scr s1 i1 => exact ⟨_, rfl, ⟨_, same_l g1.gh s1⟩, q _ G1 H1 g1 (src_list (sqL_noT s1) i1)⟩
  · cases e
    rename_i e1
    refine .inr (.inl (h.d H0 env σ H G _ _ r e1 fun v G1 H1 g1 i1 => ?_))
    cases i1 with
    | tup s1 i1 => exact ⟨_, rfl, ⟨_, same_t g1.gh s1⟩, q _ G1 H1 g1 (src_tup (sqT_noT s1) i1)⟩
  · cases e
    rename_i e1
    refine .inr (.inr (h.d H0 env σ H G _ _ r e1 fun v G1 H1 g1 i1 => ?_))
    cases i1
    exact ⟨_, rfl, q _ G1 H1 g1 src_str⟩
  · cases e
theorem di1_seq {m : En → Option D} (h : DR X K e te m) (hK : X.K = K := by rfl) : DI1 X K tg e (fun σ H R => iList K te σ H R ∨ iTup K te σ H R ∨ iStr te σ H R) (itemsA m) := by
  subst hK
  refine ⟨PI.or (pi_list h.p) (PI.or (pi_tup h.p) (pi_str h.p)), fun H0 env σ H G ds R r e q => ?_⟩
  unfold itemsA at e
  split at e
  · cases e
    rename_i e1
    refine .inl (h.d H0 env σ H G _ _ r e1 fun v G1 H1 g1 i1 => ?_)
    obtain ⟨p, vs, rfl, s1, i1⟩ := i1.lst g1.gh
    exact ⟨_, rfl, ⟨_, SqL.of s1⟩, q _ G1 H1 g1 (src_list (sqL_noT (SqL.of s1)) i1)⟩
  · cases e
    rename_i e1
    refine .inl (h.d H0 env σ H G _ _ r e1 fun v G1 H1 g1 i1 => ?_)
    obtain ⟨p, vs, rfl, s1, i1⟩ := i1.scr g1.gh
    exact ⟨_, rfl, ⟨_, s1⟩, q _ G1 H1 g1 (src_list (sqL_noT s1) i1)⟩
  · cases e
    rename_i e1
    refine .inr (.inl (h.d H0 env σ H G _ _ r e1 fun v G1 H1 g1 i1 => ?_))
    obtain ⟨p, vs, rfl, _, s1, i1⟩ := i1.tup g1.gh
    exact ⟨_, rfl, ⟨_, s1⟩, q _ G1 H1 g1 (src_tup (sqT_noT s1) i1)⟩
  · cases e
    rename_i e1
    refine .inr (.inr (h.d H0 env σ H G _ _ r e1 fun v G1 H1 g1 i1 => ?_))
    cases i1.str
    exact ⟨_, rfl, q _ G1 H1 g1 src_str⟩
  · cases e
def rngM1 (ms : En → Option (List D)) (env : En) : Option (List D) := match ms env with
  | some [.int j] => if j ≤ 1000000 ∧ -1000000 ≤ j then some (rngD 0 j.toNat) else none
  | _ => none
def rngM2 (ms : En → Option (List D)) (env : En) : Option (List D) := match ms env with
  | some [.int i, .int j] => if (i ≤ 1000000 ∧ -1000000 ≤ i) ∧ j ≤ 1000000 ∧ -1000000 ≤ j then some (rngD i (j - i).toNat) else none
  | _ => none
theorem p62 : (1000000 : Int) < 2 ^ 62 := by decide
theorem di0_range1 {a : Expr} {ms : En → Option (List D)} (hg : Gl X "range") (hm : X.mg "range" = none) (ha : DAr X K [a] ta ms) (hs : starEach [a] X.env = [(false, eval a X.env)] := by rfl) : DI0 X K tg (.Call (.Name "range" p) [a] [] pos) (iRng1 ta) (rngM1 ms) := by
  refine ⟨pi_range1 hg hm ha.p hs, fun H0 env σ H G ds R r e q => ?_⟩
  unfold rngM1 at e
  split at e
  · rename_i j e1
    split at e
    · rename_i hj
      cases e
      refine ha.d H0 env σ H G _ _ r e1 fun vs G1 H1 g1 i1 => ?_
      obtain ⟨v, rfl, i2⟩ := i1.one
      cases i2.int
      exact ⟨j, rfl, by have := p62; omega, by have := p62; omega, q _ G1 H1 g1 src_range⟩
    · cases e
  · cases e
theorem di0_range2 {a b : Expr} {ms : En → Option (List D)} (hg : Gl X "range") (hm : X.mg "range" = none) (ha : DAr X K [a, b] ta ms) (hs : starEach [a, b] X.env = [(false, eval a X.env), (false, eval b X.env)] := by rfl) (hs2 : starEach [b] X.env = [(false, eval b X.env)] := by rfl) : DI0 X K tg (.Call (.Name "range" p) [a, b] [] pos) (iRng2 ta) (rngM2 ms) := by
  refine ⟨pi_range2 hg hm ha.p hs hs2, fun H0 env σ H G ds R r e q => ?_⟩
  unfold rngM2 at e
  split at e
  · rename_i i j e1
    split at e
    · rename_i hj
      cases e
      refine ha.d H0 env σ H G _ _ r e1 fun vs G1 H1 g1 i1 => ?_
      obtain ⟨v, w, rfl, i2, i3⟩ := i1.two
      cases i2.int
      cases i3.int
      exact ⟨i, j, rfl, ⟨by have := p62; omega, by have := p62; omega, by have := p62; omega, by have := p62; omega⟩, q _ G1 H1 g1 src_range⟩
    · cases e
  · cases e
end

/-! ### targets -/
def TGd (K : PySem.W.Frag) (g : TG) (js : List Nat) (f : D → En → Option En) : Prop := ∀ (H0 : Hp) (env : En) (σ : L2.St) (H G : Hp) (v : V) (d : D) (env' : En) (Q : L2.St → Hp → Prop), Rp K H0 G env σ H → Is K G v d → f d env = some env' →
  (∀ σ', Rp K H0 G env' σ' H → σ'.length = σ.length → (∀ k, k ∉ js → σ'[k]? = σ[k]?) → Q σ' H) → g v σ H Q
def TGsd (K : PySem.W.Frag) (g : TGs) (n : Nat) (js : List Nat) (f : List D → En → Option En) : Prop := ∀ (H0 : Hp) (env : En) (σ : L2.St) (H G : Hp) (vs : List V) (ds : List D) (env' : En) (Q : L2.St → Hp → Prop), Rp K H0 G env σ H → IsL K G vs ds → ds.length = n → f ds env = some env' →
  (∀ σ', Rp K H0 G env' σ' H → σ'.length = σ.length → (∀ k, k ∉ js → σ'[k]? = σ[k]?) → Q σ' H) → g vs σ H Q
structure DG (X : Cx) (K : PySem.W.Frag) (tg : Expr) (g : TG) (js : List Nat) (f : D → En → Option En) : Prop where
  p : PG X tg g
  d : TGd K g js f
structure DGs (X : Cx) (K : PySem.W.Frag) (tgs : List Expr) (g : TGs) (n : Nat) (js : List Nat) (f : List D → En → Option En) : Prop where
  p : PGs X tgs g
  d : TGsd K g n js f
section
variable {X : Cx} {K : PySem.W.Frag} {e : Expr} {es : List Expr} {pos : Pos}
def bndN (i : Nat) (d : D) (env : En) : Option En := some (env.set i (some (.val d)))
theorem dg_name (i : Nat) {x : Str} (hN : X.N.Nodup) (hi : X.N[i]? = some x := by rfl) (hx : Loc X.env.scope x := by first | exact Or.inl rfl | exact Or.inr rfl) (hf : X.fn x = true ∨ X.env.scope.names.lookup x = some .local := by first | exact .inl rfl | exact .inr rfl) : DG X K (.Name x pos) (gName i) [i] (bndN i) :=
  ⟨pg_name hN hi hx hf, fun H0 env σ H G v d env' Q r i1 e q => by
    cases e
    exact q _ (r.set i i1) (List.length_set) (fun k hk => List.getElem?_set_ne (fun z => hk (by simp [z])))⟩
def bndNil (_ : List D) (env : En) : Option En := some env
def bndC (f : D → En → Option En) (fs : List D → En → Option En) : List D → En → Option En
  | d :: ds, env => (f d env).bind fun env' => fs ds env'
  | [], _ => none
def bndT (n : Nat) (fs : List D → En → Option En) (d : D) (env : En) : Option En := match d with
  | .tup ds => if ds.length = n then fs ds env else none
  | _ => none
theorem dgs_nil : DGs X K [] gNil 0 [] bndNil := ⟨pgs_nil, fun H0 env σ H G vs ds env' Q r i1 hl e q => by
  cases e
  cases ds with
  | nil => cases i1; exact ⟨rfl, q σ r rfl fun _ _ => rfl⟩
  | cons d ds => cases hl⟩
theorem dgs_cons {g : TG} {gs : TGs} {n : Nat} {js ks : List Nat} {f : D → En → Option En} {fs : List D → En → Option En} (h1 : DG X K e g js f) (h2 : DGs X K es gs n ks fs) (hs : (assignEach (e :: es) X.env).map (·.2) = assign e X.env :: (assignEach es X.env).map (·.2) := by rfl) : DGs X K (e :: es) (gCons g gs) (n + 1) (js ++ ks) (bndC f fs) :=
  ⟨pgs_cons h1.p h2.p hs, fun H0 env σ H G vs ds env' Q r i1 hl e q => by
    cases i1 with
    | nil => cases hl
    | cons a b =>
      obtain ⟨env1, e1, e2⟩ := bind_some_of e
      refine ⟨_, _, rfl, h1.d H0 env σ H G _ _ env1 _ r a e1 fun σ1 r1 l1 k1 => ?_⟩
      exact h2.d H0 env1 σ1 H G _ _ env' Q r1 b (by simpa using hl) e2 fun σ2 r2 l2 k2 => q σ2 r2 (l2.trans l1) fun k hk => by
        rw [k2 k fun z => hk (List.mem_append_right _ z), k1 k fun z => hk (List.mem_append_left _ z)]⟩
theorem dg_tup {gs : TGs} {n kk : Nat} {js : List Nat} {fs : List D → En → Option En} (hc : X.calm = true) (h : DGs X K es gs n js fs) (hK : X.K = K := by rfl) (hn : (assignEach es X.env).length = n := by rfl) (hst : (assignEach es X.env).findIdx? (·.1) = none := by rfl) : DG X K (.Tuple es kk pos) (gTup K n gs) js (bndT n fs) := by
  subst hK
  refine ⟨pg_tup hc h.p hn hst, fun H0 env σ H G v d env' Q r i1 e q => ?_⟩
  unfold bndT at e
  split at e
  · split at e
    · rename_i hl
      cases i1 with
      | tup s1 i1 => exact ⟨_, _, rfl, same_t r.gh s1, by rw [i1.len]; exact hl, h.d H0 env σ H G _ _ env' Q r i1 hl e q⟩
    · cases e
  · cases e
end

/-! ### for -/
def forM' (bnd : D → En → Option En) (body : En → Option Out) : List D → En → Option Out
  | [], env => some (.nx env)
  | d :: ds, env => (bnd d env).bind fun e1 => (body e1).bind fun
    | .nx e => forM' bnd body ds e
    | .ct e => forM' bnd body ds e
    | .bk e => some (.nx e)
    | .rt d => some (.rt d)
def forM (mi : En → Option (List D)) (bnd : D → En → Option En) (body : En → Option Out) (env : En) : Option Out := (mi env).bind fun ds => forM' bnd body ds env
section
variable {X : Cx} {K : PySem.W.Frag} {tg iter : Expr} {pos : Pos} {wi : TI} {g : TG} {js : List Nat} {tb : TS}
theorem tsm_for {mi : En → Option (List D)} {bnd : D → En → Option En} {body : En → Option Out} (hi : TI0 K wi mi) (hg : TGd K g js bnd) (hb : TSm K tb body) : TSm K (tFor wi g tb) (forM mi bnd body) := fun G0 H0 env σ H G o Dn r g0 e f => by
  obtain ⟨ds, e1, e2⟩ := bind_some_of e
  refine hi H0 env σ H G ds _ r e1 fun J G1 H1 g1 s1 => ?_
  obtain ⟨Y, w, y⟩ := s1.ex
  refine for_it w (fun i σ' H' => ∃ G' env', Rp K H0 G' env' σ' H' ∧ Go G0 H0 G' H' ∧ Same G1 G' ∧ forM' bnd body (ds.drop i) env' = some o) ⟨G1, env, r.go g1, g0.trans g1, Same.refl G1, by simpa using e2⟩ (fun i σ' H' _ ⟨G', env', r', _, s', _⟩ => noT_le (s'.trans r'.gh)) (fun i x σ' H' H2 hlt p hy => ?_) (fun σ' H' p => ?_)
  · obtain ⟨G', env', r', g', s', e'⟩ := p
    rw [List.drop_eq_getElem_cons hlt] at e'
    obtain ⟨env1, a1, a2⟩ := bind_some_of e'
    obtain ⟨o1, a3, a4⟩ := bind_some_of a2
    obtain ⟨G2, gg, ix⟩ := y i H' x H2 ds[i] G' (List.getElem?_eq_getElem hlt) s' r'.gh hy
    refine hg H0 env' σ' H2 G2 x _ env1 _ (r'.go gg) ix a1 fun σ2 r2 _ _ => ?_
    refine hb G0 H0 env1 σ2 H2 G2 o1 _ r2 (g'.trans gg) a3 ?_
    have s2 : Same G1 G2 := s'.trans gg.g
    cases o1 with
    | nx en => exact fun σ3 G3 H3 r3 g3 s3 => ⟨G3, en, r3, g3, s2.trans s3, a4⟩
    | ct en => exact fun σ3 G3 H3 r3 g3 s3 => ⟨G3, en, r3, g3, s2.trans s3, a4⟩
    | bk en => cases a4; exact fun σ3 G3 H3 r3 g3 s3 => f σ3 G3 H3 r3 g3 ((g1.g.trans s2).trans s3)
    | rt d => cases a4; exact fun v G3 H3 g3 s3 iv => f v G3 H3 g3 ((g1.g.trans s2).trans s3) iv
  · obtain ⟨G', env', r', g', s', e'⟩ := p
    rw [List.drop_length] at e'
    cases e'
    exact f σ' G' H' r' g' (g1.g.trans s')
theorem ds_for {mi : En → Option (List D)} {bnd : D → En → Option En} {ms : En → Option Out} {body : List Stmt} (hp : PassesOwn (model X.prog X.w) X.A X.env X.xe) (hc : X.calm = true) (hi : DI0 X K tg iter wi mi) (hg : DG X K tg g js bnd) (hb : DSs X K body tb ms)
    (hs : ∀ x, foldedSetIterable iter X.env x = pure x := by intro _; rfl) : DS X K (.For tg iter body [] pos) (tFor wi g tb) (forM mi bnd ms) := ⟨ps_for hp hc hi.p hg.p hb.p hs, tsm_for hi.d hg.d hb.d⟩
end

/-! ### while, with so many turns at most -/
def whileM (tst : En → Option Bool) (body : En → Option Out) : Nat → En → Option Out
  | 0, _ => none
  | n + 1, env => (tst env).bind fun b => if b = true then (body env).bind fun
    | .nx e => whileM tst body n e
    | .ct e => whileM tst body n e
    | .bk e => some (.nx e)
    | .rt d => some (.rt d)
    else some (.nx env)
section
variable {X : Cx} {K : PySem.W.Frag} {c : Expr} {pos : Pos} {tt : TT} {tb : TS}
theorem ds_while (n : Nat) {mc : En → Option Bool} {ms : En → Option Out} {body : List Stmt} (hp : PassesOwn (model X.prog X.w) X.A X.env X.xe) (hc : DT X K c tt mc) (hb : DSs X K body tb ms) : DS X K (.While c body [] pos) (tWhile tt tb) (whileM mc ms n) := by
  refine ⟨ps_while hp hc.p hb.p, fun G0 H0 env σ H G o Dn r g0 e f => ?_⟩
  refine ⟨fun m σ' H' => ∃ G' env', Rp K H0 G' env' σ' H' ∧ Go G0 H0 G' H' ∧ Same G G' ∧ whileM mc ms m env' = some o, ⟨n, G, env, r, g0, Same.refl G, e⟩, fun m σ' H' p => ?_⟩
  obtain ⟨G', env', r', g', s', e'⟩ := p
  cases m with
  | zero => cases e'
  | succ m =>
    obtain ⟨b, a1, a2⟩ := bind_some_of e'
    refine hc.d H0 env' σ' H' G' b _ r' a1 fun G1 H1 g1 => ?_
    cases b with
    | false =>
      have a3 : o = .nx env' := by simpa using a2.symm
      subst a3
      exact iteF (f σ' G1 H1 (r'.go g1) (g'.trans g1) (s'.trans g1.g))
    | true =>
      have a3 := (if_pos (c := true = true) rfl).symm.trans a2
      obtain ⟨o1, a4, a5⟩ := bind_some_of a3
      refine iteT ⟨fun σ2 H2 => ∃ G2 en, Rp K H0 G2 en σ2 H2 ∧ Go G0 H0 G2 H2 ∧ Same G G2 ∧ whileM mc ms m en = some o, fun σ2 H2 q => ⟨m, Nat.lt_succ_self m, q⟩, ?_⟩
      refine hb.d G0 H0 env' σ' H1 G1 o1 _ (r'.go g1) (g'.trans g1) a4 ?_
      have s2 : Same G G1 := s'.trans g1.g
      cases o1 with
      | nx en => exact fun σ3 G3 H3 r3 g3 s3 => ⟨G3, en, r3, g3, s2.trans s3, a5⟩
      | ct en => exact fun σ3 G3 H3 r3 g3 s3 => ⟨G3, en, r3, g3, s2.trans s3, a5⟩
      | bk en => cases a5; exact fun σ3 G3 H3 r3 g3 s3 => f σ3 G3 H3 r3 g3 (s2.trans s3)
      | rt d => cases a5; exact fun v G3 H3 g3 s3 iv => f v G3 H3 g3 (s2.trans s3) iv
end

/-! ### fresh lists, comprehensions -/
def TF (K : PySem.W.Frag) (t : TE) (m : En → Option (List D)) : Prop := ∀ (H0 : Hp) (env : En) (σ : L2.St) (H G : Hp) (ds : List D) (Q : VK), Rp K H0 G env σ H → m env = some ds → (∀ p vs G' H', Go G H G' H' → H p = none → G' p = none → H' p = some (.lst vs) → IsL K G' vs ds → Q (.ref p) H') → t σ H Q
structure DF1 (X : Cx) (K : PySem.W.Frag) (e : Expr) (t : TE) (m : En → Option (List D)) : Prop where
  p : PE X e t
  d : TF K t m
def asLst (m : En → Option (List D)) (env : En) : Option D := (m env).bind fun ds => some (.lst ds)
/-- what is new turns to what stands still -/
theorem Go.fix {G H G' H' : Hp} {p : Addr} {o : HO} (g : Go G H G' H') (hp : H p = none) (np : G' p = none) (e : H' p = some o) (ho : ∀ ps, o ≠ .tbl ps := by intro ps z; cases z) : Go G H (upd G' p o) H' := by
  refine ⟨g.s, g.g.trans (same_upd np), fun a u q => ?_, fun a u n q t => ?_, g.tb, g.fr, fun t => notb_upd (g.gn t) ho⟩
  · by_cases h : a = p
    · subst h; rw [upd_same] at q; cases q; exact e
    · rw [upd_ne h] at q; exact g.gh a u q
  · obtain ⟨n1, q1⟩ := g.out a u n q t
    exact ⟨by rw [upd_ne (ne_of_none q hp)]; exact n1, q1⟩
theorem TF.d {K : PySem.W.Frag} {t : TE} {m : En → Option (List D)} (h : TF K t m) : TD K t (asLst m) := fun H0 env σ H G d Q r e q => by
  obtain ⟨ds, e1, e2⟩ := bind_some_of e
  cases e2
  refine h H0 env σ H G ds Q r e1 fun p vs G' H' g hp np e i => q _ _ H' (g.fix hp np e) (.lst upd_same (i.mono (same_upd np)))
theorem DF1.e {X : Cx} {K : PySem.W.Frag} {e : Expr} {t : TE} {m : En → Option (List D)} (h : DF1 X K e t m) : DE X K e t (asLst m) := ⟨h.p, h.d.d⟩
def wipeE (env : En) : List Nat → En
  | [] => env
  | v :: vs => (wipeE env vs).set v none
theorem wipeE_len (env : En) : ∀ vs, (wipeE env vs).length = env.length
  | [] => rfl
  | v :: vs => by unfold wipeE; rw [List.length_set, wipeE_len env vs]
theorem wipeE_some {env : En} {i : Nat} {s : Sl} : ∀ {vs : List Nat}, (wipeE env vs)[i]? = some (some s) → env[i]? = some (some s) ∧ i ∉ vs
  | [], h => ⟨h, by simp⟩
  | v :: vs, h => by
    unfold wipeE at h
    by_cases hv : i = v
    · subst hv
      have hlt : i < (wipeE env vs).length := by
        have := (List.getElem?_eq_some_iff.mp h).1
        rwa [List.length_set] at this
      rw [List.getElem?_set_self hlt] at h
      cases h
    · rw [List.getElem?_set_ne (Ne.symm hv)] at h
      obtain ⟨h1, h2⟩ := wipeE_some h
      exact ⟨h1, by simp [hv, h2]⟩
theorem wipe_ofs {K : PySem.W.Frag} {H0 G H : Hp} {env : En} {σ : L2.St} (vs : List Nat) (r : Rp K H0 G env σ H) : Rp K H0 G (wipeE env vs) (wipe σ vs) H := by
  refine ⟨r.gh, r.tb, r.gn, by rw [wipe_length, wipeE_len]; exact r.len, fun i s e => ?_, fun i j s t v hij hi hj o1 o2 hv => ?_⟩
  · obtain ⟨e1, e2⟩ := wipeE_some e
    obtain ⟨v, h1, h2⟩ := r.sl i s e1
    exact ⟨v, by rw [wipe_out e2]; exact h1, h2⟩
  · obtain ⟨e1, n1⟩ := wipeE_some hi
    obtain ⟨e2, n2⟩ := wipeE_some hj
    rw [wipe_out n1] at hv
    rw [wipe_out n2]
    exact r.dis i j s t v hij e1 e2 o1 o2 hv
theorem wipe_in {σ : L2.St} {i : Nat} : ∀ {vs : List Nat}, i ∈ vs → i < σ.length → (wipe σ vs)[i]? = some none
  | [], h, _ => by cases h
  | v :: vs, h, hl => by
    unfold wipe
    by_cases hv : i = v
    · subst hv
      rw [List.getElem?_set_self (by rw [wipe_length]; exact hl)]
    · rw [List.getElem?_set_ne (Ne.symm hv)]
      exact wipe_in (by simpa [hv] using h) hl
theorem wipe_same {σ σ' : L2.St} {vs js : List Nat} (hj : ∀ j ∈ js, j ∈ vs) (hl : σ'.length = (wipe σ vs).length) (hk : ∀ k, k ∉ js → σ'[k]? = (wipe σ vs)[k]?) : wipe σ' vs = wipe σ vs := by
  apply List.ext_getElem?
  intro k
  rw [wipe_length] at hl
  by_cases hv : k ∈ vs
  · by_cases hlt : k < σ.length
    · rw [wipe_in hv hlt, wipe_in hv (by rw [hl]; exact hlt)]
    · rw [List.getElem?_eq_none_iff.mpr (by rw [wipe_length]; omega), List.getElem?_eq_none_iff.mpr (by rw [wipe_length]; omega)]
  · rw [wipe_out hv, hk k fun z => hv (hj k z)]
def compM (bnd : D → En → Option En) (tst : En → Option Bool) (elt : En → Option D) (env : En) : List D → Option (List D)
  | [] => some []
  | d :: ds => (bnd d env).bind fun e1 => (tst e1).bind fun b => if b = true then (elt e1).bind fun y => (compM bnd tst elt env ds).bind fun r => some (y :: r) else compM bnd tst elt env ds
def lcM (vs : List Nat) (mi : En → Option (List D)) (bnd : D → En → Option En) (tst : En → Option Bool) (elt : En → Option D) (env : En) : Option (List D) := (mi env).bind fun ds => if ds.length ≤ 100000 then compM bnd tst elt (wipeE env vs) ds else none
structure DTs (X : Cx) (K : PySem.W.Frag) (ifs : List Expr) (t : TT) (m : En → Option Bool) : Prop where
  p : PTs X ifs t
  d : TB K t m
theorem dts_nil {X : Cx} {K : PySem.W.Frag} : DTs X K [] tYes (fun _ => some true) := ⟨pts_nil, fun H0 env σ H G b Q r e q => by cases e; exact q G H (Go.refl r.gh)⟩
theorem dts_one {X : Cx} {K : PySem.W.Frag} {c : Expr} {t : TT} {m : En → Option Bool} (h : DT X K c t m) : DTs X K [c] t m := ⟨pts_one h.p, h.d⟩
section
variable {X : Cx} {K : PySem.W.Frag} {elt tg iter : Expr} {ifs : List Expr} {scope : Scope} {own : List (Str × Nat)} {pos : Pos} {wi : TI} {g : TG} {tt : TT} {te : TE} {js : List Nat}
theorem tf_lc {vs : List Nat} {mi : En → Option (List D)} {bnd : D → En → Option En} {tst : En → Option Bool} {me : En → Option D} (hi : TI1 K wi mi) (hg : TGd K g js bnd) (ht : TB K tt tst) (he : TD K te me) (hj : ∀ j ∈ js, j ∈ vs) : TF K (tLc wi g tt te vs) (lcM vs mi bnd tst me) := fun H0 env σ H G total Q r e q => by
  obtain ⟨ds, e1, e2⟩ := bind_some_of e
  split at e2
  case isFalse => cases e2
  rename_i hz
  refine hi H0 env σ H G ds _ r e1 fun J G1 H1 g1 s1 => fun A hA => ?_
  obtain ⟨Y, w, y⟩ := s1.ex
  have nA : G1 A = none := g1.gh.free hA
  refine lc_it w (fun i H' => ∃ G' acc as rs, Go G1 H1 G' H' ∧ G' A = none ∧ H' A = some (.lst acc) ∧ IsL K G' acc as ∧ as.length ≤ i ∧ compM bnd tst me (wipeE env vs) (ds.drop i) = some rs ∧ as ++ rs = total) ?_ (fun i H' _ ⟨G', acc, as, rs, gg, _⟩ => gg.same) (fun i x H' H2 hlt p hy => ?_) (fun H' p => ?_)
  · exact ⟨G1, [], [], total, (Go.refl g1.gh).fresh hA, nA, upd_same, .nil, Nat.zero_le _, by simpa using e2, rfl⟩
  · obtain ⟨G', acc, as, rs, gg, nA', eA, ia, hl, ec, et⟩ := p
    rw [List.drop_eq_getElem_cons hlt] at ec
    obtain ⟨env1, a1, a2⟩ := bind_some_of ec
    obtain ⟨b, a3, a4⟩ := bind_some_of a2
    obtain ⟨G2, g2, ix⟩ := y i H' x H2 ds[i] G' (List.getElem?_eq_getElem hlt) gg.g gg.gh hy
    have r2 : Rp K H0 G2 (wipeE env vs) (wipe σ vs) H2 := ((wipe_ofs vs r).go g1).go (gg.trans g2)
    refine hg H0 _ _ H2 G2 x _ env1 _ r2 ix a1 fun σ2 r3 l3 k3 => ⟨wipe_same hj l3 k3, ?_⟩
    refine ht H0 env1 σ2 H2 G2 b _ r3 a3 fun G3 H3 g3 => ?_
    have gt : Go G1 H1 G3 H3 := (gg.trans g2).trans g3
    obtain ⟨nA3, eA3⟩ := (g2.trans g3).out A _ nA' eA lst_nt
    cases b with
    | false =>
      have a5 := (if_neg (c := false = true) Bool.false_ne_true).symm.trans a4
      exact iteF ⟨G3, acc, as, rs, gt, nA3, eA3, ia.mono (g2.trans g3).g, by omega, a5, et⟩
    | true =>
      have a5 := (if_pos (c := true = true) rfl).symm.trans a4
      obtain ⟨yd, a6, a7⟩ := bind_some_of a5
      obtain ⟨rs', a8, a9⟩ := bind_some_of a7
      cases a9
      refine iteT (he H0 env1 σ2 H3 G3 yd _ (r3.go g3) a6 fun v G4 H4 g4 i4 => ?_)
      obtain ⟨nA4, eA4⟩ := g4.out A _ nA3 eA3 lst_nt
      have il : acc.length = as.length := ia.len
      refine ⟨acc, eA4, ?_, G4, acc ++ [v], as ++ [yd], rs', (gt.trans g4).mut nA4 hA eA4 lst_pl, nA4, upd_same, (ia.mono ((g2.trans g3).trans g4).g).append (.cons i4 .nil), by rw [List.length_append]; simp; omega, a8, by rw [List.append_assoc]; exact et⟩
      · have : acc.length < 100000 := by omega
        exact Nat.lt_of_lt_of_le this (by decide)
  · obtain ⟨G', acc, as, rs, gg, nA', eA, ia, hl, ec, et⟩ := p
    rw [List.drop_length] at ec
    cases ec
    rw [List.append_nil] at et
    subst et
    have gf := g1.trans gg
    exact q A acc G' H' gf (g1.free hA) nA' eA ia
theorem df_lc {mi : En → Option (List D)} {bnd : D → En → Option En} {tst : En → Option Bool} {me : En → Option D} (hc : X.calm = true) (hN : X.N.Nodup) (hi : DI1 X K tg iter wi mi) (ok : BlkOk X.N X.env.scope scope own)
    (hg : ∀ (s : Shared) (H : Hp) (C : Addr) (cl : List (Str × Addr)) (fp : List Addr), DG (X.blk s H scope (compEnvC scope cl C X.env) fp) K tg g js bnd) (ht : ∀ (s : Shared) (H : Hp) (C : Addr) (cl : List (Str × Addr)) (fp : List Addr), DTs (X.blk s H scope (compEnvC scope cl C X.env) fp) K ifs tt tst)
    (he : ∀ (s : Shared) (H : Hp) (C : Addr) (cl : List (Str × Addr)) (fp : List Addr), DE (X.blk s H scope (compEnvC scope cl C X.env) fp) K elt te me) (hj : js.all (fun j => (own.map (·.2)).contains j) = true) (h0 : Shared) (hs : ∀ x, foldedSetIterable iter X.env x = pure x := by intro _; rfl) :
    DF1 X K (.ListComp elt [⟨tg, iter, ifs, 0⟩] scope pos) (tLc wi g tt te (own.map (·.2))) (lcM (own.map (·.2)) mi bnd tst me) :=
  ⟨pe_lc hc hN hi.p ok (fun s H C cl fp => (hg s H C cl fp).p) (fun s H C cl fp => (ht s H C cl fp).p) (fun s H C cl fp => (he s H C cl fp).p) hs,
   tf_lc hi.d (hg h0 (fun _ => none) 0 [] []).d (ht h0 (fun _ => none) 0 [] []).d (he h0 (fun _ => none) 0 [] []).d fun j hm => by
    have := List.all_eq_true.mp hj j hm
    simpa using this⟩
end
end Dl

set_option Elab.async false
set_option linter.all false
set_option maxRecDepth 100000
set_option maxHeartbeats 2000000
/-! Values as data: operators, subscripts, slices, built-ins. -/
namespace Dl
open PySem PySem.Spec PyProof.Rows L2
variable [TbA]
section
variable {K : PySem.W.Frag} {G H : Hp} {X : Cx}
theorem sz5 {n : Nat} (h : n ≤ 100000) : n ≤ sizeLine := Nat.le_trans h (by decide)
/-! ### + - * // % ** -/
def addD : D → D → Option D
  | .int i, .int j => some (.int (i + j))
  | .str s, .str t => if s.length + t.length ≤ 100000 then some (.str (s ++ t)) else none
  | .lst a, .lst b => if a.length + b.length ≤ 100000 then some (.lst (a ++ b)) else none
  | .tup a, .tup b => if a.length + b.length ≤ 100000 then some (.tup (a ++ b)) else none
  | _, _ => none
def rAddA (K : PySem.W.Frag) : R2 := fun x y H Q => rI0 (fun i j => .int (i + j)) x y H Q ∨ (∃ i j, x = .str i ∧ y = .str j ∧ i.length + j.length ≤ sizeLine ∧ Q (.str (i ++ j)) H) ∨ rCat x y H Q ∨ rCatA K x y H Q
theorem op_addA (hK : X.K = K) : OpR X (binaryOp .Add) (rAddA K) := by
  subst hK
  exact op_add.or (op_add_str.or (op_cat.or op_catA))
theorem go_new_tup {vs : List V} {ds : List D} {p : Addr} (gh : Same G H) (hp : H p = none) (i : IsL K G vs ds) : Go G H (upd G p (.tup vs)) (upd H p (.tup vs)) ∧ Is K (upd G p (.tup vs)) (.ref p) (.tup ds) := by
  have g := Go.new (o := .tup vs) gh hp
  exact ⟨g, .tup (SqT.of upd_same) (i.mono g.g)⟩
theorem go_new_lst {vs : List V} {ds : List D} {p : Addr} (gh : Same G H) (hp : H p = none) (i : IsL K G vs ds) : Go G H (upd G p (.lst vs)) (upd H p (.lst vs)) ∧ Is K (upd G p (.lst vs)) (.ref p) (.lst ds) := by
  have g := Go.new (o := .lst vs) gh hp
  exact ⟨g, .lst upd_same (i.mono g.g)⟩
theorem ro_add : RO K (rAddA K) addD := fun G H x y d e z Q gh h1 h2 hz q => by
  unfold addD at hz
  split at hz
  · cases hz
    cases h1.int; cases h2.int
    exact .inl ⟨_, _, rfl, rfl, q _ G H (Go.refl gh) (.int _)⟩
  · split at hz
    · rename_i hl
      cases hz
      cases h1.str; cases h2.str
      exact .inr (.inl ⟨_, _, rfl, rfl, sz5 hl, q _ G H (Go.refl gh) (.str _)⟩)
    · cases hz
  · split at hz
    · rename_i hl
      cases hz
      obtain ⟨p, vs, rfl, e1, i1⟩ := h1.lst gh
      obtain ⟨p2, vs2, rfl, e2, i2⟩ := h2.lst gh
      refine .inr (.inr (.inl ⟨p, p2, vs, vs2, rfl, rfl, e1, e2, by rw [i1.len, i2.len]; exact sz5 hl, fun r hr => ?_⟩))
      obtain ⟨g, i⟩ := go_new_lst gh hr (i1.append i2)
      exact q _ _ _ g i
    · cases hz
  · split at hz
    · rename_i hl
      cases hz
      obtain ⟨p, vs, rfl, s1, e1, i1⟩ := h1.tup gh
      obtain ⟨p2, vs2, rfl, s2, e2, i2⟩ := h2.tup gh
      refine .inr (.inr (.inr ⟨p, p2, vs, vs2, rfl, rfl, e1, e2, by rw [i1.len, i2.len]; exact sz5 hl, fun h0 => ?_, fun h0 h3 => ?_, fun h0 h3 r hr => ?_⟩))
      · subst h0
        cases i1
        exact q _ G H (Go.refl gh) (.tup s2 i2)
      · subst h3
        cases i2
        rw [List.append_nil] at q
        exact q _ G H (Go.refl gh) (.tup s1 i1)
      · obtain ⟨g, i⟩ := go_new_tup gh hr (i1.append i2)
        exact q _ _ _ g i
    · cases hz
  · cases hz
def subD : D → D → Option D
  | .int i, .int j => some (.int (i - j))
  | _, _ => none
theorem ro_sub : RO K (rI0 fun i j => .int (i - j)) subD := fun G H x y d e z Q gh h1 h2 hz q => by
  unfold subD at hz
  split at hz
  · cases hz
    cases h1.int; cases h2.int
    exact ⟨_, _, rfl, rfl, q _ G H (Go.refl gh) (.int _)⟩
  · cases hz
theorem rep_le {n : Nat} {k : Int} (h : 0 ≤ k ∧ k ≤ 1000 ∧ n ≤ 100) : n * k.toNat ≤ 100000 := by
  have h3 : k.toNat ≤ 1000 := by omega
  exact Nat.le_trans (Nat.mul_le_mul h.2.2 h3) (by decide)
def mulD : D → D → Option D
  | .int i, .int j => if i.natAbs.log2 + j.natAbs.log2 < 1000000 then some (.int (i * j)) else none
  | .lst a, .int k => if 0 ≤ k ∧ k ≤ 1000 ∧ a.length ≤ 100 then some (.lst (List.replicate k.toNat a).flatten) else none
  | _, _ => none
def rMulA : R2 := fun x y H Q => rI CMulW (fun i j => .int (i * j)) x y H Q ∨ rRep x y H Q
theorem op_mulA : OpR X (binaryOp .Mult) rMulA := op_mulW.or op_rep
theorem isl_rep {vs : List V} {ds : List D} (i : IsL K G vs ds) : ∀ n : Nat, IsL K G (List.replicate n vs).flatten (List.replicate n ds).flatten
  | 0 => .nil
  | n + 1 => by
    rw [List.replicate_succ, List.replicate_succ, List.flatten_cons, List.flatten_cons]
    exact i.append (isl_rep i n)
theorem ro_mul : RO K rMulA mulD := fun G H x y d e z Q gh h1 h2 hz q => by
  unfold mulD at hz
  split at hz
  · split at hz
    · rename_i hl
      cases hz
      cases h1.int; cases h2.int
      exact .inl ⟨_, _, rfl, rfl, hl, q _ G H (Go.refl gh) (.int _)⟩
    · cases hz
  · split at hz
    · rename_i hl
      cases hz
      cases h2.int
      obtain ⟨p, vs, rfl, e1, i1⟩ := h1.lst gh
      refine .inr ⟨p, _, vs, rfl, rfl, e1, ?_, ?_, ?_, fun r hr => ?_⟩
      · have : (0 : Int) ≤ 2 ^ 63 := by decide
        omega
      · have : (1000 : Int) < 2 ^ 63 := by decide
        omega
      · rw [i1.len]
        exact sz5 (rep_le hl)
      · obtain ⟨g, i⟩ := go_new_lst gh hr (isl_rep i1 _)
        exact q _ _ _ g i
    · cases hz
  · cases hz
def fdivD : D → D → Option D
  | .int i, .int j => if 0 < j ∧ j.natAbs.log2 < 9000 then some (.int (i / j)) else none
  | _, _ => none
theorem ro_fdiv : RO K (rI CDivW fun i j => .int (i / j)) fdivD := fun G H x y d e z Q gh h1 h2 hz q => by
  unfold fdivD at hz
  split at hz
  · split at hz
    · rename_i hl
      cases hz
      cases h1.int; cases h2.int
      exact ⟨_, _, rfl, rfl, hl, q _ G H (Go.refl gh) (.int _)⟩
    · cases hz
  · cases hz
def modD : D → D → Option D
  | .int i, .int j => if 0 < j then some (.int (i % j)) else none
  | _, _ => none
theorem ro_mod : RO K (rI (fun _ j => 0 < j) fun i j => .int (i % j)) modD := fun G H x y d e z Q gh h1 h2 hz q => by
  unfold modD at hz
  split at hz
  · split at hz
    · rename_i hl
      cases hz
      cases h1.int; cases h2.int
      exact ⟨_, _, rfl, rfl, hl, q _ G H (Go.refl gh) (.int _)⟩
    · cases hz
  · cases hz
def powD : D → D → Option D
  | .int i, .int j => if 0 ≤ j ∧ j ≤ 1000000 ∧ i.natAbs < 2 ^ 64 then some (.int (i ^ j.toNat)) else none
  | _, _ => none
theorem ro_pow : RO K (rI CPow fun i j => .int (i ^ j.toNat)) powD := fun G H x y d e z Q gh h1 h2 hz q => by
  unfold powD at hz
  split at hz
  · split at hz
    · rename_i hl
      cases hz
      cases h1.int; cases h2.int
      exact ⟨_, _, rfl, rfl, hl, q _ G H (Go.refl gh) (.int _)⟩
    · cases hz
  · cases hz
def negD : D → Option D
  | .int i => some (.int (-i))
  | _ => none
theorem ru_neg : RU1 K (rU fun i => .int (-i)) negD := fun G H x d z Q gh h1 hz q => by
  unfold negD at hz
  split at hz
  · cases hz
    cases h1.int
    exact ⟨_, rfl, q _ G H (Go.refl gh) (.int _)⟩
  · cases hz
/-! ### order of ints -/
def cmpD (f : Int → Int → Bool) : D → D → Option D
  | .int i, .int j => some (.bl (f i j))
  | _, _ => none
theorem ro_cmp (f : Int → Int → Bool) : RO K (rI0 fun i j => .bl (f i j)) (cmpD f) := fun G H x y d e z Q gh h1 h2 hz q => by
  unfold cmpD at hz
  split at hz
  · cases hz
    cases h1.int; cases h2.int
    exact ⟨_, _, rfl, rfl, q _ G H (Go.refl gh) (.bl _)⟩
  · cases hz
/-! ### equality of data -/
mutual
def D.py : D → PyData
  | .non => .none
  | .bl b => .bool b
  | .int i => .int i
  | .str s => .str s
  | .tup ds => .tuple (pyL ds)
  | .lst ds => .list (pyL ds)
  | .scr ds => .list (pyL ds)
  | .dic _ _ => .dict []
  | .obj _ _ _ => .dict []
def pyL : List D → List PyData
  | [] => []
  | d :: ds => d.py :: pyL ds
end
mutual
theorem Is.dp {v : V} {d : D} : Is K H v d → d.py.canLay0 = true → Dp K H v d.py
  | .non, _ => .non
  | .bl b, _ => .bl b
  | .int i, _ => .int i
  | .str s, _ => .str s
  | .tup h r, q => by
    unfold D.py at q ⊢
    unfold PyData.canLay0 at q
    exact .tup h (r.dp q)
  | .lst h r, q => by
    unfold D.py at q ⊢
    unfold PyData.canLay0 at q
    exact .lst (SqL.of h) (r.dp q)
  | .scr h r, q => by
    unfold D.py at q ⊢
    unfold PyData.canLay0 at q
    exact .lst h (r.dp q)
  | .dic _ _ _, q => by
    unfold D.py at q
    unfold PyData.canLay0 at q
    cases q
  | .obj _ _ _, q => by
    unfold D.py at q
    unfold PyData.canLay0 at q
    cases q
theorem IsL.dp {vs : List V} {ds : List D} : IsL K H vs ds → PyData.canLayAll0 (pyL ds) = true → DpAll K H vs (pyL ds)
  | .nil, _ => .nil
  | .cons h r, q => by
    unfold pyL at q ⊢
    unfold PyData.canLayAll0 at q
    rw [Bool.and_eq_true] at q
    exact .cons (h.dp q.1) (r.dp q.2)
end
theorem IsR.dp {v : V} {d : D} (gh : Same G H) (h : IsR K G H v d) (q : d.py.canLay0 = true) : Dp K H v d.py := by
  cases h with
  | is h => exact (h.mono gh).dp q
  | own n e r =>
    unfold D.py at q ⊢
    unfold PyData.canLay0 at q
    exact .lst (SqL.of e) ((r.mono gh).dp q)
  | ownd n e k r =>
    unfold D.py at q
    unfold PyData.canLay0 at q
    cases q
def shp (d : D) : Bool := SeqAt.shaped d.py
def eqB (d e : D) : Bool := PyData.eqv d.py e.py
def eqD (d e : D) : Option D := if shp d = true ∧ shp e = true then some (.bl (eqB d e)) else none
def neD (d e : D) : Option D := if shp d = true ∧ shp e = true then some (.bl (!eqB d e)) else none
theorem ro_eq : RO K (rEqD K) eqD := fun G H x y d e z Q gh h1 h2 hz q => by
  unfold eqD at hz
  split at hz
  · rename_i hs
    cases hz
    exact ⟨d.py, e.py, h1.dp gh (SeqAt.canLay_of_shaped hs.1), h2.dp gh (SeqAt.canLay_of_shaped hs.2), hs.1, hs.2, q _ G H (Go.refl gh) (.bl _)⟩
  · cases hz
theorem ro_ne : RO K (rNeD K) neD := fun G H x y d e z Q gh h1 h2 hz q => by
  unfold neD at hz
  split at hz
  · rename_i hs
    cases hz
    exact ⟨d.py, e.py, h1.dp gh (SeqAt.canLay_of_shaped hs.1), h2.dp gh (SeqAt.canLay_of_shaped hs.2), hs.1, hs.2, q _ G H (Go.refl gh) (.bl _)⟩
  · cases hz
theorem op_eqK (hu : X.A.units + 64 < cLine) (hK : X.K = K) : OpR X (compareOp .Eq) (rEqD K) := by subst hK; exact op_eqD hu
theorem op_neK (hu : X.A.units + 64 < cLine) (hK : X.K = K) : OpR X (compareOp .NotEq) (rNeD K) := by subst hK; exact op_neD hu
/-! ### is None -/
def isNone : D → Bool
  | .non => true
  | _ => false
def isND (d e : D) : Option D := match e with
  | .non => some (.bl (isNone d))
  | _ => none
def isNotND (d e : D) : Option D := match e with
  | .non => some (.bl (!isNone d))
  | _ => none
theorem isN_v {v : V} {d : D} (h : IsR K G H v d) : decide (v = .non) = isNone d := by
  cases h with
  | is h => cases h <;> simp [isNone]
  | own _ _ _ => simp [isNone]
  | ownd _ _ _ _ => simp [isNone]
theorem ro_isN : RO K (fun x y H Q => y = .non ∧ Q (.bl (decide (x = .non))) H) isND := fun G H x y d e z Q gh h1 h2 hz q => by
  unfold isND at hz
  split at hz
  · cases hz
    exact ⟨h2.non, by rw [isN_v h1]; exact q _ G H (Go.refl gh) (.bl _)⟩
  · cases hz
theorem ro_notN : RO K (fun x y H Q => y = .non ∧ Q (.bl (!decide (x = .non))) H) isNotND := fun G H x y d e z Q gh h1 h2 hz q => by
  unfold isNotND at hz
  split at hz
  · cases hz
    exact ⟨h2.non, by rw [isN_v h1]; exact q _ G H (Go.refl gh) (.bl _)⟩
  · cases hz
/-! ### in, not in: flat items; one sign of a text; the keys of a dict -/
def flatD : D → Option V
  | .non => some .non
  | .bl b => some (.bl b)
  | .int i => some (.int i)
  | .str s => some (.str s)
  | _ => none
def flatL : List D → Option (List V)
  | [] => some []
  | d :: ds => (flatD d).bind fun v => (flatL ds).bind fun r => some (v :: r)
theorem flatD_is {v u : V} {d : D} (h : Is K G v d) (e : flatD d = some u) : v = u ∧ flatV v = true := by
  cases h <;> simp [flatD] at e <;> subst e <;> exact ⟨rfl, rfl⟩
theorem flatD_isR {v u : V} {d : D} (h : IsR K G H v d) (e : flatD d = some u) : v = u ∧ flatV v = true := by
  cases h with
  | is h => exact flatD_is h e
  | own _ _ _ => simp [flatD] at e
  | ownd _ _ _ _ => simp [flatD] at e
theorem flatL_is : ∀ {vs us : List V} {ds : List D}, IsL K G vs ds → flatL ds = some us → vs = us ∧ vs.all flatV = true
  | _, _, _, .nil, e => by cases e; exact ⟨rfl, rfl⟩
  | _, _, _, .cons h r, e => by
    obtain ⟨v, e1, e2⟩ := bind_some_of e
    obtain ⟨w, e3, e4⟩ := bind_some_of e2
    cases e4
    obtain ⟨h1, h2⟩ := flatD_is h e1
    obtain ⟨h3, h4⟩ := flatL_is r e3
    subst h1 h3
    exact ⟨rfl, by rw [List.all_cons, h2, h4]; rfl⟩
def keyD : D → Option Key
  | .int i => some (.inl i)
  | .str s => some (.inr s)
  | _ => none
theorem keyD_is {v : V} {d : D} {k : Key} (h : IsR K G H v d) (e : keyD d = some k) : v = kV k := by
  unfold keyD at e
  split at e
  · cases e; exact h.int
  · cases e; exact h.str
  · cases e
/-- the item of a key -/
def lookD : List Key → List D → Key → Option D
  | k :: ks, d :: ds, j => if k = j then some d else lookD ks ds j
  | _, _, _ => none
theorem lookD_val : ∀ {kvs : List (Key × V)} {ks : List Key} {ds : List D} {k : Key}, kvs.map (·.1) = ks → IsL K G (kvs.map (·.2)) ds →
    (lookD ks ds k = none ∧ valV kvs k = none) ∨ ∃ d v, lookD ks ds k = some d ∧ valV kvs k = some v ∧ Is K G v d
  | [], ks, ds, k, h, i => by
    subst h
    cases i
    exact .inl ⟨rfl, rfl⟩
  | (a, v) :: r, ks, ds, k, h, i => by
    subst h
    cases i with
    | cons i1 i2 =>
      by_cases hk : a = k
      · subst hk
        exact .inr ⟨_, v, by simp [lookD], valV_pos rfl, i1⟩
      · simp only [lookD, List.map_cons, if_neg hk]
        rw [valV_neg (p := (a, v)) hk]
        exact lookD_val rfl i2
def inB (d e : D) : Option Bool := match e with
  | .lst es => (flatD d).bind fun v => (flatL es).bind fun vs => some (inV v vs)
  | .scr es => (flatD d).bind fun v => (flatL es).bind fun vs => some (inV v vs)
  | .tup es => (flatD d).bind fun v => (flatL es).bind fun vs => some (inV v vs)
  | .str z => match d with
    | .str s => match s.cps.toList with
      | [c] => some (decide (c ∈ z.cps.toList))
      | _ => none
    | _ => none
  | .dic ks ds => (keyD d).bind fun k => some (lookD ks ds k).isSome
  | _ => none
def inD (d e : D) : Option D := (inB d e).bind fun b => some (.bl b)
def notinD (d e : D) : Option D := (inB d e).bind fun b => some (.bl (!b))
/-- what inB leans on -/
inductive InAt (K : PySem.W.Frag) (H : Hp) (x y : V) : Bool → Prop
  | seq {p : Addr} {xs : List V} : y = .ref p → (SqL K H p xs ∨ SqT K H p xs) → flatV x = true → xs.all flatV = true → InAt K H x y (inV x xs)
  | sign {c : Nat} {z : Str} : x = .str ⟨#[c]⟩ → y = .str z → InAt K H x y (decide (c ∈ z.cps.toList))
  | key {a : Addr} {o : Option V} : y = .ref a → DGet H a x o → InAt K H x y o.isSome
theorem inB_at {x y : V} {d e : D} {b : Bool} (gh : Same G H) (h1 : IsR K G H x d) (h2 : IsR K G H y e) (h : inB d e = some b) : InAt K H x y b := by
  unfold inB at h
  split at h
  · obtain ⟨v, e1, h⟩ := bind_some_of h
    obtain ⟨vs, e2, h⟩ := bind_some_of h
    cases h
    obtain ⟨p, ws, rfl, q, i⟩ := h2.lst gh
    obtain ⟨h3, h4⟩ := flatD_isR h1 e1
    obtain ⟨h5, h6⟩ := flatL_is i e2
    subst h3 h5
    exact .seq rfl (.inl (SqL.of q)) h4 h6
  · obtain ⟨v, e1, h⟩ := bind_some_of h
    obtain ⟨vs, e2, h⟩ := bind_some_of h
    cases h
    obtain ⟨p, ws, rfl, q, i⟩ := h2.scr gh
    obtain ⟨h3, h4⟩ := flatD_isR h1 e1
    obtain ⟨h5, h6⟩ := flatL_is i e2
    subst h3 h5
    exact .seq rfl (.inl q) h4 h6
  · obtain ⟨v, e1, h⟩ := bind_some_of h
    obtain ⟨vs, e2, h⟩ := bind_some_of h
    cases h
    obtain ⟨p, ws, rfl, _, q, i⟩ := h2.tup gh
    obtain ⟨h3, h4⟩ := flatD_isR h1 e1
    obtain ⟨h5, h6⟩ := flatL_is i e2
    subst h3 h5
    exact .seq rfl (.inr q) h4 h6
  · split at h
    · split at h
      · rename_i s l c hc
        cases h
        cases h1.str
        cases h2.str
        refine .sign (c := c) ?_ rfl
        have : s.cps = #[c] := by rw [← Array.toList_inj]; simpa using hc
        rw [← this]
      · cases h
    · cases h
  · obtain ⟨k, e1, h⟩ := bind_some_of h
    cases h
    obtain ⟨p, kvs, rfl, q, hk, i⟩ := h2.dic gh
    rw [keyD_is h1 e1]
    rcases lookD_val (k := k) hk i with ⟨a1, a2⟩ | ⟨d', v', a1, a2, _⟩
    · rw [a1]
      have := InAt.key (K := K) (H := H) (x := kV k) (y := .ref p) (o := valV kvs k) rfl (DGet.k q)
      rw [a2] at this
      exact this
    · rw [a1]
      have := InAt.key (K := K) (H := H) (x := kV k) (y := .ref p) (o := valV kvs k) rfl (DGet.k q)
      rw [a2] at this
      exact this
  · cases h
end
section
variable {K : PySem.W.Frag} {X : Cx} {a b : Expr} {ta tb : TE} {pos : Pos} {ma mb : En → Option D}
theorem PE.or {e : Expr} {t t' : TE} (h : PE X e t) (h' : PE X e t') : PE X e (fun σ H Q => t σ H Q ∨ t' σ H Q) := ⟨fun pins s σ H Q I q => q.elim (h.run pins s σ H Q I) (h'.run pins s σ H Q I)⟩
theorem PT.or {e : Expr} {t t' : TT} (h : PT X e t) (h' : PT X e t') : PT X e (fun σ H Q => t σ H Q ∨ t' σ H Q) := ⟨fun pins s σ H Q I q => q.elim (h.run pins s σ H Q I) (h'.run pins s σ H Q I)⟩
def tIn3 (K : PySem.W.Frag) (ta tb : TE) : TE := fun σ H Q => tOp (rIn K false) ta tb σ H Q ∨ tOp (fun x y H Q => ∃ (c : Nat) (z : Str), x = .str ⟨#[c]⟩ ∧ y = .str z ∧ Q (.bl (decide (c ∈ z.cps.toList))) H) ta tb σ H Q ∨ tDIn ta tb σ H Q
def tNotIn3 (K : PySem.W.Frag) (ta tb : TE) : TE := fun σ H Q => tOp (rIn K true) ta tb σ H Q ∨ tOp (fun x y H Q => ∃ (c : Nat) (z : Str), x = .str ⟨#[c]⟩ ∧ y = .str z ∧ Q (.bl (!decide (c ∈ z.cps.toList))) H) ta tb σ H Q ∨ tDNotIn ta tb σ H Q
def seqLike : D → Bool
  | .lst _ => true
  | .scr _ => true
  | .tup _ => true
  | _ => false
/-- the kind of the second side decides which rule is taken -/
inductive InK (K : PySem.W.Frag) (H : Hp) (x y : V) (b : Bool) : D → Prop
  | seq {e : D} {p : Addr} {xs : List V} : seqLike e = true → y = .ref p → (SqL K H p xs ∨ SqT K H p xs) → flatV x = true → xs.all flatV = true → b = inV x xs → InK K H x y b e
  | sign {c : Nat} {z : Str} : x = .str ⟨#[c]⟩ → y = .str z → b = decide (c ∈ z.cps.toList) → InK K H x y b (.str z)
  | key {ks : List Key} {ds : List D} {a : Addr} {o : Option V} : y = .ref a → DGet H a x o → b = o.isSome → InK K H x y b (.dic ks ds)
theorem inB_k {G H : Hp} {x y : V} {d e : D} {b : Bool} (gh : Same G H) (h1 : IsR K G H x d) (h2 : IsR K G H y e) (h : inB d e = some b) : InK K H x y b e := by
  have at_ := inB_at gh h1 h2 h
  cases e with
  | lst es =>
    obtain ⟨p, ws, rfl, _⟩ := h2.lst gh
    unfold inB at h
    obtain ⟨v, e1, h⟩ := bind_some_of h
    obtain ⟨vs, e2, h⟩ := bind_some_of h
    cases h
    obtain ⟨p', ws', e', q, i⟩ := h2.lst gh
    obtain ⟨h3, h4⟩ := flatD_isR h1 e1
    obtain ⟨h5, h6⟩ := flatL_is i e2
    subst h3 h5
    exact .seq rfl e' (.inl (SqL.of q)) h4 h6 rfl
  | scr es =>
    unfold inB at h
    obtain ⟨v, e1, h⟩ := bind_some_of h
    obtain ⟨vs, e2, h⟩ := bind_some_of h
    cases h
    obtain ⟨p', ws', e', q, i⟩ := h2.scr gh
    obtain ⟨h3, h4⟩ := flatD_isR h1 e1
    obtain ⟨h5, h6⟩ := flatL_is i e2
    subst h3 h5
    exact .seq rfl e' (.inl q) h4 h6 rfl
  | tup es =>
    unfold inB at h
    obtain ⟨v, e1, h⟩ := bind_some_of h
    obtain ⟨vs, e2, h⟩ := bind_some_of h
    cases h
    obtain ⟨p', ws', e', _, q, i⟩ := h2.tup gh
    obtain ⟨h3, h4⟩ := flatD_isR h1 e1
    obtain ⟨h5, h6⟩ := flatL_is i e2
    subst h3 h5
    exact .seq rfl e' (.inr q) h4 h6 rfl
  | obj c xs es => unfold inB at h; cases h
  | str z =>
    cases h2.str
    cases at_ with
    | seq e1 _ _ _ => cases e1
    | sign e1 e2 => cases e2; exact .sign e1 rfl rfl
    | key e1 _ => cases e1
  | dic ks ds =>
    obtain ⟨p, kvs, rfl, q, hk, i⟩ := h2.dic gh
    unfold inB at h
    obtain ⟨k, e1, h⟩ := bind_some_of h
    cases h
    rw [keyD_is h1 e1]
    refine .key (o := valV kvs k) rfl (DGet.k q) ?_
    rcases lookD_val (k := k) hk i with ⟨a1, a2⟩ | ⟨d', v', a1, a2, _⟩
    · rw [a1, a2]; rfl
    · rw [a1, a2]; rfl
  | non => unfold inB at h; cases h
  | bl _ => unfold inB at h; cases h
  | int _ => unfold inB at h; cases h
theorem td_in (ha : TR K ta ma) (hb : TR K tb mb) : TD K (tIn3 K ta tb) (bind2 ma mb inD) := fun H0 env σ H G z Q rp e q => by
  obtain ⟨d, e', e1, e2, e3⟩ := bind2_some e
  obtain ⟨bb, e4, e5⟩ := bind_some_of e3
  cases e5
  have go : ∀ (R : V → V → Hp → Prop), (∀ v w G2 H2, Go G H G2 H2 → IsR K G2 H2 v d → IsR K G2 H2 w e' → R v w H2) → ta σ H fun x H1 => tb σ H1 fun y H2 => R x y H2 := fun R hR =>
    ha H0 env σ H G d _ rp e1 fun v G1 H1 g1 i1 => hb H0 env σ H1 G1 e' _ (rp.go g1) e2 fun w G2 H2 g2 i2 => hR v w G2 H2 (g1.trans g2) (i1.go g2) i2
  cases he : e' with
  | str zz =>
    subst he
    refine .inr (.inl (go _ fun v w G2 H2 g i1 i2 => ?_))
    cases inB_k g.gh i1 i2 e4 with
    | seq h _ _ _ _ _ => cases h
    | sign h1 h2 h3 => subst h3; exact ⟨_, _, h1, h2, q _ G2 H2 g (.bl _)⟩
  | dic ks ds =>
    subst he
    refine .inr (.inr (go _ fun v w G2 H2 g i1 i2 => ?_))
    cases inB_k g.gh i1 i2 e4 with
    | seq h _ _ _ _ _ => cases h
    | key h1 h2 h3 => subst h3; exact ⟨_, _, h1, h2, q _ G2 H2 g (.bl _)⟩
  | _ =>
    subst he
    refine .inl (go _ fun v w G2 H2 g i1 i2 => ?_)
    cases inB_k g.gh i1 i2 e4 with
    | seq _ h1 h2 h3 h4 h5 => subst h5; exact ⟨_, _, h1, h2, h3, h4, q _ G2 H2 g (.bl _)⟩
theorem td_notin (ha : TR K ta ma) (hb : TR K tb mb) : TD K (tNotIn3 K ta tb) (bind2 ma mb notinD) := fun H0 env σ H G z Q rp e q => by
  obtain ⟨d, e', e1, e2, e3⟩ := bind2_some e
  obtain ⟨bb, e4, e5⟩ := bind_some_of e3
  cases e5
  have go : ∀ (R : V → V → Hp → Prop), (∀ v w G2 H2, Go G H G2 H2 → IsR K G2 H2 v d → IsR K G2 H2 w e' → R v w H2) → ta σ H fun x H1 => tb σ H1 fun y H2 => R x y H2 := fun R hR =>
    ha H0 env σ H G d _ rp e1 fun v G1 H1 g1 i1 => hb H0 env σ H1 G1 e' _ (rp.go g1) e2 fun w G2 H2 g2 i2 => hR v w G2 H2 (g1.trans g2) (i1.go g2) i2
  cases he : e' with
  | str zz =>
    subst he
    refine .inr (.inl (go _ fun v w G2 H2 g i1 i2 => ?_))
    cases inB_k g.gh i1 i2 e4 with
    | seq h _ _ _ _ _ => cases h
    | sign h1 h2 h3 => subst h3; exact ⟨_, _, h1, h2, q _ G2 H2 g (.bl _)⟩
  | dic ks ds =>
    subst he
    refine .inr (.inr (go _ fun v w G2 H2 g i1 i2 => ?_))
    cases inB_k g.gh i1 i2 e4 with
    | seq h _ _ _ _ _ => cases h
    | key h1 h2 h3 => subst h3; exact ⟨_, _, h1, h2, q _ G2 H2 g (.bl _)⟩
  | _ =>
    subst he
    refine .inl (go _ fun v w G2 H2 g i1 i2 => ?_)
    cases inB_k g.gh i1 i2 e4 with
    | seq _ h1 h2 h3 h4 h5 => subst h5; exact ⟨_, _, h1, h2, h3, h4, q _ G2 H2 g (.bl _)⟩
theorem de_in (hu : X.A.units + 1 < cLine) (ha : DR X K a ta ma) (hb : DR X K b tb mb) (hm : behindInMarks .In b = false) (hK : X.K = K := by rfl) : DE X K (.Compare a [.In] [b] pos) (tIn3 K ta tb) (bind2 ma mb inD) := by
  subst hK
  exact ⟨PE.or (pe_cmpR op_in_seq ha.p hb.p hm) (PE.or (pe_cmpR op_in_sign ha.p hb.p hm) (pe_cmp (pc_din hu ha.p hb.p) hm)), td_in ha.d hb.d⟩
theorem de_notin (hu : X.A.units + 1 < cLine) (ha : DR X K a ta ma) (hb : DR X K b tb mb) (hm : behindInMarks .NotIn b = false) (hK : X.K = K := by rfl) : DE X K (.Compare a [.NotIn] [b] pos) (tNotIn3 K ta tb) (bind2 ma mb notinD) := by
  subst hK
  exact ⟨PE.or (pe_cmpR op_notIn_seq ha.p hb.p hm) (PE.or (pe_cmpR op_notIn_sign ha.p hb.p hm) (pe_cmp (pc_dnotin hu ha.p hb.p) hm)), td_notin ha.d hb.d⟩
/-- any comparison that is a value is a test -/
theorem tb_of {K : PySem.W.Frag} {t : TE} {m : En → Option D} (h : TD K t m) : TB K (tB t) (boolM m) := tb_B h
theorem PE.cmpT {op : CmpOp} {t : TE} (h : PE X (.Compare a [op] [b] pos) t) (ht : PT X (.Compare a [op] [b] pos) (tB t)) : PT X (.Compare a [op] [b] pos) (tB t) := ht
theorem dt_in (hu : X.A.units + 1 < cLine) (ha : DR X K a ta ma) (hb : DR X K b tb mb) (hm : behindInMarks .In b = false) (hK : X.K = K := by rfl) : DT X K (.Compare a [.In] [b] pos) (fun σ H Q => tB (tIn3 K ta tb) σ H Q) (boolM (bind2 ma mb inD)) := by
  subst hK
  refine ⟨⟨fun pins s σ H Q I q => ?_⟩, tb_B (td_in ha.d hb.d)⟩
  rcases q with q | q | q
  · exact (pt_cmpR op_in_seq ha.p hb.p hm).run pins s σ H Q I q
  · exact (pt_cmpR op_in_sign ha.p hb.p hm).run pins s σ H Q I q
  · exact (pt_cmp (pc_din hu ha.p hb.p) hm).run pins s σ H Q I q
theorem dt_notin (hu : X.A.units + 1 < cLine) (ha : DR X K a ta ma) (hb : DR X K b tb mb) (hm : behindInMarks .NotIn b = false) (hK : X.K = K := by rfl) : DT X K (.Compare a [.NotIn] [b] pos) (fun σ H Q => tB (tNotIn3 K ta tb) σ H Q) (boolM (bind2 ma mb notinD)) := by
  subst hK
  refine ⟨⟨fun pins s σ H Q I q => ?_⟩, tb_B (td_notin ha.d hb.d)⟩
  rcases q with q | q | q
  · exact (pt_cmpR op_notIn_seq ha.p hb.p hm).run pins s σ H Q I q
  · exact (pt_cmpR op_notIn_sign ha.p hb.p hm).run pins s σ H Q I q
  · exact (pt_cmp (pc_dnotin hu ha.p hb.p) hm).run pins s σ H Q I q
/-! ### subscripts -/
def ixD (d e : D) : Option D := match d, e with
  | .lst ds, .int i => atI ds i
  | .scr ds, .int i => atI ds i
  | .tup ds, .int i => atI ds i
  | .str z, .int i => if z.length ≤ 100000 then (atI z.cps.toList i).bind fun c => some (.str ⟨#[c]⟩) else none
  | .dic ks ds, k => (keyD k).bind fun k => lookD ks ds k
  | _, _ => none
theorem atI_is {G : Hp} {vs : List V} {ds : List D} {i : Int} {d : D} (h : IsL K G vs ds) (e : atI ds i = some d) : ∃ v, atI vs i = some v ∧ Is K G v d := by
  unfold atI at e ⊢
  rw [h.len]
  obtain ⟨j, e1, e2⟩ := bind_some_of e
  obtain ⟨v, h1, h2⟩ := h.get e2
  exact ⟨v, by rw [e1]; exact h1, h2⟩
def tIx2 (K : PySem.W.Frag) (ta tb : TE) : TE := fun σ H Q => tOp (rIx K) ta tb σ H Q ∨ tDGet ta tb σ H Q
theorem td_ix (ha : TR K ta ma) (hb : TR K tb mb) : TD K (tIx2 K ta tb) (bind2 ma mb ixD) := fun H0 env σ H G z Q rp e q => by
  obtain ⟨d, e', e1, e2, e3⟩ := bind2_some e
  have go : ∀ (R : V → V → Hp → Prop), (∀ v w G2 H2, Go G H G2 H2 → IsR K G2 H2 v d → IsR K G2 H2 w e' → R v w H2) → ta σ H fun x H1 => tb σ H1 fun y H2 => R x y H2 := fun R hR =>
    ha H0 env σ H G d _ rp e1 fun v G1 H1 g1 i1 => hb H0 env σ H1 G1 e' _ (rp.go g1) e2 fun w G2 H2 g2 i2 => hR v w G2 H2 (g1.trans g2) (i1.go g2) i2
  unfold ixD at e3
  split at e3
  · refine .inl (go _ fun v w G2 H2 g i1 i2 => ?_)
    obtain ⟨p, vs, rfl, s1, i⟩ := i1.lst g.gh
    cases i2.int
    obtain ⟨u, a1, a2⟩ := atI_is i e3
    exact .inl ⟨p, vs, _, u, rfl, rfl, SqL.of s1, a1, q _ G2 H2 g a2⟩
  · refine .inl (go _ fun v w G2 H2 g i1 i2 => ?_)
    obtain ⟨p, vs, rfl, s1, i⟩ := i1.scr g.gh
    cases i2.int
    obtain ⟨u, a1, a2⟩ := atI_is i e3
    exact .inl ⟨p, vs, _, u, rfl, rfl, s1, a1, q _ G2 H2 g a2⟩
  · refine .inl (go _ fun v w G2 H2 g i1 i2 => ?_)
    obtain ⟨p, vs, rfl, _, s1, i⟩ := i1.tup g.gh
    cases i2.int
    obtain ⟨u, a1, a2⟩ := atI_is i e3
    exact .inr (.inl ⟨p, vs, _, u, rfl, rfl, s1, a1, q _ G2 H2 g a2⟩)
  · split at e3
    · rename_i hz
      obtain ⟨c, e4, e5⟩ := bind_some_of e3
      cases e5
      refine .inl (go _ fun v w G2 H2 g i1 i2 => ?_)
      cases i1.str
      cases i2.int
      exact .inr (.inr ⟨_, _, c, rfl, rfl, sz5 hz, e4, q _ G2 H2 g (.str _)⟩)
    · cases e3
  · obtain ⟨k, e4, e5⟩ := bind_some_of e3
    refine .inr (go _ fun v w G2 H2 g i1 i2 => ?_)
    obtain ⟨p, kvs, rfl, s1, hk, i⟩ := i1.dic g.gh
    rw [keyD_is i2 e4]
    rcases lookD_val (k := k) hk i with ⟨a1, a2⟩ | ⟨d', v', a1, a2, a3⟩
    · rw [a1] at e5; cases e5
    · rw [a1] at e5
      cases e5
      exact ⟨p, v', rfl, by have := DGet.k (k := k) s1; rw [a2] at this; exact this, q _ G2 H2 g a3⟩
  · cases e3
theorem de_ix (hu : X.A.units + 1 < cLine) (ha : DR X K a ta ma) (hb : DR X K b tb mb) (hs : PlainIx b := by exact fun _ _ => rfl) (hs2 : NoSl b := by exact fun _ _ => rfl) (hK : X.K = K := by rfl) : DE X K (.Subscript a b pos) (tIx2 K ta tb) (bind2 ma mb ixD) := by
  subst hK
  exact ⟨PE.or (pe_ix ix_seq ha.p hb.p hs) (pe_dget hu ha.p hb.p hs2), td_ix ha.d hb.d⟩
/-! ### slices -/
def TOd (K : PySem.W.Frag) (t : TO) (m : En → Option (Option Int)) : Prop := ∀ (H0 : Hp) (env : En) (σ : L2.St) (H G : Hp) (o : Option Int) (Q : Option Int → Hp → Prop), Rp K H0 G env σ H → m env = some o → (∀ G' H', Go G H G' H' → Q o H') → t σ H Q
structure DO (X : Cx) (K : PySem.W.Frag) (e : Option Expr) (t : TO) (m : En → Option (Option Int)) : Prop where
  p : PO X e t
  d : TOd K t m
theorem do_none : DO X K none tNoPart (fun _ => some none) := ⟨po_none, fun H0 env σ H G o Q r e q => by cases e; exact q G H (Go.refl r.gh)⟩
def partM (m : En → Option D) (env : En) : Option (Option Int) := match m env with
  | some (.int i) => some (some i)
  | _ => none
theorem do_some {e : Expr} {te : TE} {m : En → Option D} (h : DR X K e te m) : DO X K (some e) (tPart te) (partM m) := ⟨po_some h.p, fun H0 env σ H G o Q r e q => by
  unfold partM at e
  split at e
  · rename_i i e1
    cases e
    exact h.d H0 env σ H G _ _ r e1 fun v G1 H1 g1 i1 => ⟨i, i1.int, q G1 H1 g1⟩
  · cases e⟩
def cutL (ds : List D) (lo hi : Option Int) : List D := (ds.drop (HT.sIx ds.length 0 lo)).take (HT.sIx ds.length ds.length hi - HT.sIx ds.length 0 lo)
def slD (d : D) (lo hi : Option Int) : Option D := match d with
  | .lst ds => some (.lst (cutL ds lo hi))
  | .scr ds => some (.lst (cutL ds lo hi))
  | .tup ds => some (.tup (cutL ds lo hi))
  | .str z => if z.length ≤ 100000 then some (.str (cutS z lo hi)) else none
  | _ => none
def slM (m : En → Option D) (ml mh : En → Option (Option Int)) (env : En) : Option D := (m env).bind fun d => (ml env).bind fun lo => (mh env).bind fun hi => slD d lo hi
theorem isl_cut {G : Hp} {vs : List V} {ds : List D} (lo hi : Option Int) (h : IsL K G vs ds) : IsL K G (cutV vs lo hi) (cutL ds lo hi) := by
  unfold cutV cutL
  rw [h.len]
  exact (h.drop _).take _
def rSl3 (K : PySem.W.Frag) : V → Option Int → Option Int → Hp → VK → Prop := fun x lo hi H Q => rSlL K x lo hi H Q ∨ rSlA K x lo hi H Q ∨ rSlS x lo hi H Q
theorem de_slice {e : Expr} {te : TE} {m : En → Option D} {lo hi : Option Expr} {tl th : TO} {ml mh : En → Option (Option Int)} {p2 : Pos} (he : DR X K e te m) (hl : DO X K lo tl ml) (hh : DO X K hi th mh) (hK : X.K = K := by rfl) : DE X K (.Subscript e (.Slice lo hi none p2) pos) (tSl (rSl3 K) te tl th) (slM m ml mh) := by
  subst hK
  refine ⟨pe_slice (SlR.or sl_list (SlR.or sl_tupA sl_str)) he.p hl.p hh.p, fun H0 env σ H G z Q rp e q => ?_⟩
  obtain ⟨d, e1, e2⟩ := bind_some_of e
  obtain ⟨l, e3, e4⟩ := bind_some_of e2
  obtain ⟨u, e5, e6⟩ := bind_some_of e4
  refine he.d H0 env σ H G d _ rp e1 fun v G1 H1 g1 i1 => ?_
  refine hl.d H0 env σ H1 G1 l _ (rp.go g1) e3 fun G2 H2 g2 => ?_
  refine hh.d H0 env σ H2 G2 u _ (rp.go (g1.trans g2)) e5 fun G3 H3 g3 => ?_
  have g := (g1.trans g2).trans g3
  have i3 := i1.go (g2.trans g3)
  unfold slD at e6
  split at e6
  · cases e6
    obtain ⟨p, vs, rfl, s1, i⟩ := i3.lst g.gh
    refine .inl ⟨p, vs, rfl, SqL.of s1, fun r hr => ?_⟩
    obtain ⟨gn, iv⟩ := go_new_lst g.gh hr (isl_cut l u i)
    exact q _ _ _ (g.trans gn) iv
  · cases e6
    obtain ⟨p, vs, rfl, s1, i⟩ := i3.scr g.gh
    refine .inl ⟨p, vs, rfl, s1, fun r hr => ?_⟩
    obtain ⟨gn, iv⟩ := go_new_lst g.gh hr (isl_cut l u i)
    exact q _ _ _ (g.trans gn) iv
  · cases e6
    obtain ⟨p, vs, rfl, s0, s1, i⟩ := i3.tup g.gh
    refine .inr (.inl ⟨p, vs, rfl, s1, fun hw => ?_, fun hw r hr => ?_⟩)
    · refine q _ G3 H3 g (.tup s0 ?_)
      have hc := isl_cut l u i
      have : cutV vs l u = vs := by
        unfold cutV
        rw [hw.1, hw.2, List.drop_zero, Nat.sub_zero, List.take_length]
      rw [this] at hc
      exact hc
    · obtain ⟨gn, iv⟩ := go_new_tup g.gh hr (isl_cut l u i)
      exact q _ _ _ (g.trans gn) iv
  · split at e6
    · rename_i hz
      cases e6
      cases i3.str
      exact .inr (.inr ⟨_, rfl, sz5 hz, q _ G3 H3 g (.str _)⟩)
    · cases e6
  · cases e6
end
/-! ### built-ins -/
section
variable {K : PySem.W.Frag} {X : Cx}
/-- one of two rules of a call -/
theorem call_or {fv : Value} {ra rb : List V → Hp → VK → Prop} (ha : CallR X fv ra) (hb : CallR X fv rb) :
    CallR X fv fun ws Hz Qz => ra ws Hz Qz ∨ rb ws Hz Qz :=
  fun pn sz σz Hz ws vz Qz Iz rz qz => qz.elim (fun q1 => ha pn sz σz Hz ws vz Qz Iz rz q1) fun q2 => hb pn sz σz Hz ws vz Qz Iz rz q2
def lenD : List D → Option D
  | [.str s] => if s.length ≤ 100000 then some (.int s.length) else none
  | [.lst ds] => some (.int ds.length)
  | [.scr ds] => some (.int ds.length)
  | [.tup ds] => some (.int ds.length)
  | [.dic ks _] => some (.int ks.length)
  | _ => none
def rLenA (K : PySem.W.Frag) : List V → Hp → VK → Prop := fun xs H Q => (∃ x n, xs = [x] ∧ LenV K x H n ∧ Q (.int n) H) ∨ ∃ a kvs, xs = [V.ref a] ∧ H a = some (.dK kvs) ∧ Q (.int kvs.length) H
theorem call_lenA (hK : X.K = K) : CallR X (.builtin "len") (rLenA K) := by subst hK; exact CallR.or call_len call_lenD
theorem rc_len : RCl K (rLenA K) lenD := fun G H vs ds z Q gh h hz q => by
  unfold lenD at hz
  split at hz
  · split at hz
    · rename_i hl
      cases hz
      obtain ⟨v, rfl, i⟩ := h.one
      cases i.str
      exact .inl ⟨_, _, rfl, ⟨sz5 hl, rfl⟩, q _ G H (Go.refl gh) (.int _)⟩
    · cases hz
  · cases hz
    obtain ⟨v, rfl, i⟩ := h.one
    obtain ⟨p, ws, rfl, s1, i1⟩ := i.lst gh
    exact .inl ⟨_, _, rfl, .inl ⟨ws, SqL.of s1, rfl⟩, by rw [i1.len]; exact q _ G H (Go.refl gh) (.int _)⟩
  · cases hz
    obtain ⟨v, rfl, i⟩ := h.one
    obtain ⟨p, ws, rfl, s1, i1⟩ := i.scr gh
    exact .inl ⟨_, _, rfl, .inl ⟨ws, s1, rfl⟩, by rw [i1.len]; exact q _ G H (Go.refl gh) (.int _)⟩
  · cases hz
    obtain ⟨v, rfl, i⟩ := h.one
    obtain ⟨p, ws, rfl, _, s1, i1⟩ := i.tup gh
    exact .inl ⟨_, _, rfl, .inr ⟨ws, s1, rfl⟩, by rw [i1.len]; exact q _ G H (Go.refl gh) (.int _)⟩
  · cases hz
    obtain ⟨v, rfl, i⟩ := h.one
    obtain ⟨p, kvs, rfl, s1, hk, i1⟩ := i.dic gh
    refine .inr ⟨_, _, rfl, s1, ?_⟩
    rw [← hk, List.length_map] at q
    exact q _ G H (Go.refl gh) (.int _)
  · cases hz
def intD : List D → Option D
  | [.int i] => some (.int i)
  | [.bl b] => some (.int (if b then 1 else 0))
  | _ => none
theorem rc_int : RCl K (fun xs H Q => (∃ i, xs = [.int i] ∧ Q (.int i) H) ∨ ∃ k, xs = [.bl k] ∧ Q (.int (if k then 1 else 0)) H) intD := fun G H vs ds z Q gh h hz q => by
  unfold intD at hz
  split at hz
  · cases hz
    obtain ⟨v, rfl, i⟩ := h.one
    cases i.int
    exact .inl ⟨_, rfl, q _ G H (Go.refl gh) (.int _)⟩
  · cases hz
    obtain ⟨v, rfl, i⟩ := h.one
    cases i.bl
    exact .inr ⟨_, rfl, q _ G H (Go.refl gh) (.int _)⟩
  · cases hz
def strOfD : List D → Option D
  | [.int i] => if i.natAbs.log2 < 1920 then some (.str (toString i)) else none
  | _ => none
theorem rc_str : RCl K (fun xs H Q => ∃ i, xs = [.int i] ∧ i.natAbs.log2 < 1920 ∧ Q (.str (toString i)) H) strOfD := fun G H vs ds z Q gh h hz q => by
  unfold strOfD at hz
  split at hz
  · split at hz
    · rename_i hl
      cases hz
      obtain ⟨v, rfl, i⟩ := h.one
      cases i.int
      exact ⟨_, rfl, hl, q _ G H (Go.refl gh) (.str _)⟩
    · cases hz
  · cases hz
def minD : List D → Option D
  | [.int i, .int j] => some (.int (if j < i then j else i))
  | _ => none
def maxD : List D → Option D
  | [.int i, .int j] => some (.int (if j > i then j else i))
  | _ => none
theorem rc_min : RCl K (fun xs H Q => ∃ i j, xs = [.int i, .int j] ∧ Q (.int (if j < i then j else i)) H) minD := fun G H vs ds z Q gh h hz q => by
  unfold minD at hz
  split at hz
  · cases hz
    obtain ⟨v, w, rfl, i, j⟩ := h.two
    cases i.int; cases j.int
    exact ⟨_, _, rfl, q _ G H (Go.refl gh) (.int _)⟩
  · cases hz
theorem rc_max : RCl K (fun xs H Q => ∃ i j, xs = [.int i, .int j] ∧ Q (.int (if j > i then j else i)) H) maxD := fun G H vs ds z Q gh h hz q => by
  unfold maxD at hz
  split at hz
  · cases hz
    obtain ⟨v, w, rfl, i, j⟩ := h.two
    cases i.int; cases j.int
    exact ⟨_, _, rfl, q _ G H (Go.refl gh) (.int _)⟩
  · cases hz
def tupleD : List D → Option D
  | [.lst ds] => some (.tup ds)
  | [.scr ds] => some (.tup ds)
  | [.tup ds] => some (.tup ds)
  | _ => none
theorem call_tupleK (hK : X.K = K) : CallR X (.type "tuple") (fun xs H Q => ∃ p ys, xs = [.ref p] ∧ ((SqL K H p ys ∧ ∀ l, H l = none → Q (.ref l) (upd H l (.tup ys))) ∨ (SqT K H p ys ∧ Q (.ref p) H))) := by subst hK; exact call_tuple_of
theorem rc_tuple : RCl K (fun xs H Q => ∃ p ys, xs = [.ref p] ∧ ((SqL K H p ys ∧ ∀ l, H l = none → Q (.ref l) (upd H l (.tup ys))) ∨ (SqT K H p ys ∧ Q (.ref p) H))) tupleD := fun G H vs ds z Q gh h hz q => by
  unfold tupleD at hz
  split at hz
  · cases hz
    obtain ⟨v, rfl, i⟩ := h.one
    obtain ⟨p, ws, rfl, s1, i1⟩ := i.lst gh
    refine ⟨p, ws, rfl, .inl ⟨SqL.of s1, fun r hr => ?_⟩⟩
    obtain ⟨gn, iv⟩ := go_new_tup gh hr i1
    exact q _ _ _ gn iv
  · cases hz
    obtain ⟨v, rfl, i⟩ := h.one
    obtain ⟨p, ws, rfl, s1, i1⟩ := i.scr gh
    refine ⟨p, ws, rfl, .inl ⟨s1, fun r hr => ?_⟩⟩
    obtain ⟨gn, iv⟩ := go_new_tup gh hr i1
    exact q _ _ _ gn iv
  · cases hz
    obtain ⟨v, rfl, i⟩ := h.one
    obtain ⟨p, ws, rfl, s0, s1, i1⟩ := i.tup gh
    exact ⟨p, ws, rfl, .inr ⟨s1, q _ G H (Go.refl gh) (.tup s0 i1)⟩⟩
  · cases hz
def listD : List D → Option (List D)
  | [.lst ds] => some ds
  | [.scr ds] => some ds
  | [.tup ds] => some ds
  | _ => none
def rList (K : PySem.W.Frag) : List V → Hp → VK → Prop := fun xs H Q => ∃ p ys, xs = [.ref p] ∧ (SqL K H p ys ∨ SqT K H p ys) ∧ ∀ l, H l = none → Q (.ref l) (upd H l (.lst ys))
theorem call_listK (hK : X.K = K) : CallR X (.type "list") (rList K) := by subst hK; exact call_list_of
theorem listD_at {G H : Hp} {vs : List V} {ds es : List D} (gh : Same G H) (h : IsRL K G H vs ds) (e : listD ds = some es) : ∃ p ys, vs = [.ref p] ∧ (SqL K H p ys ∨ SqT K H p ys) ∧ IsL K G ys es := by
  unfold listD at e
  split at e
  · cases e
    obtain ⟨v, rfl, i⟩ := h.one
    obtain ⟨p, ws, rfl, s1, i1⟩ := i.lst gh
    exact ⟨p, ws, rfl, .inl (SqL.of s1), i1⟩
  · cases e
    obtain ⟨v, rfl, i⟩ := h.one
    obtain ⟨p, ws, rfl, s1, i1⟩ := i.scr gh
    exact ⟨p, ws, rfl, .inl s1, i1⟩
  · cases e
    obtain ⟨v, rfl, i⟩ := h.one
    obtain ⟨p, ws, rfl, _, s1, i1⟩ := i.tup gh
    exact ⟨p, ws, rfl, .inr s1, i1⟩
  · cases e
theorem tf_list {ta : TA} {ms : En → Option (List D)} (h : TAr K ta ms) : TF K (tCB (rList K) ta) (fun env => (ms env).bind listD) := fun H0 env σ H G es Q rp e q => by
  obtain ⟨ds, e1, e2⟩ := bind_some_of e
  refine h H0 env σ H G ds _ rp e1 fun vs G1 H1 g1 i1 => ?_
  obtain ⟨p, ys, rfl, s1, i2⟩ := listD_at g1.gh i1 e2
  refine ⟨p, ys, rfl, s1, fun l hl => ?_⟩
  have nl := g1.gh.free hl
  exact q l ys G1 _ (g1.fresh hl) (g1.free hl) nl upd_same i2
/-- isinstance(x, str | tuple | int | bool) -/
def tyD : D → String
  | .non => "NoneType"
  | .bl _ => "bool"
  | .int _ => "int"
  | .str _ => "str"
  | .tup _ => "tuple"
  | .lst _ => "list"
  | .scr _ => "list"
  | .dic _ _ => "dict"
  | .obj _ _ _ => "object"
def D.isObj : D → Bool
  | .obj _ _ _ => true
  | _ => false
theorem tyx_of {G H : Hp} {v : V} {d : D} (gh : Same G H) (h : IsR K G H v d) (ho : d.isObj = false) : TyX K H v (.type (tyD d)) := by
  have tl : ∀ {p : Addr} {vs : List V}, SqL K H p vs → TyX K H (.ref p) (.type "list") := fun {p vs} s => by
    rcases s with (s | ⟨o, s⟩) | ⟨o, its, n, e, c, _⟩
    · exact .base (.lst s)
    · exact .base (.frz s)
    · exact .kList e c
  cases d with
  | non => cases h.non; exact .base .non
  | bl b => cases h.bl; exact .base (.bl b)
  | int i => cases h.int; exact .base (.int i)
  | str s => cases h.str; exact .base (.str s)
  | tup ds =>
    obtain ⟨p, vs, rfl, _, s, _⟩ := h.tup gh
    rcases s with (s | ⟨o, s⟩) | ⟨o, its, n, e, c, _⟩
    · exact .base (.tup s)
    · exact .fTuple s
    · exact .kTuple e c
  | lst ds => obtain ⟨p, vs, rfl, s, _⟩ := h.lst gh; exact tl (SqL.of s)
  | scr ds => obtain ⟨p, vs, rfl, s, _⟩ := h.scr gh; exact tl s
  | dic ks ds => obtain ⟨p, vs, rfl, s, _⟩ := h.dic gh; exact .base (.dK s)
  | obj c xs ds => cases ho
def isiD (T : String) (d : D) : Option D := if d.isObj = true then none else (kitB (tyD d) T).bind fun b => some (.bl b)
theorem de_isi {e : Expr} {te : TE} {m : En → Option D} {T : Str} {Tn : String} {p p2 pos : Pos} (h : DR X K e te m) (hg : Gl X "isinstance") (hm : X.mg "isinstance" = none) (hg2 : Gl X T) (hm2 : X.mg T = none) (hv : bootBuiltins T = some (.type Tn)) (hn : T ≠ "__name__" := by decide) (hd : (T == ("__debug__" : Str)) = false := by decide) (hK : X.K = K := by rfl)
    (hs : starEach (e :: [.Name T p2]) X.env = (false, eval e X.env) :: starEach [.Name T p2] X.env := by rfl) (hs2 : starEach [.Name T p2] X.env = (false, eval (.Name T p2) X.env) :: starEach [] X.env := by rfl) (hpl : (backTo pos (starEach [.Name T p2] X.env)).any (·.1) = false := by rfl) :
    DE X K (.Call (.Name "isinstance" p) [e, .Name T p2] [] pos) (tCB (rIsi K) (tCons te (tCons (tC (.ty Tn)) tNil))) (fun env => (m env).bind (isiD Tn)) := by
  subst hK
  refine ⟨pe_callB call_isi hg hm PyProof.Rows.boot_isinstance (pa_cons h.p (pa_cons (pe_bltn hg2 hm2 hv rfl hn hd) pa_nil hs2) hs) (by decide) (by decide) hs hpl, fun H0 env σ H G z Q rp e q => ?_⟩
  obtain ⟨d, e1, e2⟩ := bind_some_of e
  unfold isiD at e2
  split at e2
  · cases e2
  · rename_i ho
    obtain ⟨b, e3, e4⟩ := bind_some_of e2
    cases e4
    exact h.d H0 env σ H G d _ rp e1 fun v G1 H1 g1 i1 => ⟨v, .ty Tn, _, _, b, rfl, .ty Tn, tyx_of g1.gh i1 (Bool.eq_false_iff.mpr ho), kit_ty e3, q _ G1 H1 g1 (.bl b)⟩
/-- d.get(k), d.get(k, x) -/
def get1D (d k : D) : Option D := match d with
  | .dic ks ds => (keyD k).bind fun k => some ((lookD ks ds k).getD .non)
  | _ => none
def get2D (d k x : D) : Option D := match d with
  | .dic ks ds => (keyD k).bind fun k => some ((lookD ks ds k).getD x)
  | _ => none
variable {o e f : Expr} {to te tf : TE} {mo me mf : En → Option D} {apos cpos : Pos}
theorem de_get1 (hu : X.A.units + 1 < cLine) (ho : DR X K o to mo) (he : DR X K e te me) (m : M1 X o "get" apos e cpos) : DE X K (.Call (.Attribute o "get" apos) [e] [] cpos) (tDGet1 to te) (bind2 mo me get1D) := by
  refine ⟨pe_dget1 hu ho.p he.p m, fun H0 env σ H G z Q rp e q => ?_⟩
  obtain ⟨d, k, e1, e2, e3⟩ := bind2_some e
  refine ho.d H0 env σ H G d _ rp e1 fun v G1 H1 g1 i1 => ?_
  unfold get1D at e3
  split at e3
  · obtain ⟨kk, e4, e5⟩ := bind_some_of e3
    cases e5
    obtain ⟨p, kvs, rfl, s1, hk, i⟩ := i1.dic g1.gh
    refine ⟨p, rfl, .inl ⟨kvs, .inl s1⟩, ?_⟩
    refine he.d H0 env σ H1 G1 k _ (rp.go g1) e2 fun w G2 H2 g2 i2 => ?_
    have s2 := g2.same _ _ (noT_of s1 dK_nt)
    rw [keyD_is i2 e4]
    refine ⟨_, DGet.k s2, ?_⟩
    rcases lookD_val (k := kk) hk i with ⟨a1, a2⟩ | ⟨d', v', a1, a2, a3⟩
    · rw [a2]; rw [a1] at q; exact q _ G2 H2 (g1.trans g2) .non
    · rw [a2]; rw [a1] at q; exact q _ G2 H2 (g1.trans g2) (a3.mono g2.g)
  · cases e3
def bind3 (ma mb mc : En → Option D) (f : D → D → D → Option D) (env : En) : Option D := (ma env).bind fun d => (mb env).bind fun e => (mc env).bind fun g => f d e g
theorem de_get2 (hu : X.A.units + 1 < cLine) (ho : DR X K o to mo) (he : DR X K e te me) (hf : DE X K f tf mf) (m : M2 X o "get" apos e f cpos) : DE X K (.Call (.Attribute o "get" apos) [e, f] [] cpos) (tDGet2 to te tf) (bind3 mo me mf get2D) := by
  refine ⟨pe_dget2 hu ho.p he.p hf.p m, fun H0 env σ H G z Q rp e q => ?_⟩
  obtain ⟨d, e1, e⟩ := bind_some_of e
  obtain ⟨k, e2, e⟩ := bind_some_of e
  obtain ⟨x, e6, e3⟩ := bind_some_of e
  refine ho.d H0 env σ H G d _ rp e1 fun v G1 H1 g1 i1 => ?_
  unfold get2D at e3
  split at e3
  · obtain ⟨kk, e4, e5⟩ := bind_some_of e3
    cases e5
    obtain ⟨p, kvs, rfl, s1, hk, i⟩ := i1.dic g1.gh
    refine ⟨p, rfl, .inl ⟨kvs, .inl s1⟩, ?_⟩
    refine he.d H0 env σ H1 G1 k _ (rp.go g1) e2 fun w G2 H2 g2 i2 => ?_
    refine hf.d H0 env σ H2 G2 x _ (rp.go (g1.trans g2)) e6 fun u G3 H3 g3 i3 => ?_
    have s3 := (g2.trans g3).same _ _ (noT_of s1 dK_nt)
    rw [keyD_is i2 e4]
    refine ⟨_, DGet.k s3, ?_⟩
    rcases lookD_val (k := kk) hk i with ⟨a1, a2⟩ | ⟨d', v', a1, a2, a3⟩
    · rw [a2]; rw [a1] at q; exact q _ G3 H3 ((g1.trans g2).trans g3) i3
    · rw [a2]; rw [a1] at q; exact q _ G3 H3 ((g1.trans g2).trans g3) (a3.mono (g2.trans g3).g)
  · cases e3
end
end Dl

set_option Elab.async false
set_option linter.all false
set_option maxRecDepth 100000
set_option maxHeartbeats 2000000
/-! Values as data: own lists and dicts that change, comprehensions of dicts, assignments. -/
namespace Dl
open PySem PySem.Spec PyProof.Rows L2
variable [TbA]
section
variable {K : PySem.W.Frag} {H0 G0 G H G' H' : Hp} {env : En} {σ : L2.St}
/-- a new own thing at p goes to slot i -/
theorem Rp.setOwn {p : Addr} {s : Sl} {o : HO} (r : Rp K H0 G env σ H) (i : Nat) (g : Go G H G' H') (hp : H p = none) (hs : s.isOwn = true) (ok : SlOk K G' H0 H' (.ref p) s) : Rp K H0 G' (env.set i (some s)) (σ.set i (some (.ref p))) H' := by
  have r' := r.go g
  have back : ∀ (k : Nat) (s1 : Sl), k ≠ i → (env.set i (some s))[k]? = some (some s1) → env[k]? = some (some s1) := fun k s1 hk e => by
    rw [List.getElem?_set_ne (Ne.symm hk)] at e
    exact e
  have far : ∀ (k : Nat) (s1 : Sl) (v : V), env[k]? = some (some s1) → s1.isOwn = true → σ[k]? = some (some v) → v ≠ .ref p := fun k s1 v e o hv z => by
    subst z
    obtain ⟨w, h1, h2⟩ := r.sl k s1 e
    rw [hv] at h1
    cases h1
    cases s1 with
    | val d => cases o
    | own ds =>
      obtain ⟨q, vs, e2, _, _, e5, _⟩ := h2
      cases e2
      rw [hp] at e5
      cases e5
    | ownd ks ds =>
      obtain ⟨q, vs, e2, _, _, e5, _⟩ := h2
      cases e2
      rw [hp] at e5
      cases e5
    | owni q c xs ds =>
      obtain ⟨dx, vs, e2, _, _, e5, _⟩ := h2
      cases e2
      rw [hp] at e5
      cases e5
  refine ⟨g.gh, r'.tb, r'.gn, by rw [List.length_set, List.length_set]; exact r.len, fun k s1 e => ?_, fun a b s1 s2 w hab ha hb o1 o2 hw => ?_⟩
  · by_cases hk : k = i
    · subst hk
      have hlt : k < env.length := by
        have := (List.getElem?_eq_some_iff.mp e).1
        rwa [List.length_set] at this
      rw [List.getElem?_set_self hlt] at e
      cases e
      exact ⟨_, by rw [List.getElem?_set_self (by rw [r.len]; exact hlt)], ok⟩
    · obtain ⟨w, h1, h2⟩ := r'.sl k s1 (back k s1 hk e)
      exact ⟨w, by rw [List.getElem?_set_ne (Ne.symm hk)]; exact h1, h2⟩
  · by_cases hai : a = i
    · subst hai
      have hbi : b ≠ a := Ne.symm hab
      have hlt : a < σ.length := by
        have := (List.getElem?_eq_some_iff.mp ha).1
        rw [List.length_set] at this
        rw [r.len]; exact this
      rw [List.getElem?_set_self hlt] at hw
      cases hw
      rw [List.getElem?_set_ne (Ne.symm hbi)]
      intro hb2
      exact far b s2 _ (back b s2 hbi hb) o2 hb2 rfl
    · rw [List.getElem?_set_ne (Ne.symm hai)] at hw
      by_cases hbi : b = i
      · subst hbi
        have hlt : b < σ.length := by
          have := (List.getElem?_eq_some_iff.mp hb).1
          rw [List.length_set] at this
          rw [r.len]; exact this
        rw [List.getElem?_set_self hlt]
        intro hz
        cases hz
        exact far a s1 _ (back a s1 hai ha) o1 hw rfl
      · rw [List.getElem?_set_ne (Ne.symm hbi)]
        exact r.dis a b s1 s2 w hab (back a s1 hai ha) (back b s2 hbi hb) o1 o2 hw
/-- the own thing in slot i changes -/
theorem Rp.mut {p : Addr} {s s' : Sl} {o : HO} {i : Nat} (r : Rp K H0 G env σ H) (he : env[i]? = some (some s)) (hσ : σ[i]? = some (some (.ref p))) (hs : s.isOwn = true) (hs' : s'.isOwn = true) (gp : G p = none) (ok : SlOk K G H0 (upd H p o) (.ref p) s') : Rp K H0 G (env.set i (some s')) σ (upd H p o) := by
  have hlt : i < env.length := (List.getElem?_eq_some_iff.mp he).1
  have back : ∀ (k : Nat) (s1 : Sl), (env.set i (some s'))[k]? = some (some s1) → ∃ s0, env[k]? = some (some s0) ∧ (k ≠ i → s0 = s1) ∧ (s1.isOwn = true → s0.isOwn = true) := fun k s1 e => by
    by_cases hk : k = i
    · subst hk
      rw [List.getElem?_set_self hlt] at e
      cases e
      exact ⟨s, he, fun z => absurd rfl z, fun _ => hs⟩
    · rw [List.getElem?_set_ne (Ne.symm hk)] at e
      exact ⟨s1, e, fun _ => rfl, fun z => z⟩
  have pl : ∃ o0, H p = some o0 ∧ PlainO o0 := by
    obtain ⟨v0, h1, h2⟩ := r.sl i s he
    rw [hσ] at h1
    cases h1
    cases s with
    | val d => cases hs
    | own ds =>
      obtain ⟨q, vs, e2, _, _, e5, _⟩ := h2
      cases e2
      exact ⟨_, e5, lst_pl⟩
    | ownd ks ds =>
      obtain ⟨q, vs, e2, _, _, e5, _⟩ := h2
      cases e2
      exact ⟨_, e5, dK_pl⟩
    | owni q c xs ds =>
      obtain ⟨dx, vs, e2, _, _, e5, _⟩ := h2
      cases e2
      exact ⟨_, e5, ins_pl⟩
  obtain ⟨o0, hp0, pl⟩ := pl
  refine ⟨fun a u e => ?_, tabs_mut r.tb hp0 pl, r.gn, by rw [List.length_set]; exact r.len, fun k s1 e => ?_, fun a b s1 s2 w hab ha hb o1 o2 => ?_⟩
  · rw [upd_ne (ne_of_none e gp)]; exact r.gh a u e
  · by_cases hk : k = i
    · subst hk
      rw [List.getElem?_set_self hlt] at e
      cases e
      exact ⟨_, hσ, ok⟩
    · rw [List.getElem?_set_ne (Ne.symm hk)] at e
      obtain ⟨v, h1, h2⟩ := r.sl k s1 e
      refine ⟨v, h1, ?_⟩
      cases s1 with
      | val d => exact h2
      | own ds =>
        obtain ⟨q, vs, e2, e3, e4, e5, e6⟩ := h2
        have hq : q ≠ p := fun z => by
          subst z e2
          exact r.dis i k s _ _ (Ne.symm hk) he e hs rfl hσ h1
        exact ⟨q, vs, e2, e3, e4, by rw [upd_ne hq]; exact e5, e6⟩
      | ownd ks ds =>
        obtain ⟨q, vs, e2, e3, e4, e5, e6⟩ := h2
        have hq : q ≠ p := fun z => by
          subst z e2
          exact r.dis i k s _ _ (Ne.symm hk) he e hs rfl hσ h1
        exact ⟨q, vs, e2, e3, e4, by rw [upd_ne hq]; exact e5, e6⟩
      | owni q c xs ds =>
        obtain ⟨dx, vs, e2, e3, e4, e5, e6⟩ := h2
        have hq : q ≠ p := fun z => by
          subst z e2
          exact r.dis i k s _ _ (Ne.symm hk) he e hs rfl hσ h1
        exact ⟨dx, vs, e2, e3, e4, by rw [upd_ne hq]; exact e5, e6⟩
  · obtain ⟨t1, a1, _, a3⟩ := back a s1 ha
    obtain ⟨t2, b1, _, b3⟩ := back b s2 hb
    exact r.dis a b t1 t2 w hab a1 b1 (a3 o1) (b3 o2)
end
section
variable {X : Cx} {K : PySem.W.Frag} {e o a : Expr} {te to ti tv : TE} {pos pos' apos cpos : Pos} {m mi : En → Option D} {ms : En → Option (List D)}
/-- x = a new list, x an own one from here on -/
def setOwnM (i : Nat) (ms : En → Option (List D)) (env : En) : Option Out := (ms env).bind fun ds => some (.nx (env.set i (some (.own ds))))
theorem tsm_setOwn (i : Nat) (h : TF K te ms) : TSm K (tAsg te (gName i)) (setOwnM i ms) := fun G0 H0 env σ H G o Dn r g e f => by
  obtain ⟨ds, e1, e2⟩ := bind_some_of e
  cases e2
  exact h H0 env σ H G ds _ r e1 fun p vs G1 H1 g1 hp np e3 i1 => f _ G1 H1 (r.setOwn (o := .lst vs) i g1 hp rfl ⟨p, vs, rfl, g.free hp, np, e3, i1⟩) (g.trans g1) g1.g
theorem ds_setOwn (i : Nat) {x : Str} (h : DF1 X K e te ms) (hN : X.N.Nodup) (hi : X.N[i]? = some x := by rfl) (hx : Loc X.env.scope x := by first | exact Or.inl rfl | exact Or.inr rfl) (hs : swapsWith e (some (.Name x pos')) pos.line X.env = pure false := by rfl)
    (hf : X.fn x = true ∨ X.env.scope.names.lookup x = some .local := by first | exact .inl rfl | exact .inr rfl) : DS X K (.Assign [.Name x pos'] e pos) (tAsg te (gName i)) (setOwnM i ms) := ⟨ps_set hN hi hx h.p hs hf, tsm_setOwn i h.d⟩
/-- x = [..] of a comprehension (stored within its frame) -/
structure PLc (X : Cx) (e : Expr) (t : TE) : Prop where
  st : ∀ (i : Nat) (y : Str) (py spos : Pos), X.N[i]? = some y → X.env.scope.names.lookup y = some .local → swapsWith e (some (.Name y py)) spos.line X.env = pure true → PS X (.Assign [.Name y py] e spos) (tAsg t (gName i))
structure DLc (X : Cx) (K : PySem.W.Frag) (e : Expr) (t : TE) (m : En → Option (List D)) : Prop extends DF1 X K e t m where
  st : PLc X e t
theorem ds_setLc (i : Nat) {y : Str} {py spos : Pos} (h : DLc X K e te ms) (hi : X.N[i]? = some y := by rfl) (hy : X.env.scope.names.lookup y = some .local := by rfl) (hs : swapsWith e (some (.Name y py)) spos.line X.env = pure true := by exact sw_true rfl rfl rfl (by decide +kernel)) :
    DS X K (.Assign [.Name y py] e spos) (tAsg te (gName i)) (setM i (asLst ms)) := ⟨h.st.st i y py spos hi hy hs, tsm_set i h.d.d⟩
theorem ds_setLcOwn (i : Nat) {y : Str} {py spos : Pos} (h : DLc X K e te ms) (hi : X.N[i]? = some y := by rfl) (hy : X.env.scope.names.lookup y = some .local := by rfl) (hs : swapsWith e (some (.Name y py)) spos.line X.env = pure true := by exact sw_true rfl rfl rfl (by decide +kernel)) :
    DS X K (.Assign [.Name y py] e spos) (tAsg te (gName i)) (setOwnM i ms) := ⟨h.st.st i y py spos hi hy hs, tsm_setOwn i h.d⟩
/-- displays are new lists -/
theorem tf_lst {ta : TA} (h : TAd K ta ms) : TF K (tLst ta) (fun env => (ms env).bind fun ds => if ds.length ≤ 100000 then some ds else none) := fun H0 env σ H G d Q r e q => by
  obtain ⟨ds, e1, e⟩ := bind_some_of e
  split at e
  · cases e
    rename_i hz
    refine h H0 env σ H G _ _ r e1 fun vs G1 H1 g1 i1 => ⟨?_, fun p hp => ?_⟩
    · rw [i1.len]; exact Nat.le_trans hz (by decide)
    · have nl := g1.gh.free hp
      exact q p vs G1 _ (g1.fresh hp) (g1.free hp) nl upd_same i1
  · cases e
theorem df_lst {es : List Expr} {ta : TA} (h : DA X K es ta ms) : DF1 X K (.List es pos) (tLst ta) (fun env => (ms env).bind fun ds => if ds.length ≤ 100000 then some ds else none) := ⟨pe_lst h.p, tf_lst h.d⟩
theorem df_list {p : Pos} {ta : TA} {e : Expr} {es : List Expr} (hg : Gl X "list") (hm : X.mg "list" = none) (ha : DAr X K (e :: es) ta ms) (hK : X.K = K := by rfl)
    (he : starEach (e :: es) X.env = (false, eval e X.env) :: starEach es X.env := by rfl) (hpl : (backTo pos (starEach es X.env)).any (·.1) = false := by rfl) : DF1 X K (.Call (.Name "list" p) (e :: es) [] pos) (tCB (rList K) ta) (fun env => (ms env).bind listD) :=
  ⟨pe_callTy (call_listK hK) hg hm PyProof.Rows.boot_list ha.p (by decide) (by decide) he hpl, tf_list ha.d⟩
/-- x = {} -/
theorem ds_setDict (i : Nat) {x : Str} {p2 : Pos} (hN : X.N.Nodup) (hi : X.N[i]? = some x := by rfl) (hx : Loc X.env.scope x := by first | exact Or.inl rfl | exact Or.inr rfl) (hs : swapsWith (.Dict [] [] p2) (some (.Name x pos')) pos.line X.env = pure false := by rfl)
    (hf : X.fn x = true ∨ X.env.scope.names.lookup x = some .local := by first | exact .inl rfl | exact .inr rfl) : DS X K (.Assign [.Name x pos'] (.Dict [] [] p2) pos) (tAsg tDNewK (gName i)) (fun env => some (.nx (env.set i (some (.ownd [] []))))) :=
  ⟨ps_set hN hi hx pe_dnewK hs hf, fun G0 H0 env σ H G o Dn r g e f => by
    cases e
    intro p hp
    have nl := r.gh.free hp
    have g1 : Go G H G (upd H p (.dK [])) := (Go.refl r.gh).fresh hp
    exact f _ G _ (r.setOwn (o := .dK []) i g1 hp rfl ⟨p, [], rfl, g.free hp, nl, upd_same, rfl, .nil⟩) (g.trans g1) (Same.refl G)⟩
/-- slot i's own list -/
def ownAt (i : Nat) (env : En) : Option (List D) := match env[i]? with
  | some (some (.own ds)) => some ds
  | _ => none
theorem ownAt_some {i : Nat} {env : En} {ds : List D} (h : ownAt i env = some ds) : env[i]? = some (some (.own ds)) := by
  unfold ownAt at h
  split at h
  · cases h; assumption
  · cases h
def owndAt (i : Nat) (env : En) : Option (List Key × List D) := match env[i]? with
  | some (some (.ownd ks ds)) => some (ks, ds)
  | _ => none
theorem owndAt_some {i : Nat} {env : En} {ks : List Key} {ds : List D} (h : owndAt i env = some (ks, ds)) : env[i]? = some (some (.ownd ks ds)) := by
  unfold owndAt at h
  split at h
  · cases h; assumption
  · cases h
/-- x.append(e) -/
def appM (i : Nat) (m : En → Option D) (env : En) : Option Out := (ownAt i env).bind fun ds => (m env).bind fun d => if ds.length < 100000 then some (.nx (env.set i (some (.own (ds ++ [d]))))) else none
theorem ds_append (i : Nat) {x : Str} {p : Pos} (h : DE X K e te m) (hK : X.K = K := by rfl) (hN : X.N[i]? = some x := by rfl) (hv : Vis X.env.scope x := by first | exact Or.inl rfl | exact Or.inr (Or.inl rfl) | exact Or.inr (Or.inr rfl)) (hd : (x == ("__debug__" : Str)) = false := by decide) (hcd : (x == ("__classdict__" : Str)) = false := by decide)
    (hbase : attributeBase (.Name x p) "append" X.env (eval (.Name x p) X.env) = eval (.Name x p) X.env := by rfl)
    (hfew : ((backTo cpos (starEach (e :: []) X.env)).all (fun x => !x.1) && (backToKw cpos (keywordEach [] X.env)).all (fun x => x.1.isSome) && decide ((e :: ([] : List Expr)).length + ([] : List Keyword).length + (if ([] : List Keyword).isEmpty then 0 else 1) < 30)) = true := by rfl)
    (hline : (apos.endLine == cpos.line) = true := by rfl) (hst : starEach (e :: []) X.env = (false, eval e X.env) :: starEach [] X.env := by rfl) (hplain : (backTo cpos (starEach [] X.env)).any (·.1) = false := by rfl)
    (hs : swapsWith (.Call (.Attribute (.Name x p) "append" apos) [e] [] cpos) none pos.line X.env = pure false := by rfl) :
    DS X K (.Expr (.Call (.Attribute (.Name x p) "append" apos) [e] [] cpos) pos) (tDrop (tBM K "list" rAppend (tVar i) (tCons te tNil))) (appM i m) := by
  subst hK
  refine ⟨ps_expr (pe_bm PySem.F.plainAttrs_list PySem.F.slot_list_append PySem.F.type_list_append mt_append (pe_var hN hv hd hcd) (pa_cons h.p pa_nil hst) hbase hfew hline hst hplain) hs, fun G0 H0 env σ H G o Dn r g e f => ?_⟩
  obtain ⟨ds, e1, e2⟩ := bind_some_of e
  obtain ⟨d, e3, e4⟩ := bind_some_of e2
  split at e4
  · rename_i hz
    cases e4
    have he := ownAt_some e1
    obtain ⟨v, hσ, p, vs, rfl, a2, a3, a4, a5⟩ := r.sl i _ he
    refine ⟨_, hσ, .inl ⟨rfl, vs, SqL.of a4⟩, ?_⟩
    refine h.d H0 env σ H G d _ r e3 fun y G1 H1 g1 i1 => ?_
    obtain ⟨n1, q1⟩ := g1.out p _ a3 a4 (by first | exact lst_nt | exact dK_nt | exact ins_nt)
    refine ⟨p, vs, y, rfl, rfl, q1, ?_, ?_⟩
    · rw [a5.len]; exact Nat.lt_of_lt_of_le hz (by decide)
    · exact f σ G1 _ ((r.go g1).mut he hσ rfl rfl n1 ⟨p, vs ++ [y], rfl, a2, n1, upd_same, (a5.mono g1.g).append (.cons i1 .nil)⟩) ((g.trans g1).mut n1 a2 q1 (by first | exact lst_pl | exact dK_pl | exact ins_pl)) g1.g
  · cases e4
/-- x.extend(e), e a list -/
def lst1 : D → Option (List D)
  | .lst ds => some ds
  | _ => none
def extM (i : Nat) (m : En → Option D) (env : En) : Option Out := (ownAt i env).bind fun ds => (m env).bind fun d => (lst1 d).bind fun es => if ds.length + es.length ≤ 100000 then some (.nx (env.set i (some (.own (ds ++ es))))) else none
theorem ds_extend (i : Nat) {x : Str} {p : Pos} (h : DE X K e te m) (hK : X.K = K := by rfl) (hN : X.N[i]? = some x := by rfl) (hv : Vis X.env.scope x := by first | exact Or.inl rfl | exact Or.inr (Or.inl rfl) | exact Or.inr (Or.inr rfl)) (hd : (x == ("__debug__" : Str)) = false := by decide) (hcd : (x == ("__classdict__" : Str)) = false := by decide)
    (hbase : attributeBase (.Name x p) "extend" X.env (eval (.Name x p) X.env) = eval (.Name x p) X.env := by rfl)
    (hfew : ((backTo cpos (starEach (e :: []) X.env)).all (fun x => !x.1) && (backToKw cpos (keywordEach [] X.env)).all (fun x => x.1.isSome) && decide ((e :: ([] : List Expr)).length + ([] : List Keyword).length + (if ([] : List Keyword).isEmpty then 0 else 1) < 30)) = true := by rfl)
    (hline : (apos.endLine == cpos.line) = true := by rfl) (hst : starEach (e :: []) X.env = (false, eval e X.env) :: starEach [] X.env := by rfl) (hplain : (backTo cpos (starEach [] X.env)).any (·.1) = false := by rfl)
    (hs : swapsWith (.Call (.Attribute (.Name x p) "extend" apos) [e] [] cpos) none pos.line X.env = pure false := by rfl) :
    DS X K (.Expr (.Call (.Attribute (.Name x p) "extend" apos) [e] [] cpos) pos) (tDrop (tBM K "list" rExtend (tVar i) (tCons te tNil))) (extM i m) := by
  subst hK
  refine ⟨ps_expr (pe_bm PySem.F.plainAttrs_list PySem.F.slot_list_extend PySem.F.type_list_extend mt_extend (pe_var hN hv hd hcd) (pa_cons h.p pa_nil hst) hbase hfew hline hst hplain) hs, fun G0 H0 env σ H G o Dn r g e f => ?_⟩
  obtain ⟨ds, e1, e2⟩ := bind_some_of e
  obtain ⟨d, e3, e4⟩ := bind_some_of e2
  obtain ⟨es, e5, e6⟩ := bind_some_of e4
  split at e6
  · rename_i hz
    cases e6
    unfold lst1 at e5
    split at e5
    · cases e5
      have he := ownAt_some e1
      obtain ⟨v, hσ, p, vs, rfl, a2, a3, a4, a5⟩ := r.sl i _ he
      refine ⟨_, hσ, .inl ⟨rfl, vs, SqL.of a4⟩, ?_⟩
      refine h.d H0 env σ H G _ _ r e3 fun y G1 H1 g1 i1 => ?_
      obtain ⟨n1, q1⟩ := g1.out p _ a3 a4 (by first | exact lst_nt | exact dK_nt | exact ins_nt)
      cases i1 with
      | lst s1 i1 =>
        rename_i b zs
        refine ⟨p, b, vs, zs, rfl, rfl, q1, g1.gh _ _ s1, ?_, ?_⟩
        · rw [a5.len, i1.len]; exact sz5 hz
        · exact f σ G1 _ ((r.go g1).mut he hσ rfl rfl n1 ⟨p, vs ++ zs, rfl, a2, n1, upd_same, (a5.mono g1.g).append i1⟩) ((g.trans g1).mut n1 a2 q1 (by first | exact lst_pl | exact dK_pl | exact ins_pl)) g1.g
    · cases e5
  · cases e6
/-- x[a] = e -/
def setItM (i : Nat) (mi m : En → Option D) (env : En) : Option Out := (m env).bind fun d => (ownAt i env).bind fun ds => (mi env).bind fun
  | .int k => (ixN ds.length k).bind fun j => some (.nx (env.set i (some (.own (ds.set j d)))))
  | _ => none
theorem ds_setItem (i : Nat) {x : Str} {p p2 : Pos} (hi : DE X K a ti mi) (h : DE X K e te m) (hK : X.K = K := by rfl) (hN : X.N[i]? = some x := by rfl) (hv : Vis X.env.scope x := by first | exact Or.inl rfl | exact Or.inr (Or.inl rfl) | exact Or.inr (Or.inr rfl)) (hd : (x == ("__debug__" : Str)) = false := by decide) (hcd : (x == ("__classdict__" : Str)) = false := by decide)
    (ha : ∀ v, assign (.Subscript (.Name x p) a p2) X.env v = (do
      let ov ← holding [v] (eval (.Name x p) X.env)
      let iv ← holding [v, ov] (eval a X.env)
      standAt p2
      holding [v, ov, iv] (setItem ov iv v)
      release [v, ov, iv] []) := by intro _; rfl) (hs : swapsWithSole [.Subscript (.Name x p) a p2] e pos.line X.env = pure false := by rfl) (hw : swappedStores [.Subscript (.Name x p) a p2] e X.env = pure none := by rfl)
    (h1 : (assignEach [.Subscript (.Name x p) a p2] X.env).map (·.2) = [assign (.Subscript (.Name x p) a p2) X.env] := by rfl) :
    DS X K (.Assign [.Subscript (.Name x p) a p2] e pos) (tAsg te (gSub (tVar i) ti rSetL)) (setItM i mi m) := by
  subst hK
  refine ⟨ps_asg h.p (pg_sub (pe_var hN hv hd hcd) hi.p set_list ha) hs hw h1, fun G0 H0 env σ H G o Dn r g e f => ?_⟩
  obtain ⟨d, e1, e2⟩ := bind_some_of e
  obtain ⟨ds, e3, e4⟩ := bind_some_of e2
  obtain ⟨kd, e5, e6⟩ := bind_some_of e4
  split at e6
  · obtain ⟨j, e7, e8⟩ := bind_some_of e6
    cases e8
    have he := ownAt_some e3
    refine h.d H0 env σ H G d _ r e1 fun y G1 H1 g1 i1 => ?_
    have r1 := r.go g1
    obtain ⟨v, hσ, p, vs, rfl, a2, a3, a4, a5⟩ := r1.sl i _ he
    refine ⟨_, hσ, ?_⟩
    refine hi.d H0 env σ H1 G1 _ _ r1 e5 fun z G2 H2 g2 i2 => ?_
    cases i2
    obtain ⟨n2, q2⟩ := g2.out p _ a3 a4 (by first | exact lst_nt | exact dK_nt | exact ins_nt)
    refine ⟨p, vs, _, j, rfl, rfl, q2, by rw [a5.len]; exact e7, ?_⟩
    exact f σ G2 _ ((r1.go g2).mut he hσ rfl rfl n2 ⟨p, vs.set j y, rfl, a2, n2, upd_same, (a5.mono g2.g).set (i1.mono g2.g) j⟩) (((g.trans g1).trans g2).mut n2 a2 q2 (by first | exact lst_pl | exact dK_pl | exact ins_pl)) (g1.g.trans g2.g)
  · cases e6
/-- d[a] = e, d an own dict -/
def replD : List Key → List D → Key → D → List D
  | k' :: ks, d' :: ds, k, d => (if k' = k then d else d') :: replD ks ds k d
  | _, _, _, _ => []
def putD (ks : List Key) (ds : List D) (k : Key) (d : D) : List Key × List D := if (ks.any fun j => decide (j = k)) = true then (ks, replD ks ds k d) else (ks ++ [k], ds ++ [d])
theorem repl_is {G : Hp} {kvs : List (Key × V)} {ds : List D} {k : Key} {v : V} {d : D} (h0 : Is K G v d) : ∀ {kvs : List (Key × V)} {ds : List D}, IsL K G (kvs.map (·.2)) ds → IsL K G ((kvs.map fun kv => if kv.1 = k then (kv.1, v) else kv).map (·.2)) (replD (kvs.map (·.1)) ds k d)
  | [], ds, i => by cases i; exact .nil
  | (a, w) :: r, ds, i => by
    cases i with
    | cons i1 i2 =>
      by_cases hk : a = k
      · simp only [List.map_cons, replD, if_pos hk]
        exact .cons h0 (repl_is (kvs := []) (ds := []) h0 i2)
      · simp only [List.map_cons, replD, if_neg hk]
        exact .cons i1 (repl_is (kvs := []) (ds := []) h0 i2)
theorem put_is {G : Hp} {kvs : List (Key × V)} {ks ks' : List Key} {ds ds' : List D} {k : Key} {v : V} {d : D} (hk : kvs.map (·.1) = ks) (i : IsL K G (kvs.map (·.2)) ds) (h0 : Is K G v d) (e : putD ks ds k d = (ks', ds')) : (putK kvs k v).map (·.1) = ks' ∧ IsL K G ((putK kvs k v).map (·.2)) ds' := by
  subst hk
  unfold putD at e
  unfold putK
  have hany : ((kvs.map (·.1)).any fun j => decide (j = k)) = (kvs.any fun kv => decide (kv.1 = k)) := by
    rw [List.any_map]
    rfl
  rw [hany] at e
  by_cases hm : (kvs.any fun kv => decide (kv.1 = k)) = true
  · rw [if_pos hm] at e
    rw [if_pos hm]
    cases e
    refine ⟨?_, repl_is (kvs := []) (ds := []) h0 i⟩
    rw [List.map_map]
    refine List.map_congr_left fun kv _ => ?_
    show (if kv.1 = k then (kv.1, v) else kv).1 = kv.1
    split <;> rfl
  · rw [if_neg hm] at e
    rw [if_neg hm]
    cases e
    rw [List.map_append, List.map_append]
    exact ⟨rfl, i.append (.cons h0 .nil)⟩
theorem putD_len {ks ks' : List Key} {ds ds' : List D} {k : Key} {d : D} (e : putD ks ds k d = (ks', ds')) : ks'.length ≤ ks.length + 1 := by
  unfold putD at e
  split at e
  · cases e; omega
  · cases e; rw [List.length_append]; simp
def dputM (i : Nat) (mk m : En → Option D) (env : En) : Option Out := (m env).bind fun d => (owndAt i env).bind fun p => (mk env).bind fun kd => (keyD kd).bind fun k => if p.1.length < 100000 then some (.nx (env.set i (some (.ownd (putD p.1 p.2 k d).1 (putD p.1 p.2 k d).2)))) else none
theorem ds_dput (i : Nat) {x : Str} {p p2 : Pos} (hu : X.A.units + 1 < cLine) (hi : DE X K a ti mi) (h : DE X K e te m) (hN : X.N[i]? = some x := by rfl) (hv : Vis X.env.scope x := by first | exact Or.inl rfl | exact Or.inr (Or.inl rfl) | exact Or.inr (Or.inr rfl)) (hd : (x == ("__debug__" : Str)) = false := by decide) (hcd : (x == ("__classdict__" : Str)) = false := by decide)
    (hs : swapsWith e (some (.Subscript (.Name x p) a p2)) pos.line X.env = pure false := by rfl) :
    DS X K (.Assign [.Subscript (.Name x p) a p2] e pos) (sDPut (tVar i) ti te) (dputM i mi m) := by
  refine ⟨ps_dput hu (pe_var hN hv hd hcd) hi.p h.p hs, fun G0 H0 env σ H G o Dn r g e f => ?_⟩
  obtain ⟨d, e1, e2⟩ := bind_some_of e
  obtain ⟨⟨ks, ds⟩, e3, e4⟩ := bind_some_of e2
  obtain ⟨kd, e5, e6⟩ := bind_some_of e4
  obtain ⟨k, e7, e8⟩ := bind_some_of e6
  split at e8
  · rename_i hz
    cases e8
    have he := owndAt_some e3
    refine h.d H0 env σ H G d _ r e1 fun y G1 H1 g1 i1 => ?_
    have r1 := r.go g1
    obtain ⟨v, hσ, p, kvs, rfl, a2, a3, a4, a5, a6⟩ := r1.sl i _ he
    refine ⟨_, hσ, ?_⟩
    refine hi.d H0 env σ H1 G1 _ _ r1 e5 fun z G2 H2 g2 i2 => ?_
    obtain ⟨n2, q2⟩ := g2.out p _ a3 a4 (by first | exact lst_nt | exact dK_nt | exact ins_nt)
    rw [keyD_is (G := G2) (H := H2) (.is i2) e7]
    obtain ⟨b1, b2⟩ := put_is (k := k) (ks' := (putD ks ds k d).1) (ds' := (putD ks ds k d).2) a5 (a6.mono g2.g) (i1.mono g2.g) rfl
    refine ⟨p, _, rfl, DPut.k q2 ?_, ?_⟩
    · have : kvs.length = ks.length := by rw [← a5, List.length_map]
      rw [this]
      exact Nat.lt_of_lt_of_le hz (by decide)
    · exact f σ G2 _ ((r1.go g2).mut he hσ rfl rfl n2 ⟨p, _, rfl, a2, n2, upd_same, b1, b2⟩) (((g.trans g1).trans g2).mut n2 a2 q2 (by first | exact lst_pl | exact dK_pl | exact ins_pl)) (g1.g.trans g2.g)
  · cases e8
/-- target = x.pop(e), target = x.pop(), x an own list -/
def popAtM (i : Nat) (mi : En → Option D) (bnd : D → En → Option En) (env : En) : Option Out := (ownAt i env).bind fun ds => (mi env).bind fun
  | .int k => if -1000000 ≤ k ∧ k ≤ 1000000 then (ixN ds.length k).bind fun j => (ds[j]?).bind fun d => (bnd d (env.set i (some (.own (ds.eraseIdx j))))).bind fun env' => some (.nx env') else none
  | _ => none
theorem p63 : (1000000 : Int) < 2 ^ 63 := by decide
theorem tsm_popAt (i : Nat) {tg : TG} {js : List Nat} {bnd : D → En → Option En} (hg : TGd K tg js bnd) (hi : TD K ti mi) : TSm K (tAsg (tBM K "list" rPopAt (tVar i) (tCons ti tNil)) tg) (popAtM i mi bnd) := fun G0 H0 env σ H G o Dn r g e f => by
  obtain ⟨ds, e1, e2⟩ := bind_some_of e
  obtain ⟨kd, e3, e4⟩ := bind_some_of e2
  split at e4
  · split at e4
    · rename_i hk
      obtain ⟨j, e5, e6⟩ := bind_some_of e4
      obtain ⟨d, e7, e8⟩ := bind_some_of e6
      obtain ⟨env', e9, e10⟩ := bind_some_of e8
      cases e10
      have he := ownAt_some e1
      obtain ⟨v, hσ, p, vs, rfl, a2, a3, a4, a5⟩ := r.sl i _ he
      refine ⟨_, hσ, .inl ⟨rfl, vs, SqL.of a4⟩, ?_⟩
      refine hi H0 env σ H G _ _ r e3 fun y G1 H1 g1 i1 => ?_
      cases i1
      obtain ⟨n1, q1⟩ := g1.out p _ a3 a4 (by first | exact lst_nt | exact dK_nt | exact ins_nt)
      obtain ⟨w, b1, b2⟩ := a5.get e7
      have hp := p63
      refine ⟨p, vs, _, j, w, rfl, rfl, q1, by omega, by omega, ?_, b1, ?_⟩
      · rw [a5.len]; exact (ixN_seq e5).1
      · have r2 : Rp K H0 G1 (env.set i (some (.own (ds.eraseIdx j)))) σ (upd H1 p (.lst (vs.eraseIdx j))) := (r.go g1).mut he hσ rfl rfl n1 ⟨p, _, rfl, a2, n1, upd_same, (a5.mono g1.g).eraseIdx j⟩
        exact hg H0 _ σ _ G1 w d env' _ r2 (b2.mono g1.g) e9 fun σ' r3 _ _ => f σ' G1 _ r3 ((g.trans g1).mut n1 a2 q1 (by first | exact lst_pl | exact dK_pl | exact ins_pl)) g1.g
    · cases e4
  · cases e4
theorem ds_popAt (i : Nat) {tg : Expr} {tgt : TG} {js : List Nat} {bnd : D → En → Option En} {x : Str} {p : Pos} (hg : DG X K tg tgt js bnd) (h : DE X K a ti mi) (hK : X.K = K := by rfl) (hN : X.N[i]? = some x := by rfl) (hv : Vis X.env.scope x := by first | exact Or.inl rfl | exact Or.inr (Or.inl rfl) | exact Or.inr (Or.inr rfl)) (hd : (x == ("__debug__" : Str)) = false := by decide) (hcd : (x == ("__classdict__" : Str)) = false := by decide)
    (hbase : attributeBase (.Name x p) "pop" X.env (eval (.Name x p) X.env) = eval (.Name x p) X.env := by rfl)
    (hfew : ((backTo cpos (starEach (a :: []) X.env)).all (fun x => !x.1) && (backToKw cpos (keywordEach [] X.env)).all (fun x => x.1.isSome) && decide ((a :: ([] : List Expr)).length + ([] : List Keyword).length + (if ([] : List Keyword).isEmpty then 0 else 1) < 30)) = true := by rfl)
    (hline : (apos.endLine == cpos.line) = true := by rfl) (hst : starEach (a :: []) X.env = (false, eval a X.env) :: starEach [] X.env := by rfl) (hplain : (backTo cpos (starEach [] X.env)).any (·.1) = false := by rfl)
    (hs : swapsWithSole [tg] (.Call (.Attribute (.Name x p) "pop" apos) [a] [] cpos) pos.line X.env = pure false := by rfl) (hw : swappedStores [tg] (.Call (.Attribute (.Name x p) "pop" apos) [a] [] cpos) X.env = pure none := by rfl) (h1 : (assignEach [tg] X.env).map (·.2) = [assign tg X.env] := by rfl) :
    DS X K (.Assign [tg] (.Call (.Attribute (.Name x p) "pop" apos) [a] [] cpos) pos) (tAsg (tBM K "list" rPopAt (tVar i) (tCons ti tNil)) tgt) (popAtM i mi bnd) := by
  subst hK
  exact ⟨ps_asg (pe_bm PySem.F.plainAttrs_list PySem.F.slot_list_pop PySem.F.type_list_pop mt_popAt (pe_var hN hv hd hcd) (pa_cons h.p pa_nil hst) hbase hfew hline hst hplain) hg.p hs hw h1, tsm_popAt i hg.d h.d⟩
def popM (i : Nat) (bnd : D → En → Option En) (env : En) : Option Out := (ownAt i env).bind fun ds => (ds[ds.length - 1]?).bind fun d => (bnd d (env.set i (some (.own ds.dropLast)))).bind fun env' => some (.nx env')
theorem IsL.dropLast {G : Hp} : ∀ {vs : List V} {ds : List D}, IsL K G vs ds → IsL K G vs.dropLast ds.dropLast := fun {vs ds} h => by
  rw [List.dropLast_eq_take, List.dropLast_eq_take, h.len]
  exact h.take _
theorem ds_pop (i : Nat) {tg : Expr} {tgt : TG} {js : List Nat} {bnd : D → En → Option En} {x : Str} {p : Pos} (hg : DG X K tg tgt js bnd) (hK : X.K = K := by rfl) (hN : X.N[i]? = some x := by rfl) (hv : Vis X.env.scope x := by first | exact Or.inl rfl | exact Or.inr (Or.inl rfl) | exact Or.inr (Or.inr rfl)) (hd : (x == ("__debug__" : Str)) = false := by decide) (hcd : (x == ("__classdict__" : Str)) = false := by decide)
    (hbase : attributeBase (.Name x p) "pop" X.env (eval (.Name x p) X.env) = eval (.Name x p) X.env := by rfl) (hline : (apos.endLine == cpos.line) = true := by rfl)
    (hs : swapsWithSole [tg] (.Call (.Attribute (.Name x p) "pop" apos) [] [] cpos) pos.line X.env = pure false := by rfl) (hw : swappedStores [tg] (.Call (.Attribute (.Name x p) "pop" apos) [] [] cpos) X.env = pure none := by rfl) (h1 : (assignEach [tg] X.env).map (·.2) = [assign tg X.env] := by rfl) :
    DS X K (.Assign [tg] (.Call (.Attribute (.Name x p) "pop" apos) [] [] cpos) pos) (tAsg (tBM0 K "list" rPop (tVar i)) tgt) (popM i bnd) := by
  subst hK
  refine ⟨ps_asg (pe_bm0 PySem.F.plainAttrs_list PySem.F.slot_list_pop PySem.F.type_list_pop mt_pop (pe_var hN hv hd hcd) hbase hline) hg.p hs hw h1, fun G0 H0 env σ H G o Dn r g e f => ?_⟩
  obtain ⟨ds, e1, e2⟩ := bind_some_of e
  obtain ⟨d, e3, e4⟩ := bind_some_of e2
  obtain ⟨env', e5, e6⟩ := bind_some_of e4
  cases e6
  have he := ownAt_some e1
  obtain ⟨v, hσ, p, vs, rfl, a2, a3, a4, a5⟩ := r.sl i _ he
  obtain ⟨w, b1, b2⟩ := a5.get e3
  refine ⟨_, hσ, .inl ⟨rfl, vs, SqL.of a4⟩, p, vs, w, rfl, rfl, a4, by rw [a5.len]; exact b1, ?_⟩
  have r2 : Rp X.K H0 G (env.set i (some (.own ds.dropLast))) σ (upd H p (.lst vs.dropLast)) := r.mut he hσ rfl rfl a3 ⟨p, _, rfl, a2, a3, upd_same, a5.dropLast⟩
  exact hg.d H0 _ σ _ G w d env' _ r2 b2 e5 fun σ' r3 _ _ => f σ' G _ r3 (g.mut a3 a2 a4 lst_pl) (Same.refl G)
/-- a, b = e -/
def asgM (m : En → Option D) (bnd : D → En → Option En) (env : En) : Option Out := (m env).bind fun d => (bnd d env).bind fun env' => some (.nx env')
theorem ds_asg {tg : Expr} {tgt : TG} {js : List Nat} {bnd : D → En → Option En} (hg : DG X K tg tgt js bnd) (h : DE X K e te m)
    (hs : swapsWithSole [tg] e pos.line X.env = pure false := by rfl) (hw : swappedStores [tg] e X.env = pure none := by rfl) (h1 : (assignEach [tg] X.env).map (·.2) = [assign tg X.env] := by rfl) : DS X K (.Assign [tg] e pos) (tAsg te tgt) (asgM m bnd) := by
  refine ⟨ps_asg h.p hg.p hs hw h1, fun G0 H0 env σ H G o Dn r g e f => ?_⟩
  obtain ⟨d, e1, e2⟩ := bind_some_of e
  obtain ⟨env', e3, e4⟩ := bind_some_of e2
  cases e4
  refine h.d H0 env σ H G d _ r e1 fun v G1 H1 g1 i1 => ?_
  exact hg.d H0 env σ H1 G1 v d env' _ (r.go g1) i1 e3 fun σ' r2 _ _ => f σ' G1 H1 r2 (g.trans g1) g1.g
/-- x += e (ints) -/
def augM (i : Nat) (m : En → Option D) (env : En) : Option Out := (nameV i env).bind fun
  | .int a => (m env).bind fun
    | .int b => some (.nx (env.set i (some (.val (.int (a + b))))))
    | _ => none
  | _ => none
theorem ds_aug (i : Nat) {x : Str} (h : DE X K e te m) (hN : X.N.Nodup) (hi : X.N[i]? = some x := by rfl) (hx : Loc X.env.scope x := by first | exact Or.inl rfl | exact Or.inr rfl) (hf : X.fn x = true ∨ X.env.scope.names.lookup x = some .local := by first | exact .inl rfl | exact .inr rfl) :
    DS X K (.AugAssign (.Name x pos') .Add e pos) (tAug i te (ipI fun i j => i + j)) (augM i m) := by
  refine ⟨ps_aug hN hi hx h.p ip_add hf, fun G0 H0 env σ H G o Dn r g e f => ?_⟩
  obtain ⟨d, e1, e2⟩ := bind_some_of e
  split at e2
  · rename_i a
    obtain ⟨d2, e3, e4⟩ := bind_some_of e2
    split at e4
    · rename_i b
      cases e4
      obtain ⟨v, hσ, iv⟩ := r.sl i _ (nameV_some e1)
      cases iv
      refine ⟨_, hσ, h.d H0 env σ H G _ _ r e3 fun y G1 H1 g1 i1 => ?_⟩
      cases i1
      exact ⟨a, b, rfl, rfl, f _ G1 H1 ((r.go g1).set i (.int _)) (g.trans g1) g1.g⟩
    · cases e4
  · cases e2
end
/-! ### dict comprehensions -/
section
variable {X : Cx} {K : PySem.W.Frag} {kx vx tg iter : Expr} {ifs : List Expr} {scope : Scope} {own : List (Str × Nat)} {pos : Pos} {wi : TI} {g : TG} {tt : TT} {tk tv : TE} {js : List Nat}
def dcompM (bnd : D → En → Option En) (tst : En → Option Bool) (mk mv : En → Option D) (env : En) : List D → List Key → List D → Option (List Key × List D)
  | [], ks, vs => some (ks, vs)
  | d :: ds, ks, vs => (bnd d env).bind fun e1 => (tst e1).bind fun b => if b = true then (mk e1).bind fun kd => (mv e1).bind fun y => (keyD kd).bind fun k => dcompM bnd tst mk mv env ds (putD ks vs k y).1 (putD ks vs k y).2 else dcompM bnd tst mk mv env ds ks vs
def dcM (vs : List Nat) (mi : En → Option (List D)) (bnd : D → En → Option En) (tst : En → Option Bool) (mk mv : En → Option D) (env : En) : Option (List Key × List D) := (mi env).bind fun ds => if ds.length ≤ 100000 then dcompM bnd tst mk mv (wipeE env vs) ds [] [] else none
theorem dc_it {J : It} {n : Nat} {Gp : Hp → Prop} {Y : Nat → Hp → V → Hp → Prop} (w : Walk J n Gp Y) {vs : List Nat} {σ : L2.St} {H1 : Hp} {A : Addr} {Qd : Hp → Prop} (Pv : Nat → Hp → Prop) (h0 : Pv 0 (upd H1 A (.dK []))) (hG : ∀ i H, i ≤ n → Pv i H → Gp H)
    (step : ∀ (j : Nat) (v : V) (Ha Hb : Hp), j < n → Pv j Ha → Y j Ha v Hb →
      g v (wipe σ vs) Hb fun τ Hc => wipe τ vs = wipe σ vs ∧ tt τ Hc fun good Hd =>
        if good = true then tk τ Hd fun kv He => tv τ He fun zv Hf => ∃ kvs k, kv = kV k ∧ Hf A = some (.dK kvs) ∧ kvs.length < sizeLine ∧ Pv (j + 1) (upd Hf A (.dK (putK kvs k zv))) else Pv (j + 1) Hd)
    (hd : ∀ H, Pv n H → Qd H) :
    ∃ W : Nat → Nat → Hp → Prop, (∃ m, W 0 m (upd H1 A (.dK []))) ∧ ∀ i m H, W i m H → (J.stop i H ∧ Qd H) ∨
      (J.go i H ∧ ∃ Nx : Hp → Prop, (∀ Hb, Nx Hb → ∃ m', m' < m ∧ W (i + 1) m' Hb) ∧ ∀ v Hb, J.yld i H v Hb →
        g v (wipe σ vs) Hb fun τ Hc => wipe τ vs = wipe σ vs ∧ tt τ Hc fun good Hd =>
          if good = true then tk τ Hd fun kv He => tv τ He fun zv Hf => ∃ kvs k, kv = kV k ∧ Hf A = some (.dK kvs) ∧ kvs.length < sizeLine ∧ Nx (upd Hf A (.dK (putK kvs k zv))) else Nx Hd) := by
  refine ⟨fun j left Ha => left = n - j ∧ j ≤ n ∧ Pv j Ha, ⟨n, (Nat.sub_zero n).symm, Nat.zero_le n, h0⟩, fun j left Ha hw => ?_⟩
  obtain ⟨el, hj, hp⟩ := hw
  subst el
  have gp := hG j Ha hj hp
  rcases Nat.lt_or_ge j n with hlt | hge
  · refine .inr ⟨w.goes j Ha hlt gp, Pv (j + 1), fun Hb hb => ⟨n - (j + 1), Nat.sub_lt_sub_left hlt (Nat.lt_succ_self j), rfl, hlt, hb⟩, fun v Hb hy => ?_⟩
    exact step j v Ha Hb hlt hp (w.yields j Ha v Hb hlt gp hy)
  · cases Nat.le_antisymm hj hge
    exact .inl ⟨w.stops Ha gp, hd Ha hp⟩
/-- a new dict -/
def TFd (K : PySem.W.Frag) (t : TE) (m : En → Option (List Key × List D)) : Prop := ∀ (H0 : Hp) (env : En) (σ : L2.St) (H G : Hp) (r : List Key × List D) (Q : VK), Rp K H0 G env σ H → m env = some r → (∀ p kvs G' H', Go G H G' H' → H p = none → G' p = none → H' p = some (.dK kvs) → kvs.map (·.1) = r.1 → IsL K G' (kvs.map (·.2)) r.2 → Q (.ref p) H') → t σ H Q
structure DFd (X : Cx) (K : PySem.W.Frag) (e : Expr) (t : TE) (m : En → Option (List Key × List D)) : Prop where
  p : PE X e t
  d : TFd K t m
def asDic (m : En → Option (List Key × List D)) (env : En) : Option D := (m env).bind fun r => some (.dic r.1 r.2)
theorem DFd.e {e : Expr} {t : TE} {m : En → Option (List Key × List D)} (h : DFd X K e t m) : DE X K e t (asDic m) := ⟨h.p, fun H0 env σ H G d Q r e q => by
  obtain ⟨ds, e1, e2⟩ := bind_some_of e
  cases e2
  refine h.d H0 env σ H G ds Q r e1 fun p kvs G' H' g hp np e k i => q _ _ H' (g.fix hp np e) (.dic upd_same k (i.mono (same_upd np)))⟩
/-- x = a new dict, x an own one -/
def setOwndM (i : Nat) (ms : En → Option (List Key × List D)) (env : En) : Option Out := (ms env).bind fun r => some (.nx (env.set i (some (.ownd r.1 r.2))))
theorem ds_setOwnd (i : Nat) {e : Expr} {te : TE} {ms : En → Option (List Key × List D)} {x : Str} {pos' : Pos} (h : DFd X K e te ms) (hN : X.N.Nodup) (hi : X.N[i]? = some x := by rfl) (hx : Loc X.env.scope x := by first | exact Or.inl rfl | exact Or.inr rfl) (hs : swapsWith e (some (.Name x pos')) pos.line X.env = pure false := by rfl)
    (hf : X.fn x = true ∨ X.env.scope.names.lookup x = some .local := by first | exact .inl rfl | exact .inr rfl) : DS X K (.Assign [.Name x pos'] e pos) (tAsg te (gName i)) (setOwndM i ms) := ⟨ps_set hN hi hx h.p hs hf, fun G0 H0 env σ H G o Dn r g e f => by
  obtain ⟨ds, e1, e2⟩ := bind_some_of e
  cases e2
  exact h.d H0 env σ H G ds _ r e1 fun p kvs G1 H1 g1 hp np e3 k1 i1 => f _ G1 H1 (r.setOwn (o := .dK kvs) i g1 hp rfl ⟨p, kvs, rfl, g.free hp, np, e3, k1, i1⟩) (g.trans g1) g1.g⟩
theorem td_dc {vs : List Nat} {mi : En → Option (List D)} {bnd : D → En → Option En} {tst : En → Option Bool} {mk mv : En → Option D} (hi : TI1 K wi mi) (hg : TGd K g js bnd) (ht : TB K tt tst) (hk : TD K tk mk) (hv : TD K tv mv) (hj : ∀ j ∈ js, j ∈ vs) : TFd K (tDc wi g tt tk tv vs) (dcM vs mi bnd tst mk mv) := fun H0 env σ H G total Q r e q => by
  obtain ⟨ds, e1, e2⟩ := bind_some_of e
  split at e2
  case isFalse => cases e2
  rename_i hz
  refine hi H0 env σ H G ds _ r e1 fun J G1 H1 g1 s1 => fun A hA => ?_
  obtain ⟨Y, w, y⟩ := s1.ex
  have nA : G1 A = none := g1.gh.free hA
  refine dc_it w (fun i H' => ∃ G' kvs ks as, Go G1 H1 G' H' ∧ G' A = none ∧ H' A = some (.dK kvs) ∧ kvs.map (·.1) = ks ∧ IsL K G' (kvs.map (·.2)) as ∧ ks.length ≤ i ∧ dcompM bnd tst mk mv (wipeE env vs) (ds.drop i) ks as = some total) ?_ (fun i H' _ ⟨G', kvs, ks, as, gg, _⟩ => gg.same) (fun i x H' H2 hlt p hy => ?_) (fun H' p => ?_)
  · exact ⟨G1, [], [], [], (Go.refl g1.gh).fresh hA, nA, upd_same, rfl, .nil, Nat.zero_le _, by simpa using e2⟩
  · obtain ⟨G', kvs, ks, as, gg, nA', eA, ek, ia, hl, ec⟩ := p
    rw [List.drop_eq_getElem_cons hlt] at ec
    obtain ⟨env1, a1, a2⟩ := bind_some_of ec
    obtain ⟨b, a3, a4⟩ := bind_some_of a2
    obtain ⟨G2, g2, ix⟩ := y i H' x H2 ds[i] G' (List.getElem?_eq_getElem hlt) gg.g gg.gh hy
    have r2 : Rp K H0 G2 (wipeE env vs) (wipe σ vs) H2 := ((wipe_ofs vs r).go g1).go (gg.trans g2)
    refine hg H0 _ _ H2 G2 x _ env1 _ r2 ix a1 fun σ2 r3 l3 k3 => ⟨wipe_same hj l3 k3, ?_⟩
    refine ht H0 env1 σ2 H2 G2 b _ r3 a3 fun G3 H3 g3 => ?_
    have gt : Go G1 H1 G3 H3 := (gg.trans g2).trans g3
    obtain ⟨nA3, eA3⟩ := (g2.trans g3).out A _ nA' eA dK_nt
    cases b with
    | false =>
      have a5 := (if_neg (c := false = true) Bool.false_ne_true).symm.trans a4
      exact iteF ⟨G3, kvs, ks, as, gt, nA3, eA3, ek, ia.mono (g2.trans g3).g, by omega, a5⟩
    | true =>
      have a5 := (if_pos (c := true = true) rfl).symm.trans a4
      obtain ⟨kd, a6, a7⟩ := bind_some_of a5
      obtain ⟨yd, a8, a9⟩ := bind_some_of a7
      obtain ⟨k, a10, a11⟩ := bind_some_of a9
      refine iteT (hk H0 env1 σ2 H3 G3 kd _ (r3.go g3) a6 fun v G4 H4 g4 i4 => ?_)
      refine hv H0 env1 σ2 H4 G4 yd _ (r3.go (g3.trans g4)) a8 fun z G5 H5 g5 i5 => ?_
      have g45 := g4.trans g5
      obtain ⟨nA5, eA5⟩ := g45.out A _ nA3 eA3 dK_nt
      have hlen : kvs.length = ks.length := by rw [← ek, List.length_map]
      obtain ⟨b1, b2⟩ := put_is (k := k) (ks' := (putD ks as k yd).1) (ds' := (putD ks as k yd).2) ek (ia.mono ((g2.trans g3).trans g45).g) i5 rfl
      refine ⟨kvs, k, keyD_is (G := G4) (H := H4) (.is i4) a10, eA5, ?_, G5, _, _, _, (gt.trans g45).mut nA5 hA eA5 dK_pl, nA5, upd_same, b1, b2, ?_, a11⟩
      · have : kvs.length < 100000 := by omega
        exact Nat.lt_of_lt_of_le this (by decide)
      · have := putD_len (ks := ks) (ds := as) (k := k) (d := yd) (ks' := (putD ks as k yd).1) (ds' := (putD ks as k yd).2) rfl
        omega
  · obtain ⟨G', kvs, ks, as, gg, nA', eA, ek, ia, hl, ec⟩ := p
    rw [List.drop_length] at ec
    cases ec
    have gf := g1.trans gg
    have nH := g1.free hA
    exact q A kvs G' H' gf nH nA' eA ek ia
theorem dfd_dc {mi : En → Option (List D)} {bnd : D → En → Option En} {tst : En → Option Bool} {mk mv : En → Option D} (hc : X.calm = true) (hN : X.N.Nodup) (hi : DI1 X K tg iter wi mi) (ok : BlkOk X.N X.env.scope scope own)
    (hg : ∀ (s : Shared) (H : Hp) (C : Addr) (cl : List (Str × Addr)) (fp : List Addr), DG (X.blk s H scope (compEnvC scope cl C X.env) fp) K tg g js bnd) (ht : ∀ (s : Shared) (H : Hp) (C : Addr) (cl : List (Str × Addr)) (fp : List Addr), DTs (X.blk s H scope (compEnvC scope cl C X.env) fp) K ifs tt tst)
    (hk : ∀ (s : Shared) (H : Hp) (C : Addr) (cl : List (Str × Addr)) (fp : List Addr), DE (X.blk s H scope (compEnvC scope cl C X.env) fp) K kx tk mk)
    (he : ∀ (s : Shared) (H : Hp) (C : Addr) (cl : List (Str × Addr)) (fp : List Addr), DE (X.blk s H scope (compEnvC scope cl C X.env) fp) K vx tv mv) (hj : js.all (fun j => (own.map (·.2)).contains j) = true) (h0 : Shared) (hs : ∀ x, foldedSetIterable iter X.env x = pure x := by intro _; rfl) :
    DFd X K (.DictComp kx vx [⟨tg, iter, ifs, 0⟩] scope pos) (tDc wi g tt tk tv (own.map (·.2))) (dcM (own.map (·.2)) mi bnd tst mk mv) :=
  ⟨pe_dc hc hN hi.p ok (fun s H C cl fp => (hg s H C cl fp).p) (fun s H C cl fp => (ht s H C cl fp).p) (fun s H C cl fp => (hk s H C cl fp).p) (fun s H C cl fp => (he s H C cl fp).p) hs,
   td_dc hi.d (hg h0 (fun _ => none) 0 [] []).d (ht h0 (fun _ => none) 0 [] []).d (hk h0 (fun _ => none) 0 [] []).d (he h0 (fun _ => none) 0 [] []).d fun j hm => by
    have := List.all_eq_true.mp hj j hm
    simpa using this⟩
/-- a comprehension, ready for both ways -/
theorem dlc {elt : Expr} {te : TE} {mi : En → Option (List D)} {bnd : D → En → Option En} {tst : En → Option Bool} {me : En → Option D} (hc : X.calm = true) (hN : X.N.Nodup) (hi : DI1 X K tg iter wi mi) (ok : BlkOk X.N X.env.scope scope own)
    (hg : ∀ (s : Shared) (H : Hp) (C : Addr) (cl : List (Str × Addr)) (fp : List Addr), DG (X.blk s H scope (compEnvC scope cl C X.env) fp) K tg g js bnd) (ht : ∀ (s : Shared) (H : Hp) (C : Addr) (cl : List (Str × Addr)) (fp : List Addr), DTs (X.blk s H scope (compEnvC scope cl C X.env) fp) K ifs tt tst)
    (he : ∀ (s : Shared) (H : Hp) (C : Addr) (cl : List (Str × Addr)) (fp : List Addr), DE (X.blk s H scope (compEnvC scope cl C X.env) fp) K elt te me) (hj : js.all (fun j => (own.map (·.2)).contains j) = true) (h0 : Shared) (hs : ∀ x, foldedSetIterable iter X.env x = pure x := by intro _; rfl) :
    DLc X K (.ListComp elt [⟨tg, iter, ifs, 0⟩] scope pos) (tLc wi g tt te (own.map (·.2))) (lcM (own.map (·.2)) mi bnd tst me) :=
  ⟨df_lc hc hN hi ok hg ht he hj h0 hs, ⟨fun i y py spos hi' hy hsw => ps_setLc hc hN hi' hy hsw hi.p ok (fun s H C cl fp => (hg s H C cl fp).p) (fun s H C cl fp => (ht s H C cl fp).p) (fun s H C cl fp => (he s H C cl fp).p) hs⟩⟩
end
end Dl

set_option Elab.async false
set_option linter.all false
set_option maxRecDepth 100000
set_option maxHeartbeats 2000000
/-! Values as data: sorted, comprehensions over the keys of a dict, keywords, chains, enumerate, zip. -/
namespace Dl
open PySem PySem.Spec PyProof.Rows L2
variable [TbA]
/-! ### sorted(data) -/
open PySem.W in
def sortOk (ds : List D) : Bool := (ds.all fun d => ds.all fun e => alike d.py e.py) && ((ds.all fun d => match d.py with | .tuple (_ :: _) => true | _ => false) || (ds.all fun d => match d.py with | .none => false | .tuple _ => false | _ => true)) &&
  ds.all fun d => decide (d.py.depth ≤ 50) && d.py.canLay0
def sortL (ds : List D) : List D := ds.mergeSort (PySem.W.dataLe false D.py)
def rSortD (K : PySem.W.Frag) : List V → Hp → VK → Prop := fun vs H Q => ∃ (a : Addr) (xs : List V) (ds : List D) (P : V → D → Prop), vs = [.ref a] ∧ SqL K H a xs ∧ PySem.W.EachIs (fun x d => Dp K H x d.py ∧ P x d) xs ds ∧ sortOk ds = true ∧ ds.length ≤ 100000 ∧
  ∀ ys p, PySem.W.EachIs P ys (sortL ds) → H p = none → Q (.ref p) (upd H p (.lst ys))
section
variable {X : Cx} {K : PySem.W.Frag}
theorem each_vals {P : V → D → Prop} : ∀ {us : List Value} {ds : List D}, PySem.W.EachIs (fun u d => ∃ x, RelV x u ∧ P x d) us ds → ∃ ys, Vals ys us ∧ PySem.W.EachIs P ys ds
  | _, _, .nil => ⟨[], .nil, .nil⟩
  | _, _, .cons ⟨x, h1, h2⟩ t => by
    obtain ⟨ys, h3, h4⟩ := each_vals t
    exact ⟨x :: ys, .cons h1 h3, .cons h2 h4⟩
theorem each_pair {P : V → D → Prop} {Q : Value → D → Prop} (f : ∀ x u d, RelV x u → P x d → Q u d) : ∀ {xs : List V} {us : List Value} {ds : List D}, Vals xs us → PySem.W.EachIs P xs ds → PySem.W.EachIs Q us ds
  | _, _, _, .nil, .nil => .nil
  | _, _, _, .cons r rr, .cons h t => .cons (f _ _ _ r h) (each_pair f rr t)
theorem each_len {α β : Type} {P : α → β → Prop} : ∀ {xs : List α} {ds : List β}, PySem.W.EachIs P xs ds → xs.length = ds.length
  | _, _, .nil => rfl
  | _, _, .cons _ t => congrArg (· + 1) (each_len t)
theorem cr_sortD (hu : X.A.units + 64 < cLine) : CallR X (.builtin "sorted") (rSortD X.K) := by
  rintro pins s σ H vs us Q I r ⟨a, xs, ds, P, rfl, hs, hx, ok, hz, q⟩
  obtain ⟨its, rv, hl, hzz⟩ := I.list hs
  obtain ⟨ua, rfl, rua⟩ := vals1 r
  cases rua
  unfold sortOk at ok
  rw [Bool.and_eq_true, Bool.and_eq_true] at ok
  obtain ⟨⟨ok1, ok2⟩, ok3⟩ := ok
  have hal : PySem.W.AllAlike (ds.map D.py) := fun d hd d' hd' => by
    obtain ⟨b, hb, rfl⟩ := List.mem_map.mp hd
    obtain ⟨b', hb', rfl⟩ := List.mem_map.mp hd'
    exact List.all_eq_true.mp (List.all_eq_true.mp ok1 b hb) b' hb'
  have hk : PySem.W.Sortable (ds.map D.py) := by
    rw [Bool.or_eq_true] at ok2
    rcases ok2 with h | h
    · refine .inl fun d hd => ?_
      obtain ⟨b, hb, rfl⟩ := List.mem_map.mp hd
      have := List.all_eq_true.mp h b hb
      split at this
      · rename_i x r e; exact ⟨x, r, e⟩
      · cases this
    · refine .inr fun d hd => ?_
      obtain ⟨b, hb, rfl⟩ := List.mem_map.mp hd
      have := List.all_eq_true.mp h b hb
      split at this
      · cases this
      · cases this
      · rename_i h1 h2
        exact ⟨h1, h2⟩
  have hdep : ∀ b, b ∈ ds → X.A.units + 2 + (D.py b).depth < cLine := fun b hb => by
    have := List.all_eq_true.mp ok3 b hb
    rw [Bool.and_eq_true] at this
    have := of_decide_eq_true this.1
    omega
  have hlen := each_len hx
  refine PySem.W.sorted_data (vs := its) (bs := ds) (enc := D.py) (R := fun u d => ∃ x, RelV x u ∧ P x d) hl.isList (each_pair (fun x u d r p => ⟨x, r, p.2⟩) rv hx) (each_pair (fun x u d r p => Dp.reads I _ x u p.1 r) rv hx) hal hk (sz5 hz) hdep fun out ho eo => ?_
  obtain ⟨ys, h1, h2⟩ := each_vals eo
  obtain ⟨n, hn⟩ := sortedAll_at s.heap its out.toArray
  have hd : s.heap.objs.size ≤ s.heap.objs.size + 1 := Nat.le_succ _
  refine ⟨.ref (s.heap.objs.size + 1), upd H (s.heap.objs.size + 1) (.lst ys), I.laid (t' := s.toks) (fun _ _ => sortedAll_old) hd ⟨?_, out, n, h1, hn⟩, rfl, q ys _ h2 (I.hok.fresh hd)⟩
  have := each_len h2
  unfold sortL at this
  rw [this, List.length_mergeSort]
  exact sz5 hz
theorem call_sortK (hu : X.A.units + 64 < cLine) (hK : X.K = K) : CallR X (.builtin "sorted") (rSortD K) := by subst hK; exact cr_sortD hu
theorem boot_sorted' : bootBuiltins "sorted" = some (.builtin "sorted") := by decide +kernel
def seq1 : List D → Option (List D)
  | [.lst ds] => some ds
  | [.scr ds] => some ds
  | _ => none
def sortD (as : List D) : Option (List D) := (seq1 as).bind fun ds => if sortOk ds = true ∧ ds.length ≤ 100000 then some (sortL ds) else none
theorem each_is {G H : Hp} (gh : Same G H) : ∀ {vs : List V} {ds : List D}, IsL K G vs ds → (∀ d ∈ ds, d.py.canLay0 = true) → PySem.W.EachIs (fun x d => Dp K H x d.py ∧ Is K G x d) vs ds
  | _, _, .nil, _ => .nil
  | _, _, .cons h r, q => .cons ⟨(h.mono gh).dp (q _ (List.mem_cons_self ..)), h⟩ (each_is gh r fun d hd => q d (List.mem_cons_of_mem _ hd))
theorem isl_each {G : Hp} : ∀ {vs : List V} {ds : List D}, PySem.W.EachIs (fun x d => Is K G x d) vs ds → IsL K G vs ds
  | _, _, .nil => .nil
  | _, _, .cons h t => .cons h (isl_each t)
theorem tf_sort {ta : TA} {ms : En → Option (List D)} (h : TAr K ta ms) : TF K (tCB (rSortD K) ta) (fun env => (ms env).bind sortD) := fun H0 env σ H G es Q rp e q => by
  obtain ⟨as, e1, e2⟩ := bind_some_of e
  obtain ⟨ds, e3, e4⟩ := bind_some_of e2
  split at e4
  · rename_i hc
    cases e4
    refine h H0 env σ H G as _ rp e1 fun vs G1 H1 g1 i1 => ?_
    have at_ : ∃ p ys, vs = [.ref p] ∧ SqL K H1 p ys ∧ IsL K G1 ys ds := by
      unfold seq1 at e3
      split at e3
      · cases e3
        obtain ⟨v, rfl, i⟩ := i1.one
        obtain ⟨p, ws, rfl, s1, i2⟩ := i.lst g1.gh
        exact ⟨p, ws, rfl, SqL.of s1, i2⟩
      · cases e3
        obtain ⟨v, rfl, i⟩ := i1.one
        obtain ⟨p, ws, rfl, s1, i2⟩ := i.scr g1.gh
        exact ⟨p, ws, rfl, s1, i2⟩
      · cases e3
    obtain ⟨p, ys, rfl, s1, i2⟩ := at_
    have lay : ∀ d ∈ ds, d.py.canLay0 = true := fun d hd => by
      have h1 := hc.1
      unfold sortOk at h1
      rw [Bool.and_eq_true] at h1
      have := List.all_eq_true.mp h1.2 d hd
      rw [Bool.and_eq_true] at this
      exact this.2
    refine ⟨p, ys, ds, fun x d => Is K G1 x d, rfl, s1, each_is g1.gh i2 lay, hc.1, hc.2, fun zs l hzs hl => ?_⟩
    have nl := g1.gh.free hl
    exact q l zs G1 _ (g1.fresh hl) (g1.free hl) nl upd_same (isl_each hzs)
  · cases e4
theorem df_sorted {p pos : Pos} {ta : TA} {e : Expr} {es : List Expr} {ms : En → Option (List D)} (hu : X.A.units + 64 < cLine) (hg : Gl X "sorted") (hm : X.mg "sorted" = none) (ha : DAr X K (e :: es) ta ms) (hK : X.K = K := by rfl)
    (he : starEach (e :: es) X.env = (false, eval e X.env) :: starEach es X.env := by rfl) (hpl : (backTo pos (starEach es X.env)).any (·.1) = false := by rfl) : DF1 X K (.Call (.Name "sorted" p) (e :: es) [] pos) (tCB (rSortD K) ta) (fun env => (ms env).bind sortD) :=
  ⟨pe_callB (call_sortK hu hK) hg hm boot_sorted' ha.p (by decide) (by decide) he hpl, tf_sort ha.d⟩
end

/-! ### enumerate, zip -/
section
variable {X : Cx} {K : PySem.W.Frag} {e e2 : Expr} {p pos tpos : Pos} {elts : List Expr} {kk : Nat} {ta : TA} {ms : En → Option (List D)}
def enumM (ms : En → Option (List D)) (env : En) : Option (List D) := match ms env with
  | some [.lst ds] => some (enumD ds)
  | some [.scr ds] => some (enumD ds)
  | _ => none
theorem di0_enum (hg : Gl X "enumerate") (hm : X.mg "enumerate" = none) (ha : DA X K [e] ta ms) (hK : X.K = K := by rfl) (hs : starEach [e] X.env = [(false, eval e X.env)] := by rfl) : DI0 X K (.Tuple elts kk tpos) (.Call (.Name "enumerate" p) [e] [] pos) (iEnum K ta) (enumM ms) := by
  subst hK
  refine ⟨pi_enum hg hm ha.p hs, fun H0 env σ H G ds R r e q => ?_⟩
  unfold enumM at e
  split at e
  · rename_i es e1
    cases e
    refine ha.d H0 env σ H G _ _ r e1 fun vs G1 H1 g1 i1 => ?_
    cases i1 with
    | cons a b =>
      cases b
      cases a with
      | lst s1 i2 => exact ⟨_, _, rfl, SqL.of (g1.gh _ _ s1), q _ G1 H1 g1 (src_enum (sqL_noT (SqL.of s1)) i2)⟩
  · rename_i es e1
    cases e
    refine ha.d H0 env σ H G _ _ r e1 fun vs G1 H1 g1 i1 => ?_
    cases i1 with
    | cons a b =>
      cases b
      cases a with
      | scr s1 i2 => exact ⟨_, _, rfl, same_l g1.gh s1, q _ G1 H1 g1 (src_enum (sqL_noT s1) i2)⟩
  · cases e
end

/-! ### a comprehension over the keys of a dict that stands still: locked meanwhile, only scalars beside it -/
section
variable {K : PySem.W.Frag}
def scalD : D → Bool
  | .non => true
  | .bl _ => true
  | .int _ => true
  | .str _ => true
  | _ => false
def keep1 : Option Sl → Option Sl
  | some (.val d) => if scalD d = true then some (.val d) else none
  | _ => none
def scalE (env : En) : En := env.map keep1
theorem scal_is {G G' : Hp} {v : V} {d : D} (h : Is K G v d) (e : scalD d = true) : Is K G' v d := by
  cases h with
  | non => exact .non
  | bl b => exact .bl b
  | int i => exact .int i
  | str s => exact .str s
  | tup _ _ => cases e
  | lst _ _ => cases e
  | scr _ _ => cases e
  | dic _ _ _ => cases e
  | obj _ _ _ => cases e
theorem scalE_rp {H0 G H G' H' : Hp} {env : En} {σ : L2.St} (r : Rp K H0 G env σ H) (gh : Same G' H') (gt : LamX.Tabs TbA.T H') (gn : NoTb G') : Rp K H0 G' (scalE env) σ H' := by
  have at_ : ∀ (i : Nat) (s : Sl), (scalE env)[i]? = some (some s) → ∃ d, s = .val d ∧ scalD d = true ∧ env[i]? = some (some (.val d)) := fun i s e => by
    unfold scalE at e
    rw [List.getElem?_map] at e
    cases h : env[i]? with
    | none => rw [h] at e; cases e
    | some o =>
      rw [h] at e
      have e' : keep1 o = some s := Option.some.inj e
      unfold keep1 at e'
      split at e'
      · split at e'
        · cases e'; exact ⟨_, rfl, by assumption, rfl⟩
        · cases e'
      · cases e'
  refine ⟨gh, gt, gn, by unfold scalE; rw [List.length_map]; exact r.len, fun i s e => ?_, fun i j s t v _ hi _ o => ?_⟩
  · obtain ⟨d, rfl, h1, h2⟩ := at_ i s e
    obtain ⟨v, h3, h4⟩ := r.sl i _ h2
    exact ⟨v, h3, scal_is h4 h1⟩
  · obtain ⟨d, rfl, _, _⟩ := at_ i s hi
    cases o
def keyToD : Key → D
  | .inl i => .int i
  | .inr s => .str s
theorem src_keys {G H : Hp} {a : Addr} {o : Obj} {kvs : List (Key × V)} (h : H a = some (.frz o (.dK kvs))) : Src K (Itk a o kvs) ((kvs.map (·.1)).map keyToD) (noT H) G := by
  refine ⟨fun i H x H' => H' = H ∧ ∃ k v, kvs[i]? = some (k, v) ∧ x = kV k, ?_, fun j H x H' d G' e s1 s2 y => ?_⟩
  · have e : ((kvs.map (·.1)).map keyToD).length = kvs.length := by rw [List.length_map, List.length_map]
    rw [e]
    exact walk_keys.mono (fun H' q => q _ _ (noT_of h frz_pl.nt)) (fun _ _ _ _ _ _ z => z)
  · obtain ⟨e1, k, v, e2, e3⟩ := y
    subst e1 e3
    rw [List.getElem?_map, List.getElem?_map, e2] at e
    cases e
    refine ⟨G', Go.refl s2, ?_⟩
    cases k with
    | inl i => exact .int i
    | inr s => exact .str s
/-- the run of a comprehension, once its walk has begun -/
theorem lc_run {g : TG} {tt : TT} {te : TE} {js vs : List Nat} {bnd : D → En → Option En} {tst : En → Option Bool} {me : En → Option D} (hg : TGd K g js bnd) (ht : TB K tt tst) (he : TD K te me) (hj : ∀ j ∈ js, j ∈ vs)
    {H0 G1 H1 : Hp} {env : En} {σ : L2.St} {J : It} {ds total : List D} {Q : VK} (r : Rp K H0 G1 env σ H1) (s1 : Src K J ds (noT H1) G1) (hz : ds.length ≤ 100000) (e2 : compM bnd tst me (wipeE env vs) ds = some total)
    (q : ∀ p as G' H', Go G1 H1 G' H' → H1 p = none → G' p = none → H' p = some (.lst as) → IsL K G' as total → Q (.ref p) H') :
    ∀ A, H1 A = none → ∃ W : Nat → Nat → Hp → Prop, (∃ m, W 0 m (upd H1 A (.lst []))) ∧ ∀ i m H, W i m H →
      (J.stop i H ∧ Q (.ref A) H) ∨ (J.go i H ∧ ∃ Nx : Hp → Prop, (∀ H', Nx H' → ∃ m', m' < m ∧ W (i + 1) m' H') ∧ ∀ x H', J.yld i H x H' → g x (wipe σ vs) H' fun σ2 H2 => wipe σ2 vs = wipe σ vs ∧ tt σ2 H2 fun b H3 =>
        if b = true then te σ2 H3 fun y H4 => ∃ acc, H4 A = some (.lst acc) ∧ acc.length < sizeLine ∧ Nx (upd H4 A (.lst (acc ++ [y]))) else Nx H3) := fun A hA => by
  have gh1 := r.gh
  obtain ⟨Y, w, y⟩ := s1.ex
  have nA : G1 A = none := gh1.free hA
  refine lc_it w (fun i H' => ∃ G' acc as rs, Go G1 H1 G' H' ∧ G' A = none ∧ H' A = some (.lst acc) ∧ IsL K G' acc as ∧ as.length ≤ i ∧ compM bnd tst me (wipeE env vs) (ds.drop i) = some rs ∧ as ++ rs = total) ?_ (fun i H' _ ⟨G', acc, as, rs, gg, _⟩ => gg.same) (fun i x H' H2 hlt p hy => ?_) (fun H' p => ?_)
  · exact ⟨G1, [], [], total, (Go.refl gh1).fresh hA, nA, upd_same, .nil, Nat.zero_le _, by simpa using e2, rfl⟩
  · obtain ⟨G', acc, as, rs, gg, nA', eA, ia, hl, ec, et⟩ := p
    rw [List.drop_eq_getElem_cons hlt] at ec
    obtain ⟨env1, a1, a2⟩ := bind_some_of ec
    obtain ⟨b, a3, a4⟩ := bind_some_of a2
    obtain ⟨G2, g2, ix⟩ := y i H' x H2 ds[i] G' (List.getElem?_eq_getElem hlt) gg.g gg.gh hy
    have r2 : Rp K H0 G2 (wipeE env vs) (wipe σ vs) H2 := (wipe_ofs vs r).go (gg.trans g2)
    refine hg H0 _ _ H2 G2 x _ env1 _ r2 ix a1 fun σ2 r3 l3 k3 => ⟨wipe_same hj l3 k3, ?_⟩
    refine ht H0 env1 σ2 H2 G2 b _ r3 a3 fun G3 H3 g3 => ?_
    have gt : Go G1 H1 G3 H3 := (gg.trans g2).trans g3
    obtain ⟨nA3, eA3⟩ := (g2.trans g3).out A _ nA' eA lst_nt
    cases b with
    | false =>
      have a5 := (if_neg (c := false = true) Bool.false_ne_true).symm.trans a4
      exact iteF ⟨G3, acc, as, rs, gt, nA3, eA3, ia.mono (g2.trans g3).g, by omega, a5, et⟩
    | true =>
      have a5 := (if_pos (c := true = true) rfl).symm.trans a4
      obtain ⟨yd, a6, a7⟩ := bind_some_of a5
      obtain ⟨rs', a8, a9⟩ := bind_some_of a7
      cases a9
      refine iteT (he H0 env1 σ2 H3 G3 yd _ (r3.go g3) a6 fun v G4 H4 g4 i4 => ?_)
      obtain ⟨nA4, eA4⟩ := g4.out A _ nA3 eA3 lst_nt
      have il : acc.length = as.length := ia.len
      refine ⟨acc, eA4, ?_, G4, acc ++ [v], as ++ [yd], rs', (gt.trans g4).mut nA4 hA eA4 lst_pl, nA4, upd_same, (ia.mono ((g2.trans g3).trans g4).g).append (.cons i4 .nil), by rw [List.length_append]; simp; omega, a8, by rw [List.append_assoc]; exact et⟩
      · have : acc.length < 100000 := by omega
        exact Nat.lt_of_lt_of_le this (by decide)
  · obtain ⟨G', acc, as, rs, gg, nA', eA, ia, hl, ec, et⟩ := p
    rw [List.drop_length] at ec
    cases ec
    rw [List.append_nil] at et
    subst et
    exact q A acc G' H' gg hA nA' eA ia
/-- H without a -/
def hide (H : Hp) (a : Addr) : Hp := fun b => if b = a then none else H b
theorem hide_same {H : Hp} {a : Addr} : hide H a a = none := by unfold hide; rw [if_pos rfl]
theorem hide_ne {H : Hp} {a b : Addr} (h : b ≠ a) : hide H a b = H b := by unfold hide; rw [if_neg h]
def lcKeysM (i : Nat) (vs : List Nat) (bnd : D → En → Option En) (tst : En → Option Bool) (elt : En → Option D) (env : En) : Option D := match env[i]? with
  | some (some (.val (.dic ks _))) => if ks.length ≤ 100000 then (compM bnd tst elt (wipeE (scalE env) vs) (ks.map keyToD)).bind fun r => some (.lst r) else none
  | _ => none
theorem td_lcKeys {g : TG} {tt : TT} {te : TE} {js vs : List Nat} {bnd : D → En → Option En} {tst : En → Option Bool} {me : En → Option D} (i : Nat) (hg : TGd K g js bnd) (ht : TB K tt tst) (he : TD K te me) (hj : ∀ j ∈ js, j ∈ vs) : TD K (tLockE (tLc (iKeys (tVar i)) g tt te vs)) (lcKeysM i vs bnd tst me) := fun H0 env σ H G d Q r e q => by
  unfold lcKeysM at e
  split at e
  · rename_i ks ds e1
    split at e
    · rename_i hz
      obtain ⟨total, e2, e3⟩ := bind_some_of e
      cases e3
      obtain ⟨v, hσ, iv⟩ := r.sl i _ e1
      cases iv with
      | dic ga hk iv =>
        rename_i a kvs
        have ha := r.gh _ _ ga
        refine ⟨a, .dK kvs, ha, trivial, fun od => ?_⟩
        have gh1 : Same (hide G a) (upd H a (.frz od (.dK kvs))) := fun b u e => by
          by_cases hb : b = a
          · subst hb; rw [hide_same] at e; cases e
          · rw [hide_ne hb] at e; rw [upd_ne hb]; exact r.gh b u e
        have gn1 : NoTb (hide G a) := fun b ps z => by
          by_cases hb : b = a
          · subst hb; rw [hide_same] at z; cases z
          · rw [hide_ne hb] at z; exact r.gn b ps z
        refine ⟨_, hσ, a, od, rfl, .inl ⟨kvs, upd_same, ?_⟩⟩
        have ekl : ((kvs.map (·.1)).map keyToD).length ≤ 100000 := by rw [List.length_map, hk]; exact hz
        refine lc_run (Q := fun v H2 => H2 a = some (.frz od (.dK kvs)) ∧ Q v (upd H2 a (.dK kvs))) hg ht he hj (scalE_rp r gh1 (tabs_mut r.tb ha dK_pl) gn1) (src_keys upd_same) ekl (by rw [hk]; exact e2) fun p as G' H' gg hp np e4 i4 => ?_
        obtain ⟨na, ea⟩ := gg.out a _ hide_same upd_same frz_pl.nt
        refine ⟨ea, ?_⟩
        have hpa : p ≠ a := fun z => by rw [z, upd_same] at hp; cases hp
        have hpH : H p = none := by rw [upd_ne hpa] at hp; exact hp
        have g1 : Go G H (upd G' a (.dK kvs)) (upd H' a (.dK kvs)) := by
          refine ⟨r.gh, fun b u e => ?_, fun b u e => ?_, fun b u n e t => ?_, fun t => tabs_mut (gg.tb (tabs_mut t ha dK_pl)) ea frz_pl, fun b e => ?_, fun _ => notb_upd (gg.gn gn1) dK_nt⟩
          · by_cases hb : b = a
            · subst hb; rw [upd_same]; rw [ga] at e; exact e
            · rw [upd_ne hb]; exact gg.g b u (by rw [hide_ne hb]; exact e)
          · by_cases hb : b = a
            · subst hb; rw [upd_same] at e ⊢; exact e
            · rw [upd_ne hb] at e ⊢; exact gg.gh b u e
          · have hb : b ≠ a := fun z => by rw [z, ga] at n; cases n
            rw [upd_ne hb, upd_ne hb]
            exact gg.out b u (by rw [hide_ne hb]; exact n) (by rw [upd_ne hb]; exact e) t
          · exact upd_none (gg.fr b (upd_none e))
        have np2 : upd G' a (.dK kvs) p = none := by rw [upd_ne hpa]; exact np
        have e5 : upd H' a (.dK kvs) p = some (.lst as) := by rw [upd_ne hpa]; exact e4
        refine q (.ref p) _ _ (g1.fix hpH np2 e5) (.lst upd_same ((i4.mono ?_).mono (same_upd np2)))
        exact same_upd na
    · cases e
  · cases e
end
section
variable {X : Cx} {K : PySem.W.Frag} {elt tg : Expr} {ifs : List Expr} {scope : Scope} {own : List (Str × Nat)} {pos p : Pos} {g : TG} {tt : TT} {te : TE} {js : List Nat} {wi : TI}
def orM' (m n : En → Option D) (env : En) : Option D := match m env with
  | some d => some d
  | none => n env
/-- a comprehension over a name that may hold a dict, or a list -/
theorem de_lcAny {x : Str} {mi : En → Option (List D)} {bnd : D → En → Option En} {tst : En → Option Bool} {me : En → Option D} (i : Nat) (hc : X.calm = true) (hN : X.N.Nodup) (hi : DI1 X K tg (.Name x p) wi mi) (hpv : PE X (.Name x p) (tVar i)) (ok : BlkOk X.N X.env.scope scope own)
    (hg : ∀ (s : Shared) (H : Hp) (C : Addr) (cl : List (Str × Addr)) (fp : List Addr), DG (X.blk s H scope (compEnvC scope cl C X.env) fp) K tg g js bnd) (ht : ∀ (s : Shared) (H : Hp) (C : Addr) (cl : List (Str × Addr)) (fp : List Addr), DTs (X.blk s H scope (compEnvC scope cl C X.env) fp) K ifs tt tst)
    (he : ∀ (s : Shared) (H : Hp) (C : Addr) (cl : List (Str × Addr)) (fp : List Addr), DE (X.blk s H scope (compEnvC scope cl C X.env) fp) K elt te me) (hj : js.all (fun j => (own.map (·.2)).contains j) = true) (h0 : Shared) (hs : ∀ y, foldedSetIterable (.Name x p) X.env y = pure y := by intro _; rfl) :
    DE X K (.ListComp elt [⟨tg, .Name x p, ifs, 0⟩] scope pos) (fun σ H Q => tLockE (tLc (iKeys (tVar i)) g tt te (own.map (·.2))) σ H Q ∨ tLc wi g tt te (own.map (·.2)) σ H Q) (orM' (lcKeysM i (own.map (·.2)) bnd tst me) (asLst (lcM (own.map (·.2)) mi bnd tst me))) := by
  have hj' : ∀ j ∈ js, j ∈ own.map (·.2) := fun j hm => by
    have := List.all_eq_true.mp hj j hm
    simpa using this
  have G1 := (hg h0 (fun _ => none) 0 [] []).d
  have T1 := (ht h0 (fun _ => none) 0 [] []).d
  have E1 := (he h0 (fun _ => none) 0 [] []).d
  refine ⟨PE.or (pe_lock (pe_lc hc hN (pi_keys hpv) ok (fun s H C cl fp => (hg s H C cl fp).p) (fun s H C cl fp => (ht s H C cl fp).p) (fun s H C cl fp => (he s H C cl fp).p) hs)) (pe_lc hc hN hi.p ok (fun s H C cl fp => (hg s H C cl fp).p) (fun s H C cl fp => (ht s H C cl fp).p) (fun s H C cl fp => (he s H C cl fp).p) hs), fun H0 env σ H G d Q r e q => ?_⟩
  unfold orM' at e
  split at e
  · rename_i e1
    cases e
    exact .inl (td_lcKeys i G1 T1 E1 hj' H0 env σ H G _ Q r e1 q)
  · exact .inr ((tf_lc hi.d G1 T1 E1 hj').d H0 env σ H G _ Q r e q)
end

/-! ### calls with keywords alone -/
structure DK (X : Cx) (K : PySem.W.Frag) (kws : List Keyword) (t : TA) (m : En → Option (List D)) : Prop where
  p : PK X kws t
  d : TAd K t m
section
variable {X : Cx} {K : PySem.W.Frag} {e : Expr} {kws : List Keyword} {te : TE} {t tk : TA} {nm : Option Str} {kpos pos p : Pos} {m : En → Option D} {ms : En → Option (List D)}
theorem dk_nil : DK X K [] tNil (fun _ => some []) := ⟨pk_nil, tad_nil⟩
theorem dk_cons (h1 : DE X K e te m) (h2 : DK X K kws t ms) : DK X K (⟨nm, e, kpos⟩ :: kws) (tCons te t) (consM m ms) := by
  refine ⟨pk_cons h1.p h2.p, fun H0 env σ H G ds Q r e q => ?_⟩
  obtain ⟨d, ds', e1, e2, rfl⟩ := consM_some e
  refine h1.d H0 env σ H G d _ r e1 fun v G1 H1 g1 i1 => ?_
  exact h2.d H0 env σ H1 G1 ds' _ (r.go g1) e2 fun vs G2 H2 g2 i2 => q _ G2 H2 (g1.trans g2) (.cons (i1.mono g2.g) i2)
end
end Dl

set_option Elab.async false
set_option linter.all false
set_option maxRecDepth 100000
set_option maxHeartbeats 2000000
/-! Values as data: keywords, short names, the law's own end. -/
namespace Dl
open PySem PySem.Spec PyProof.Rows L2
variable [TbA]
abbrev cI (i : Int) : En → Option D := fun _ => some (.int i)
abbrev cS (s : Str) : En → Option D := fun _ => some (.str s)
abbrev cB (b : Bool) : En → Option D := fun _ => some (.bl b)
abbrev cN : En → Option D := fun _ => some .non
abbrev nilM : En → Option (List D) := fun _ => some []
abbrev lstF (ms : En → Option (List D)) : En → Option (List D) := fun env => (ms env).bind fun ds => if ds.length ≤ 100000 then some ds else none
abbrev listF (ms : En → Option (List D)) : En → Option (List D) := fun env => (ms env).bind listD
abbrev sortF (ms : En → Option (List D)) : En → Option (List D) := fun env => (ms env).bind sortD
abbrev unM (f : D → Option D) (m : En → Option D) : En → Option D := fun env => (m env).bind f
abbrev noP : En → Option (Option Int) := fun _ => some none
abbrev yesM : En → Option Bool := fun _ => some true
abbrev nextM : En → Option Out := fun env => some (.nx env)
abbrev retF (m : En → Option D) : En → Option Out := fun env => retM m (frzAll env)
abbrev retN : En → Option Out := fun _ => some (.rt .non)
abbrev frzM (is : List Nat) (ms : En → Option Out) : En → Option Out := fun env => ms (frzL is env)
abbrev newDict (i : Nat) : En → Option Out := fun env => some (.nx (env.set i (some (.ownd [] []))))
abbrev breakM : En → Option Out := fun env => some (.bk env)
abbrev contM : En → Option Out := fun env => some (.ct env)

section
variable {X : Cx} {K : PySem.W.Frag} {a b c : Expr} {ta tb tc : TE} {pos : Pos} {ma mb mc : En → Option D}
def chainM (ma mb mc : En → Option D) (f g : D → D → Option D) (env : En) : Option D := (ma env).bind fun d => (mb env).bind fun e => (f d e).bind fun
  | .bl true => (mc env).bind fun z => g e z
  | .bl false => some (.bl false)
  | _ => none
end
/-! ### keywords alone -/
section
variable {P : Program} {w : World} {K : PySem.W.Frag} {mg : Str → Option Value} {base : Heap}
/-- .. and binds its parameters by keywords in their order, too -/
structure DFK (P : Program) (w : World) (K : PySem.W.Frag) (mg : Str → Option Value) (base : Heap) (x : Str) (k : Nat) (ps : List Str) (f : List D → Option D) : Prop where
  ex : ∃ (fa : Addr) (fd : FuncData), mg x = some (.ref fa) ∧ PySem.W.keepIn K (.ref fa) = true ∧ Binds K fd ps [] ∧ FnG P w K mg base CX0 k fa fd ps (spD K f) ∧ ∀ (s : Shared) (ws : List Value), ws.length = ps.length → BindsTo s fd ⟨[], ps.zip ws⟩ (ps.zip ws)
theorem DFK.df {x : Str} {k : Nat} {ps : List Str} {f : List D → Option D} (h : DFK P w K mg base x k ps f) : DF P w K mg base x k ps f := let ⟨fa, fd, a, b, c, d, _⟩ := h.ex; ⟨fa, fd, a, b, c, d⟩
/-- how a def binds by keywords -/
theorem kw_of {x qual : Str} {st : Stmt} {fa : Addr} {fd : FuncData} {ps : List Str} (F : Fun K x qual st fa fd)
    (h : ∀ (kV doc pm : Value) (an : Option Addr) (cdv ct : Value) (us : List Value), us.length = ps.length → bindArgs (PySem.W.fnOf x qual (defArgs st) (defBody st) (defScope st) .none kV doc pm an cdv ct) ⟨[], ps.zip us⟩ = pure (ps.zip us)) (s : Shared) (ws : List Value) (hl : ws.length = ps.length) : BindsTo s fd ⟨[], ps.zip ws⟩ (ps.zip ws) := by
  obtain ⟨_, _, v1, v2, v3, v4, v5, v6, _, rfl, _, _⟩ := F.ex
  exact .of_eq (h v1 v2 v3 v4 v5 v6 ws hl)
end
section
variable {X : Cx} {K : PySem.W.Frag} {kws : List Keyword} {tk : TA} {pos p : Pos} {ms : En → Option (List D)}
theorem de_callK {x : Str} {k j : Nat} {ps : List Str} {f : List D → Option D} (F : DFK X.prog X.w K X.mg X.base x k ps f) (hr : RoomG j X.A) (hg : Gl X x) (ha : DK X K kws tk ms) (hkj : k ≤ j) (hK : X.K = K := by rfl)
    (hall : (backToKw pos (keywordEach kws X.env)).all (·.1.isSome) = true := by rfl) (hks : (backToKw pos (keywordEach kws X.env)).filterMap (·.1) = ps := by rfl) (hdb : (x == ("__debug__" : Str)) = false := by decide)
    (hpl : ((backTo pos (starEach [] X.env)).any (·.1) || (backToKw pos (keywordEach kws X.env)).any (·.1.isNone)) = false := by rfl) : DE X K (.Call (.Name x p) [] kws pos) (fun σ H Q => tk σ H fun vs H1 => spD K f vs H1 Q E0) (callM f ms) := by
  subst hK
  obtain ⟨fa, fd, hm, hk, hb, F, hkw⟩ := F.ex
  refine ⟨⟨fun pins s σ H Q I h => ?_⟩, fun H0 env σ H G z Q rp e q => ?_⟩
  · refine wpAny_Call_Name_kw (ld_glob I hg hm ?_ hdb)
    refine PySem.W.callWith_KW0 (h₀ := X.base) I.ok.mod.kin hk hall (thn (ha.p.run pos pins s σ H _ I h) fun ws s2 ⟨zs, H2, I2, rz, q2⟩ => ⟨I2.kIn, ?_⟩) hpl
    rw [hks]
    have hl : ws.length = ps.length := by rw [← rz.length]; exact F.many _ _ _ _ q2
    refine wpAny_call (codeAny_mono (F.goes X.A X.stack s2 H2 ⟨[], ps.zip ws⟩ ws zs Q E0 (hr.mono hkj) I2.env0 (hkw s2 ws hl) rz q2) fun r s' hq => ?_)
    cases r with
    | error e => exact hq.elim
    | ok fl =>
      cases fl with
      | ret u => exact I2.after hq
      | next => exact False.elim hq
      | brk => exact False.elim hq
      | cont => exact False.elim hq
  · obtain ⟨ds, e1, e2⟩ := bind_some_of e
    exact ha.d H0 env σ H G ds _ rp e1 fun vs G1 H1 g1 i1 => ⟨G1, ds, z, ⟨g1.gh, g1.tb rp.tb, g1.gn rp.gn⟩, i1, e2, fun v G2 H2 g2 i2 => q v G2 H2 (g1.trans g2) i2⟩
end
/-- a def's function, told otherwise -/
theorem DF.as {P : Program} {w : World} {K : PySem.W.Frag} {mg : Str → Option Value} {base : Heap} {x : Str} {k : Nat} {ps : List Str} {f g : List D → Option D} (h : DF P w K mg base x k ps f) (e : f = g) : DF P w K mg base x k ps g := e ▸ h
/-- more calls allowed -/
theorem DF.mono {P : Program} {w : World} {K : PySem.W.Frag} {mg : Str → Option Value} {base : Heap} {x : Str} {k k' : Nat} {ps : List Str} {f : List D → Option D} (h : DF P w K mg base x k ps f) (e : k ≤ k') : DF P w K mg base x k' ps f :=
  let ⟨fa, fd, a, b, c, d⟩ := h.ex; ⟨fa, fd, a, b, c, d.mono e⟩
/-- a def that may not be called at all -/
theorem fn_zero {P : Program} {w : World} {K : PySem.W.Frag} {mg : Str → Option Value} {base : Heap} {fa : Addr} {fd : FuncData} {ps : List Str} {k : Nat} : FnG P w K mg base CX0 k fa fd ps (spD K fun _ => none) := by
  have no : ∀ vs H Q E, ¬ spD K (fun _ => none) vs H Q E := fun vs H Q E h => by
    obtain ⟨G, ds, d, _, _, e, _⟩ := h
    cases e
  exact ⟨fun vs H Q E h => absurd h (no vs H Q E), fun A outer s H args us vs Q E _ _ _ _ h => absurd h (no vs H Q E)⟩
/-- what the law is asked at -/
theorem law_sp {K : PySem.W.Frag} {H : Hp} {a : Addr} {ns : List Int} {f : List D → Option D} (hT : LamX.Tabs TbA.T H) (hS : SqL K H a (ns.map V.int)) (h : f [.scr (ns.map D.int)] = some (.bl true)) : spD K f [.ref a] H (fun v _ => v = .bl true) fun _ _ _ => False := by
  have il : ∀ l : List Int, IsL K (noT H) (l.map V.int) (l.map D.int) := fun l => by
    induction l with
    | nil => exact .nil
    | cons x r ih => exact .cons (.int x) ih
  exact ⟨noT H, [.scr (ns.map D.int)], .bl true, ⟨noT_le (Same.refl H), hT, noT_no⟩, .cons (.scr (sqL_noT hS) (il ns)) .nil, h, fun v G' H' _ i => by cases i; rfl⟩
end Dl

set_option Elab.async false
set_option linter.all false
set_option maxRecDepth 100000
set_option maxHeartbeats 2000000
/-! Values as data: instances whose fields stay, their fields, methods and making; statements that are never come to. -/
namespace Dl
open PySem PySem.Spec PyProof.Rows L2
variable [TbA]
/-! ### a statement, an expression that is not told -/
theorem ds_dead {X : Cx} {K : PySem.W.Frag} {st : Stmt} : DS X K st (fun _ _ _ => False) (fun _ => none) := ⟨⟨fun pins s σ H D I h => h.elim⟩, fun G0 H0 env σ H G o Dn r g e f => by cases e⟩
theorem de_dead {X : Cx} {K : PySem.W.Frag} {e : Expr} : DE X K e (fun _ _ _ => False) (fun _ => none) := ⟨⟨fun pins s σ H Q I h => h.elim⟩, fun H0 env σ H G d Q r e q => by cases e⟩
/-! ### fields -/
def lkF : List Str → List D → Str → Option D
  | x :: xs, d :: ds, f => if x = f then some d else lkF xs ds f
  | _, _, _ => none
def fldM (cs : List Addr) (f : Str) (m : En → Option D) (env : En) : Option D := match m env with
  | some (.obj c xs ds) => if c ∈ cs then lkF xs ds f else none
  | _ => none
theorem lkF_is {K : PySem.W.Frag} {G : Hp} : ∀ {fs : List (Str × V)} {xs : List Str} {ds : List D} {f : Str} {d : D}, fs.map (·.1) = xs → IsL K G (fs.map (·.2)) ds → lkF xs ds f = some d → ∃ v, fs.lookup f = some v ∧ Is K G v d
  | [], _, _, _, _, e, h, l => by
    subst e
    unfold lkF at l
    cases l
  | (x, v) :: fs, _, _, f, d, e, h, l => by
    subst e
    cases h with
    | cons h1 h2 =>
      rename_i d0 ds0
      have l : (if x = f then some d0 else lkF (fs.map (·.1)) ds0 f) = some d := l
      by_cases hx : x = f
      · rw [if_pos hx] at l
        cases l
        subst hx
        exact ⟨v, by simp [List.lookup], h1⟩
      · rw [if_neg hx] at l
        obtain ⟨w, h3, h4⟩ := lkF_is rfl h2 l
        refine ⟨w, ?_, h4⟩
        rw [List.lookup_cons, show (f == x) = false from beq_eq_false_iff_ne.mpr (Ne.symm hx)]
        exact h3
theorem lkF_no {fs : List (Str × V)} {xs : List Str} {m : Str} (e : fs.map (·.1) = xs) (h : xs.contains m = false) : fs.lookup m = none := by
  subst e
  induction fs with
  | nil => rfl
  | cons p fs ih =>
    obtain ⟨x, v⟩ := p
    simp only [List.map_cons, List.contains_cons, Bool.or_eq_false_iff] at h
    rw [List.lookup_cons, h.1]
    exact ih h.2
/-- the classes cs have no name f of their own -/
structure FldC (K : PySem.W.Frag) (cs : List Addr) (f : Str) : Prop where
  cl : ∀ c ∈ cs, Cls K c
  no : ∀ c ∈ cs, NoAttr K c f
theorem fldC_one {K : PySem.W.Frag} {c : Addr} {f : Str} (h1 : Cls K c) (h2 : NoAttr K c f) : FldC K [c] f := ⟨fun x hx => by rw [List.mem_singleton] at hx; subst hx; exact h1, fun x hx => by rw [List.mem_singleton] at hx; subst hx; exact h2⟩
section
variable {X : Cx} {K : PySem.W.Frag} {e o : Expr} {es : List Expr} {te ta : TE} {t : TA} {pos apos p : Pos} {m mo : En → Option D} {ms : En → Option (List D)}
theorem td_fld {cs : List Addr} {f : Str} (F : FldC K cs f) (h : TD K te m) : TD K (tFld K te f) (fldM cs f m) := fun H0 env σ H G d Q r e q => by
  unfold fldM at e
  split at e
  · rename_i c xs ds em
    split at e
    · rename_i hc
      refine h H0 env σ H G _ _ r em fun v G1 H1 g1 i1 => ?_
      cases i1 with
      | obj s k i =>
        rename_i a dx fs
        obtain ⟨v, h1, h2⟩ := lkF_is k i e
        exact ⟨a, c, dx, fs, v, rfl, g1.gh _ _ s, F.cl c hc, F.no c hc, h1, q v G1 H1 g1 h2⟩
    · cases e
  · cases e
theorem de_fld {cs : List Addr} {f : Str} (F : FldC K cs f) (h : DE X K e te m) (hK : X.K = K := by rfl) (hb : attributeBase e f X.env (eval e X.env) = eval e X.env := by rfl) : DE X K (.Attribute e f pos) (tFld K te f) (fldM cs f m) := by
  subst hK
  exact ⟨pe_fld h.p hb, td_fld F h.d⟩
/-! ### methods -/
structure DMt (P : Program) (w : World) (K : PySem.W.Frag) (mg : Str → Option Value) (base : Heap) (c : Addr) (x : Str) (k : Nat) (ps : List Str) (f : List D → Option D) : Prop where
  cl : Cls K c
  ex : ∃ (fa : Addr) (fd : FuncData), Meth K c x fa ∧ Binds K fd ps [] ∧ FnG P w K mg base CX0 k fa fd ps (spD K f)
def methM (c : Addr) (x : Str) (f : List D → Option D) (mo : En → Option D) (ms : En → Option (List D)) (env : En) : Option D := match mo env with
  | some (.obj c' xs ds) => if c' = c ∧ xs.contains x = false then (match ms env with
    | some es => f (.obj c' xs ds :: es)
    | none => none) else none
  | _ => none
theorem td_meth {c : Addr} {x : Str} {f : List D → Option D} (ho : TD K ta mo) (h : TAd K t ms) : TD K (tMeth c x (spD K f) [] E0 ta t) (methM c x f mo ms) := fun H0 env σ H G z Q rp e q => by
  unfold methM at e
  split at e
  · rename_i c' xs ds em
    split at e
    · rename_i hc
      obtain ⟨rfl, hx⟩ := hc
      split at e
      · rename_i es ee
        refine ho H0 env σ H G _ _ rp em fun v G1 H1 g1 i1 => ?_
        cases i1 with
        | obj s k i =>
          rename_i a dx fs
          refine ⟨a, dx, fs, rfl, g1.gh _ _ s, lkF_no k hx, ?_⟩
          refine h H0 env σ H1 G1 es _ (rp.go g1) ee fun vs G2 H2 g2 i2 => ?_
          refine ⟨G2, _, z, ⟨g2.gh, g2.tb (g1.tb rp.tb), g2.gn (g1.gn rp.gn)⟩, ?_, e, fun v G3 H3 g3 i3 => q v G3 H3 ((g1.trans g2).trans g3) i3⟩
          rw [List.append_nil]
          exact .cons ((Is.obj s k i).mono g2.g) i2
      · cases e
    · cases e
  · cases e
theorem de_meth {c : Addr} {x : Str} {k j : Nat} {ps : List Str} {f : List D → Option D} {pl : Sem Bool} (F : DMt X.prog X.w K X.mg X.base c x k ps f) (hr : RoomG j X.A) (ho : DE X K o ta mo) (ha : DA X K (e :: es) t ms) (hkj : k ≤ j) (hK : X.K = K := by rfl)
    (hst : starEach (e :: es) X.env = (false, eval e X.env) :: starEach es X.env := by rfl) (hpl : (backTo pos (starEach es X.env)).any (·.1) = false := by rfl)
    (ht : eval (.Call (.Attribute o x apos) (e :: es) [] pos) X.env = (do
      let ov ← eval o X.env
      standAt apos.atName
      let (f, first) ← holding [ov] (getMethod ov x pl)
      callWith pos f first (backTo pos (starEach (e :: es) X.env)) (backToKw pos (keywordEach [] X.env))) := by rfl) :
    DE X K (.Call (.Attribute o x apos) (e :: es) [] pos) (tMeth c x (spD K f) [] E0 ta t) (methM c x f mo ms) := by
  subst hK
  obtain ⟨fa, fd, hm, hb, G⟩ := F.ex
  exact ⟨pe_methG ho.p F.cl hm G (hr.mono hkj) hb .nil pass0 ha.p hst hpl ht, td_meth ho.d ha.d⟩
/-! ### making -/
/-- the promise of an __init__: from the arguments the fields -/
def spI (K : PySem.W.Frag) (c : Addr) (f : List D → Option (List Str × List D)) : Sp := fun vs H Q _ => ∃ (G Hb : Hp) (x dx : Addr) (ws : List V) (ds : List D) (r : List Str × List D), vs = .ref x :: ws ∧ dx ≠ x ∧ Hb x = none ∧ Hb dx = none ∧ H = upd (upd Hb dx (.own x)) x (.ins c dx []) ∧ (Same G Hb ∧ LamX.Tabs TbA.T Hb ∧ NoTb G) ∧ IsL K G ws ds ∧ f ds = some r ∧
  ∀ G' H', Go G Hb G' H' → Is K G' (.ref x) (.obj c r.1 r.2) → Q .non H'
structure DMk (P : Program) (w : World) (K : PySem.W.Frag) (mg : Str → Option Value) (base : Heap) (c : Addr) (x : Str) (k : Nat) (ps : List Str) (f : List D → Option (List Str × List D)) : Prop where
  at_ : mg x = some (.ref c)
  ex : ∃ (fa : Addr) (fd : FuncData), Mk K c fa ∧ Binds K fd ps [] ∧ FnG P w K mg base CX0 k fa fd ps (spI K c f)
def makeM (c : Addr) (f : List D → Option (List Str × List D)) (ms : En → Option (List D)) (env : En) : Option D := match ms env with
  | some ds => (match f ds with
    | some r => some (.obj c r.1 r.2)
    | none => none)
  | none => none
theorem td_make {c : Addr} {f : List D → Option (List Str × List D)} (h : TAd K t ms) : TD K (tMake c (spI K c f) [] E0 t) (makeM c f ms) := fun H0 env σ H G z Q rp e q => by
  unfold makeM at e
  split at e
  · rename_i ds e1
    split at e
    · rename_i r e2
      cases e
      refine h H0 env σ H G ds _ rp e1 fun vs G1 H1 g1 i1 => fun x dx nx ndx nex => ?_
      refine ⟨G1, H1, x, dx, vs, ds, r, by rw [List.append_nil], nex, nx, ndx, rfl, ⟨g1.gh, g1.tb rp.tb, g1.gn rp.gn⟩, i1, e2, fun G2 H2 g2 i2 => ⟨rfl, q _ G2 H2 (g1.trans g2) i2⟩⟩
    · cases e
  · cases e
theorem de_make {c : Addr} {x : Str} {k j : Nat} {ps : List Str} {f : List D → Option (List Str × List D)} (F : DMk X.prog X.w K X.mg X.base c x k ps f) (hr : RoomG j X.A) (hg : Gl X x) (ha : DA X K (e :: es) t ms) (hkj : k + 1 ≤ j) (hK : X.K = K := by rfl)
    (hdb : (x == ("__debug__" : Str)) = false := by decide) (he : starEach (e :: es) X.env = (false, eval e X.env) :: starEach es X.env := by rfl) (hpl : (backTo pos (starEach es X.env)).any (·.1) = false := by rfl) :
    DE X K (.Call (.Name x p) (e :: es) [] pos) (tMake c (spI K c f) [] E0 t) (makeM c f ms) := by
  subst hK
  obtain ⟨fa, fd, hm, hb, G⟩ := F.ex
  exact ⟨pe_makeG hm G (hr.mono hkj) hg F.at_ hb .nil pass0 ha.p hdb he hpl, td_make ha.d⟩
end
/-! ### self.f = e within an __init__ -/
section
variable {X : Cx} {K : PySem.W.Frag} {e o a : Expr} {te to ti tv : TE} {pos pos' apos cpos p : Pos} {m mi : En → Option D}
def owniAt (i : Nat) (env : En) : Option (Addr × Addr × List Str × List D) := match env[i]? with
  | some (some (.owni p c xs ds)) => some (p, c, xs, ds)
  | _ => none
theorem owniAt_some {i : Nat} {env : En} {r : Addr × Addr × List Str × List D} (h : owniAt i env = some r) : env[i]? = some (some (.owni r.1 r.2.1 r.2.2.1 r.2.2.2)) := by
  unfold owniAt at h
  split at h
  · rename_i p c xs ds e1
    cases h
    exact e1
  · cases h
def setFldM (i : Nat) (c : Addr) (f : Str) (m : En → Option D) (env : En) : Option Out := match m env with
  | some d => (match owniAt i env with
    | some r => if r.2.1 = c ∧ r.2.2.1.contains f = false ∧ r.2.2.1.length < 900 then some (.nx (env.set i (some (.owni r.1 c (r.2.2.1 ++ [f]) (r.2.2.2 ++ [d]))))) else none
    | none => none)
  | none => none
theorem putF_new {f : Str} {v : V} : ∀ {fs : List (Str × V)}, (fs.map (·.1)).contains f = false → putF f v fs = fs ++ [(f, v)]
  | [], _ => rfl
  | (g, x) :: fs, h => by
    simp only [List.map_cons, List.contains_cons, Bool.or_eq_false_iff] at h
    have hg : ¬ g = f := fun z => by
      have := h.1
      subst z
      simp at this
    show (if g = f then (g, v) :: fs else (g, x) :: putF f v fs) = _
    rw [if_neg hg, putF_new h.2]
    rfl
theorem ds_setFld (i : Nat) {x f : Str} {c : Addr} (cl : Cls K c) (no : NoAttr K c f) (h : DE X K e te m) (hK : X.K = K := by rfl) (hN : X.N[i]? = some x := by rfl) (hv : Vis X.env.scope x := by first | exact Or.inl rfl | exact Or.inr (Or.inl rfl) | exact Or.inr (Or.inr rfl)) (hd : (x == ("__debug__" : Str)) = false := by decide)
    (hcd : (x == ("__classdict__" : Str)) = false := by decide) (hs : swapsWith e (some (.Attribute (.Name x p) f pos')) pos.line X.env = pure false := by rfl) :
    DS X K (.Assign [.Attribute (.Name x p) f pos'] e pos) (sFld K (tVar i) te f) (setFldM i c f m) := by
  subst hK
  refine ⟨ps_fld (pe_var hN hv hd hcd) h.p hs, fun G0 H0 env σ H G o Dn r g e f' => ?_⟩
  unfold setFldM at e
  split at e
  · rename_i d e1
    split at e
    · rename_i r0 e2
      split at e
      · rename_i hc
        cases e
        obtain ⟨q, c0, xs, ds⟩ := r0
        obtain ⟨hc1, hc2, hc3⟩ := hc
        have hc1 : c0 = c := hc1
        subst hc1
        have he := owniAt_some e2
        refine h.d H0 env σ H G d _ r e1 fun y G1 H1 g1 i1 => ?_
        have r1 := r.go g1
        obtain ⟨v, hσ, dx, fs, rfl, a2, a3, a4, a5, a6⟩ := r1.sl i _ he
        have a2 : H0 q = none := a2
        have a3 : G1 q = none := a3
        have a4 : H1 q = some (.ins c0 dx fs) := a4
        have a5 : fs.map (·.1) = xs := a5
        have hp : putF f y fs = fs ++ [(f, y)] := putF_new (by rw [a5]; exact hc2)
        refine ⟨_, hσ, q, c0, dx, fs, rfl, a4, cl, no, ?_, ?_⟩
        · have : fs.length = xs.length := by rw [← a5, List.length_map]
          rw [this]
          exact Nat.lt_trans hc3 (by decide)
        · rw [hp]
          refine f' σ G1 _ (r1.mut he hσ rfl rfl a3 ⟨dx, _, rfl, a2, a3, upd_same, ?_, ?_⟩) ((g.trans g1).mut a3 a2 a4 ins_pl) g1.g
          · rw [List.map_append, a5]; rfl
          · rw [List.map_append]
            exact a6.append (.cons i1 .nil)
      · cases e
    · cases e
  · cases e
end
/-! ### an __init__'s rule -/
noncomputable def allP (g : Addr → Option (List Str × List D)) : Option (List Str × List D) := open Classical in if h : ∃ r, ∀ p, g p = some r then some h.choose else none
theorem allP_some {g : Addr → Option (List Str × List D)} {r : List Str × List D} (h : ∀ p, g p = some r) : allP g = some r := by
  have hx : ∃ r, ∀ p, g p = some r := ⟨r, h⟩
  unfold allP
  rw [dif_pos hx]
  have := hx.choose_spec 0
  rw [h 0] at this
  exact this.symm
theorem allP_elim {g : Addr → Option (List Str × List D)} {r : List Str × List D} (h : allP g = some r) (p : Addr) : g p = some r := by
  unfold allP at h
  split at h
  · rename_i hx
    cases h
    exact hx.choose_spec p
  · cases h
/-- what the __init__ gives to the instance at p -/
def initP (c : Addr) (np n : Nat) (m : En → Option Out) (ds : List D) (p : Addr) : Option (List Str × List D) := if ds.length + 1 = np then (match m (some (.owni p c [] []) :: (ds.map (fun d => some (Sl.val d)) ++ List.replicate (n - (ds.length + 1)) none)) with
  | some (.nx env) => (match owniAt 0 env with
    | some r => if r.1 = p ∧ r.2.1 = c then some r.2.2 else none
    | none => none)
  | _ => none) else none
/-- .. wherever it stands -/
noncomputable def initM (c : Addr) (np n : Nat) (m : En → Option Out) (ds : List D) : Option (List Str × List D) := allP (initP c np n m ds)
theorem initM_len {c : Addr} {np n : Nat} {m : En → Option Out} {ds : List D} {r : List Str × List D} (h : initM c np n m ds = some r) : ds.length + 1 = np := by
  have h := allP_elim h 0
  unfold initP at h
  split at h
  · assumption
  · cases h
section
variable {P : Program} {w : World} {K : PySem.W.Frag} {mg : Str → Option Value} {base : Heap}
theorem start_rpI {c x dx : Addr} {H0 G H : Hp} {N : List Str} {ws : List V} {ds : List D} (gh : Same G H) (gt : LamX.Tabs TbA.T H) (gn : NoTb G) (h : IsL K G ws ds) (gx : G x = none) (hx : H0 x = none) (e : H x = some (.ins c dx [])) : Rp K H0 G (some (.owni x c [] []) :: (ds.map (fun d => some (Sl.val d)) ++ List.replicate (N.length - (ds.length + 1)) none)) (L2.start N (.ref x :: ws)) H := by
  have r : Rp K H0 G (ds.map (fun d => some (Sl.val d)) ++ List.replicate (N.tail.length - ds.length) none) (L2.start N.tail ws) H := start_rp gh gt gn h
  have hl := h.len
  have et : N.tail.length - ds.length = N.length - (ds.length + 1) := by rw [List.length_tail]; omega
  have es : L2.start N (.ref x :: ws) = some (.ref x) :: L2.start N.tail ws := by
    unfold L2.start
    rw [List.map_cons, List.cons_append, List.length_cons, List.length_tail, Nat.sub_sub, Nat.add_comm 1]
  rw [et] at r
  rw [es]
  have noown : ∀ (i : Nat) (s : Sl), (ds.map (fun d => some (Sl.val d)) ++ List.replicate (N.length - (ds.length + 1)) none)[i]? = some (some s) → s.isOwn = false := fun i s e => by
    by_cases hi : i < ds.length
    · rw [List.getElem?_append_left (by rw [List.length_map]; exact hi), List.getElem?_map, List.getElem?_eq_getElem hi] at e
      cases e
      rfl
    · rw [List.getElem?_append_right (by rw [List.length_map]; omega)] at e
      have := List.getElem?_replicate (n := N.length - (ds.length + 1)) (a := (none : Option Sl)) (i := i - (ds.map (fun d => some (Sl.val d))).length)
      rw [this] at e
      split at e <;> cases e
  refine ⟨gh, gt, gn, ?_, fun i s ei => ?_, fun i j s t v hij ei ej oi oj => ?_⟩
  · rw [List.length_cons, List.length_cons, r.len]
  · cases i with
    | zero =>
      cases ei
      exact ⟨_, rfl, dx, [], rfl, hx, gx, e, rfl, .nil⟩
    | succ i => exact r.sl i s ei
  · cases i with
    | zero =>
      cases j with
      | zero => exact absurd rfl hij
      | succ j =>
        have := noown j t ej
        rw [this] at oj
        cases oj
    | succ i =>
      have := noown i s ei
      rw [this] at oi
      cases oi
theorem init_ok {x qual : Str} {st : Stmt} {f c : Addr} {fd : FuncData} {N ps : List Str} {k : Nat} {t : TS} {m : En → Option Out} (F : Fun K x qual st f fd) (S : FnScope N ps (defScope st))
    (h : ∀ (cdv : Value) (A : Around) (outer : List Env) (s : Shared) (H : Hp) (E : XK), RoomG k (A.deeper (envOfC qual (defScope st) s.heap.objs.size f cdv)) → DSs (cxOf CX0 P w K mg base N qual (defScope st) f cdv A outer s H E).nox K (defBody st) t m) :
    FnG P w K mg base CX0 (k + 1) f fd ps (spI K c (initM c ps.length N.length m)) := by
  refine okG F S (fun vs H Q E hs => ?_) (fun cdv A outer s H vs Q E hr hs => ?_)
  · obtain ⟨G, Hb, x, dx, ws, ds, r, rfl, _, _, _, _, _, i, e, _⟩ := hs
    rw [List.length_cons, i.len]
    exact initM_len e
  · obtain ⟨G, Hb, x, dx, ws, ds, r, rfl, nex, nx, ndx, eH, ⟨gh, gt, gn⟩, i, e, q⟩ := hs
    have D := h cdv A outer s H E hr
    subst eH
    refine ⟨_, D.p, ?_⟩
    have hlen := initM_len e
    have e := allP_elim e x
    unfold initP at e
    rw [if_pos hlen] at e
    split at e
    · rename_i env e1
      split at e
      · rename_i r0 e2
        split at e
        · rename_i hc
          cases e
          have gx : G x = none := gh.free nx
          have gdx : G dx = none := gh.free ndx
          have gh2 : Same G (upd (upd Hb dx (.own x)) x (.ins c dx [])) := fun a u ea => by
            rw [upd_ne (ne_of_none ea gx), upd_ne (ne_of_none ea gdx)]
            exact gh a u ea
          have nx2 : upd Hb dx (.own x) x = none := by rw [upd_ne (Ne.symm nex)]; exact nx
          have g0 : Go G Hb G (upd (upd Hb dx (.own x)) x (.ins c dx [])) := ((Go.refl gh).fresh ndx).fresh nx2
          refine D.d G Hb _ _ _ G _ _ (start_rpI gh2 (g0.tb gt) gn i gx nx upd_same) g0 e1 ?_
          intro σ' G' H' r' g' _
          have he := owniAt_some e2
          obtain ⟨G2, r2, g2, s2⟩ := r'.fz 0 g'
          have hlt : 0 < env.length := (List.getElem?_eq_some_iff.mp he).1
          obtain ⟨v, h1, dx', fs', h2, _⟩ := r'.sl 0 _ he
          obtain ⟨v2, h3, h4⟩ := r2.sl 0 (.val (.obj r0.2.1 r0.2.2.1 r0.2.2.2)) (by
            unfold frzAt
            rw [List.getElem?_set_self hlt, he]
            rfl)
          rw [h3] at h1
          cases h1
          obtain ⟨c1, c2⟩ := hc
          refine q G2 H' g2 ?_
          rw [← c1, ← c2, ← h2]
          exact h4
        · cases e
      · cases e
    · cases e
end
end Dl

set_option Elab.async false
set_option linter.all false
set_option maxRecDepth 100000
set_option maxHeartbeats 2000000
/-! Values as data: chains of comparisons, the truth of rows, join, insert. -/
namespace Dl
open PySem PySem.Spec PyProof.Rows L2
variable [TbA]
section
variable {X : Cx} {K : PySem.W.Frag} {a b c e o : Expr} {ta tb tc te to ti : TE} {pos apos cpos : Pos} {ma mb mc m mi : En → Option D}
/-! ### a < b < c -/
theorem td_chain {r r' : R2} {f g : D → D → Option D} (hr : RO K r f) (hr' : RO K r' g) (ha : TR K ta ma) (hb : TD K tb mb) (hc : TR K tc mc) : TD K (tChain r r' ta tb tc) (chainM ma mb mc f g) := fun H0 env σ H G z Q rp e q => by
  obtain ⟨d, e1, e⟩ := bind_some_of e
  obtain ⟨d2, e2, e⟩ := bind_some_of e
  obtain ⟨d3, e3, e⟩ := bind_some_of e
  refine ha H0 env σ H G d _ rp e1 fun v G1 H1 g1 i1 => ?_
  refine hb H0 env σ H1 G1 d2 _ (rp.go g1) e2 fun w G2 H2 g2 i2 => ?_
  refine hr G2 H2 v w d d2 d3 _ g2.gh (i1.go g2) (.is i2) e3 fun u G3 H3 g3 i3 => ?_
  split at e
  · cases i3
    refine ⟨true, rfl, ?_⟩
    rw [if_pos rfl]
    obtain ⟨d4, e4, e5⟩ := bind_some_of e
    have g13 := (g1.trans g2).trans g3
    refine hc H0 env σ H3 G3 d4 _ (rp.go g13) e4 fun y G4 H4 g4 i4 => ?_
    exact hr' G4 H4 w y d2 d4 z Q g4.gh ((IsR.is i2).go (g3.trans g4)) i4 e5 fun u5 G5 H5 g5 i5 => q u5 G5 H5 ((g13.trans g4).trans g5) i5
  · cases i3
    cases e
    refine ⟨false, rfl, ?_⟩
    rw [if_neg (by decide)]
    exact q _ G3 H3 ((g1.trans g2).trans g3) (.bl false)
  · cases e
theorem de_chain {op op' : CmpOp} {r r' : R2} {f g : D → D → Option D} (ho : OpR X (compareOp op) r) (hr : RO K r f) (ho' : OpR X (compareOp op') r') (hr' : RO K r' g) (ha : DR X K a ta ma) (hb : DE X K b tb mb) (hc : DR X K c tc mc)
    (hm : lastMarks [op, op'] [b, c] = false := by with_unfolding_all rfl) : DE X K (.Compare a [op, op'] [b, c] pos) (tChain r r' ta tb tc) (chainM ma mb mc f g) := ⟨pe_chain ho ho' ha.p hb.p hc.p hm, td_chain hr hr' ha.d hb.d hc.d⟩
theorem dt_chain {op op' : CmpOp} {r r' : R2} {f g : D → D → Option D} (ho : OpR X (compareOp op) r) (hr : RO K r f) (ho' : OpR X (compareOp op') r') (hr' : RO K r' g) (ha : DR X K a ta ma) (hb : DE X K b tb mb) (hc : DR X K c tc mc)
    (hm : lastMarks [op, op'] [b, c] = false := by with_unfolding_all rfl) : DT X K (.Compare a [op, op'] [b, c] pos) (tTest (tChain r r' ta tb tc)) (boolM (chainM ma mb mc f g)) := ⟨pt_chain ho ho' ha.p hb.p hc.p hm, tb_test (td_chain hr hr' ha.d hb.d hc.d)⟩
/-! ### truth -/
def truD : D → Option Bool
  | .bl b => some b
  | .int i => some (i != 0)
  | .lst ds => some (!ds.isEmpty)
  | .tup ds => some (!ds.isEmpty)
  | .scr ds => some (!ds.isEmpty)
  | .dic ks _ => some (!ks.isEmpty)
  | .non => some false
  | .str s => if s.length ≤ 100000 then some ((s.length : Int) != 0) else none
  | .obj _ _ _ => none
def truM (m : En → Option D) (env : En) : Option Bool := match m env with
  | some d => truD d
  | none => none
theorem isEmpty_len {α β : Type} {xs : List α} {ys : List β} (h : xs.length = ys.length) : xs.isEmpty = ys.isEmpty := by
  cases xs with
  | nil => cases ys with
    | nil => rfl
    | cons _ _ => cases h
  | cons _ _ => cases ys with
    | nil => cases h
    | cons _ _ => rfl
theorem tru_is {G H : Hp} {v : V} {d : D} {k : Bool} (gh : Same G H) (h : IsR K G H v d) (e : truD d = some k) : TruV K v H k := by
  cases d with
  | non => cases h.non; cases e; rfl
  | bl b => cases h.bl; cases e; rfl
  | int i => cases h.int; cases e; rfl
  | str s =>
    cases h.str
    have e : (if s.length ≤ 100000 then some ((s.length : Int) != 0) else none) = some k := e
    split at e
    · rename_i hz
      cases e
      exact ⟨sz5 hz, rfl⟩
    · cases e
  | tup ds =>
    obtain ⟨p, vs, rfl, _, s, i⟩ := h.tup gh
    cases e
    exact .inr (.inl ⟨vs, s, by rw [isEmpty_len i.len]⟩)
  | lst ds =>
    obtain ⟨p, vs, rfl, s, i⟩ := h.lst gh
    cases e
    exact .inl ⟨vs, SqL.of s, by rw [isEmpty_len i.len]⟩
  | scr ds =>
    obtain ⟨p, vs, rfl, s, i⟩ := h.scr gh
    cases e
    exact .inl ⟨vs, s, by rw [isEmpty_len i.len]⟩
  | dic ks ds =>
    obtain ⟨p, kvs, rfl, s, hk, i⟩ := h.dic gh
    cases e
    refine .inr (.inr ⟨kvs, s, ?_⟩)
    rw [← hk, isEmpty_len (xs := kvs.map (·.1)) (ys := kvs) (by rw [List.length_map])]
  | obj c xs ds => cases e
theorem dt_tru (h : DR X K a ta m) (hK : X.K = K := by rfl) (he : ∀ whole, isTrue a X.env whole = (do let v ← whole; standAt a.pos; holding [v] (truthy v)) := by intro _; rfl) : DT X K a (fun σ H Q => ta σ H fun x H' => ∃ k, TruV K x H' k ∧ Q k H') (truM m) := by
  subst hK
  refine ⟨pt_truth h.p he, fun H0 env σ H G b Q r e q => ?_⟩
  unfold truM at e
  split at e
  · rename_i d e1
    exact h.d H0 env σ H G d _ r e1 fun v G1 H1 g1 i1 => ⟨b, tru_is g1.gh i1 e, q G1 H1 g1⟩
  · cases e
/-! ### s.join(e) -/
def strL : List D → Option (List Str)
  | [] => some []
  | .str s :: ds => (strL ds).bind fun r => some (s :: r)
  | _ => none
theorem strL_is {G : Hp} : ∀ {vs : List V} {ds : List D} {ys : List Str}, IsL K G vs ds → strL ds = some ys → vs = ys.map V.str
  | _, _, _, .nil, e => by cases e; rfl
  | _, _, ys, .cons h r, e => by
    rename_i v vs d ds
    cases d with
    | str s =>
      cases h
      obtain ⟨zs, e1, e2⟩ := bind_some_of e
      cases e2
      rw [List.map_cons, strL_is r e1]
    | _ => cases e
def joinD (s d : D) : Option D := match s, d with
  | .str a, .lst ds => (strL ds).bind fun ys => if (ys.map (·.length)).sum + ys.length * a.length ≤ 16000000 then some (.str (Txt.join a ys)) else none
  | .str a, .tup ds => (strL ds).bind fun ys => if (ys.map (·.length)).sum + ys.length * a.length ≤ 16000000 then some (.str (Txt.join a ys)) else none
  | _, _ => none
theorem de_join (ho : DE X K o to mb) (h : DR X K e te m) (hK : X.K = K := by rfl) (hs : starEach [e] X.env = [(false, eval e X.env)] := by rfl) (hbase : attributeBase o "join" X.env (eval o X.env) = eval o X.env := by rfl) (hline : (apos.endLine == pos.line) = true := by rfl) :
    DE X K (.Call (.Attribute o "join" apos) [e] [] pos) (tM1 (fun x xs H Q => ∃ a p, ∃ ys : List Str, x = .str a ∧ xs = [.ref p] ∧ (SqL K H p (ys.map V.str) ∨ SqT K H p (ys.map V.str)) ∧
      (ys.map (·.length)).sum + ys.length * a.length ≤ 16777216 ∧ Q (.str (Txt.join a ys)) H) to te) (bind2 mb m joinD) := by
  subst hK
  refine ⟨pe_join ho.p h.p hs hbase hline, fun H0 env σ H G z Q rp e q => ?_⟩
  obtain ⟨d, d2, e1, e2, e3⟩ := bind2_some e
  refine ho.d H0 env σ H G d _ rp e1 fun v G1 H1 g1 i1 => ?_
  unfold joinD at e3
  split at e3
  · rename_i a ds
    cases i1
    obtain ⟨ys, e4, e5⟩ := bind_some_of e3
    split at e5
    · rename_i hz
      cases e5
      refine ⟨⟨_, rfl⟩, ?_⟩
      refine h.d H0 env σ H1 G1 _ _ (rp.go g1) e2 fun w G2 H2 g2 i2 => ?_
      obtain ⟨p, vs, rfl, s, i⟩ := i2.lst g2.gh
      have := strL_is i e4
      subst this
      exact ⟨_, p, ys, rfl, rfl, .inl (SqL.of s), Nat.le_trans hz (by decide), q _ G2 H2 (g1.trans g2) (.str _)⟩
    · cases e5
  · rename_i a ds
    cases i1
    obtain ⟨ys, e4, e5⟩ := bind_some_of e3
    split at e5
    · rename_i hz
      cases e5
      refine ⟨⟨_, rfl⟩, ?_⟩
      refine h.d H0 env σ H1 G1 _ _ (rp.go g1) e2 fun w G2 H2 g2 i2 => ?_
      obtain ⟨p, vs, rfl, _, s, i⟩ := i2.tup g2.gh
      have := strL_is i e4
      subst this
      exact ⟨_, p, ys, rfl, rfl, .inr s, Nat.le_trans hz (by decide), q _ G2 H2 (g1.trans g2) (.str _)⟩
    · cases e5
  · cases e3
/-! ### x.insert(i, e) -/
def insM (i : Nat) (mi m : En → Option D) (env : En) : Option Out := match mi env with
  | some (.int k) => (match m env with
    | some d => (match ownAt i env with
      | some ds => if 0 ≤ k ∧ k ≤ 1000000 ∧ ds.length < 100000 then some (.nx (env.set i (some (.own (ds.take k.toNat ++ [d] ++ ds.drop k.toNat))))) else none
      | none => none)
    | none => none)
  | _ => none
theorem ds_insert (i : Nat) {x : Str} {p : Pos} (hi : DE X K a ti mi) (h : DE X K e te m) (hK : X.K = K := by rfl) (hN : X.N[i]? = some x := by rfl) (hv : Vis X.env.scope x := by first | exact Or.inl rfl | exact Or.inr (Or.inl rfl) | exact Or.inr (Or.inr rfl)) (hd : (x == ("__debug__" : Str)) = false := by decide) (hcd : (x == ("__classdict__" : Str)) = false := by decide)
    (hbase : attributeBase (.Name x p) "insert" X.env (eval (.Name x p) X.env) = eval (.Name x p) X.env := by rfl)
    (hfew : ((backTo cpos (starEach (a :: [e]) X.env)).all (fun x => !x.1) && (backToKw cpos (keywordEach [] X.env)).all (fun x => x.1.isSome) && decide ((a :: [e]).length + ([] : List Keyword).length + (if ([] : List Keyword).isEmpty then 0 else 1) < 30)) = true := by rfl)
    (hline : (apos.endLine == cpos.line) = true := by rfl) (hst : starEach (a :: [e]) X.env = (false, eval a X.env) :: starEach [e] X.env := by rfl) (hst2 : starEach (e :: []) X.env = (false, eval e X.env) :: starEach [] X.env := by rfl) (hplain : (backTo cpos (starEach [e] X.env)).any (·.1) = false := by rfl)
    (hs : swapsWith (.Call (.Attribute (.Name x p) "insert" apos) [a, e] [] cpos) none pos.line X.env = pure false := by rfl) :
    DS X K (.Expr (.Call (.Attribute (.Name x p) "insert" apos) [a, e] [] cpos) pos) (tDrop (tBM K "list" (fun x vs H Q => ∃ (l : Addr) (xs : List V) (i : Int) (y : V), x = .ref l ∧ vs = [.int i, y] ∧ H l = some (.lst xs) ∧ xs.length < sizeLine ∧ 0 ≤ i ∧ i < 2 ^ 63 ∧
    Q .non (upd H l (.lst (xs.take i.toNat ++ [y] ++ xs.drop i.toNat)))) (tVar i) (tCons ti (tCons te tNil)))) (insM i mi m) := by
  subst hK
  refine ⟨ps_expr (pe_bm PySem.F.plainAttrs_list PySem.F.slot_list_insert PySem.F.type_list_insert mt_insert (pe_var hN hv hd hcd) (pa_cons hi.p (pa_cons h.p pa_nil hst2) hst) hbase hfew hline hst hplain) hs, fun G0 H0 env σ H G o Dn r g e f => ?_⟩
  unfold insM at e
  split at e
  · rename_i k e1
    split at e
    · rename_i d e2
      split at e
      · rename_i ds e3
        split at e
        · rename_i hz
          cases e
          have he := ownAt_some e3
          obtain ⟨v, hσ, p, vs, rfl, a2, a3, a4, a5⟩ := r.sl i _ he
          refine ⟨_, hσ, .inl ⟨rfl, vs, SqL.of a4⟩, ?_⟩
          refine hi.d H0 env σ H G _ _ r e1 fun y G1 H1 g1 i1 => ?_
          cases i1
          refine h.d H0 env σ H1 G1 d _ (r.go g1) e2 fun y G2 H2 g2 i2 => ?_
          obtain ⟨n1, q1⟩ := (g1.trans g2).out p _ a3 a4 (by first | exact lst_nt | exact dK_nt | exact ins_nt)
          refine ⟨p, vs, k, y, rfl, rfl, q1, ?_, hz.1, by omega, ?_⟩
          · rw [a5.len]; exact Nat.lt_of_lt_of_le hz.2.2 (by decide)
          · have a6 := a5.mono (g1.trans g2).g
            exact f σ G2 _ ((r.go (g1.trans g2)).mut he hσ rfl rfl n1 ⟨p, _, rfl, a2, n1, upd_same, ((a6.take k.toNat).append (.cons i2 .nil)).append (a6.drop k.toNat)⟩) ((g.trans (g1.trans g2)).mut n1 a2 q1 (by first | exact lst_pl | exact dK_pl | exact ins_pl)) (g1.trans g2).g
        · cases e
      · cases e
    · cases e
  · cases e
end
end Dl

set_option Elab.async false
set_option linter.all false
set_option maxRecDepth 100000
set_option maxHeartbeats 2000000
/-! Values as data: f-strings. -/
namespace Dl
open PySem PySem.Spec PyProof.Rows L2
variable [TbA]
section
variable {X : Cx} {K : PySem.W.Frag} {e : Expr} {es : List Expr} {te : TE} {ts : List TE} {pos p1 p2 : Pos} {m : En → Option D}
/-- an int below 100 as two signs -/
def two (i : Int) : Str := if decide (i < 10) = true then (⟨#[48]⟩ : Str) ++ Str.ofString (toString i) else Str.ofString (toString i)
def t02 (te : TE) : TE := fun σ H Q => te σ H fun x H1 => ∃ i : Int, x = .int i ∧ 0 ≤ i ∧ i < 100 ∧ Q (.str (two i)) H1
theorem ns_none {K : PySem.W.Frag} {h : Heap} {a : Addr} {mc : Str → Option Value} {n : Str} (X : K.In h) (G : h.Ns a mc) (e : PySem.W.nsIn K a n = some none) : mc n = none := by
  unfold PySem.W.nsIn at e
  split at e
  · rename_i cls dict es ep slots hl
    split at e
    · cases e
    · rename_i hf
      obtain ⟨o, es2, ep2, h1, h2, h3, h4⟩ := G
      have h5 := X _ _ hl
      rw [h1] at h5
      cases h5
      cases h2
      rw [← h4]
      have hf2 : (es.find? fun x => x.key.isStr n) = none := by
        rw [← hf]
        cases es
        rw [List.find?_toArray]
      show (es.find? fun x => x.key.isStr n).map (·.val) = none
      rw [hf2]
      rfl
  · cases e
/-- no limit of digits is set -/
def NoDg (K : PySem.W.Frag) : Prop := PySem.W.nsIn K cStatics "sys.int_max_str_digits" = some none
theorem nodigits {pins : List (Addr × Obj)} {σ : L2.St} {H : Hp} {s : Shared} (I : L2.Inv X pins σ H s) (z : NoDg X.K) : s.heap.NoDigits := by
  obtain ⟨mc, h1, _⟩ := I.nolimit
  exact ⟨mc, h1, ns_none I.kIn h1 z⟩
theorem pe_fmt02 {k} (z : NoDg X.K) (he : PE X e te) : PE X (.FormattedValue e (-1) (some (.JoinedStr [.Constant (.str "02d") k p1] p2)) pos) (t02 te) := by
  refine ⟨fun pins s σ H Q I h => ?_⟩
  refine wpAny_FormattedValue_spec (thn (he.run pins s σ H _ I h) fun v s1 ⟨x, H1, I1, r1, i, ex, h0, h1, q⟩ => ?_)
  subst ex
  obtain ⟨t, rfl⟩ := r1
  refine thn ((pe_joined1 (pe_str (x := "02d") (j := k))).run pins s1 σ H1 (fun y H2 => y = .str "02d" ∧ Q (.str (two i)) H2) I1 ⟨rfl, q⟩) fun v2 s2 ⟨y, H2, I2, r2, ey, q2⟩ => ?_
  subst ey
  obtain ⟨t2, rfl⟩ := r2
  refine ⟨"02d", t2, rfl, ?_⟩
  refine formatField_int_specOf (nodigits I2 z) (lt_digitLimit_of_lt (by omega)) (by decide +kernel) (fun W hW f => ?_) (by decide +kernel)
  have hW2 : W = 2 := hW.trans (by decide +kernel)
  have := f.pad2 (by decide +kernel) hW2 h0 h1
  rw [this]
  exact ⟨.str (two i), H2, I2.tok _, ⟨_, rfl⟩, q2⟩
/-! ### the parts -/
def fmtD : D → Option D
  | .str y => if y.length ≤ 100000 then some (.str y) else none
  | .int i => if i.natAbs.log2 < 1920 then some (.str (toString i)) else none
  | _ => none
def fmt02D : D → Option D
  | .int i => if 0 ≤ i ∧ i < 100 then some (.str (two i)) else none
  | _ => none
theorem de_fmt (h : DE X K e te m) : DE X K (.FormattedValue e (-1) none pos) (tFmt te) (fun env => (m env).bind fmtD) := by
  refine ⟨pe_fmt h.p, fun H0 env σ H G z Q r e q => ?_⟩
  obtain ⟨d, e1, e2⟩ := bind_some_of e
  refine h.d H0 env σ H G d _ r e1 fun v G1 H1 g1 i1 => ?_
  unfold fmtD at e2
  split at e2
  · cases i1
    split at e2
    · rename_i hz
      cases e2
      exact .inl ⟨_, rfl, sz5 hz, q _ G1 H1 g1 (.str _)⟩
    · cases e2
  · cases i1
    split at e2
    · rename_i hz
      cases e2
      exact .inr ⟨_, rfl, hz, q _ G1 H1 g1 (.str _)⟩
    · cases e2
  · cases e2
theorem de_fmt02 {k} (z : NoDg K) (h : DE X K e te m) (hK : X.K = K := by rfl) : DE X K (.FormattedValue e (-1) (some (.JoinedStr [.Constant (.str "02d") k p1] p2)) pos) (t02 te) (fun env => (m env).bind fmt02D) := by
  subst hK
  refine ⟨pe_fmt02 z h.p, fun H0 env σ H G z Q r e q => ?_⟩
  obtain ⟨d, e1, e2⟩ := bind_some_of e
  refine h.d H0 env σ H G d _ r e1 fun v G1 H1 g1 i1 => ?_
  unfold fmt02D at e2
  split at e2
  · cases i1
    split at e2
    · rename_i hz
      cases e2
      exact ⟨_, rfl, hz.1, hz.2, q _ G1 H1 g1 (.str _)⟩
    · cases e2
  · cases e2
/-- parts of an f-string: each a text -/
structure DJ (X : Cx) (K : PySem.W.Frag) (es : List Expr) (ts : List TE) (m : En → Option (List D)) : Prop where
  p : PJ X es ts
  d : ∀ (H0 : Hp) (env : En) (σ : L2.St) (H G : Hp) (ds : List D) (ys : List Str) (acc : Str) (Q : Str → Hp → Prop), Rp K H0 G env σ H → m env = some ds → strL ds = some ys → acc.length + (ys.map (·.length)).sum ≤ 100000 → (∀ G' H', Go G H G' H' → Q (acc ++ ys.foldr (fun a b => a ++ b) Str.empty) H') → tJs ts acc σ H Q
theorem app_empty (a : Str) : a ++ Str.empty = a := by
  have e : (a ++ Str.empty).cps = a.cps ++ Str.empty.cps := Str.cps_append a Str.empty
  have : Str.empty.cps = #[] := rfl
  rw [this, Array.append_empty] at e
  cases h : a ++ Str.empty
  cases a
  rw [h] at e
  cases e
  rfl
theorem app_assoc (a b c : Str) : a ++ b ++ c = a ++ (b ++ c) := by
  have e1 : (a ++ b ++ c).cps = (a ++ b).cps ++ c.cps := Str.cps_append _ _
  have e2 : (a ++ b).cps = a.cps ++ b.cps := Str.cps_append _ _
  have e3 : (a ++ (b ++ c)).cps = a.cps ++ (b ++ c).cps := Str.cps_append _ _
  have e4 : (b ++ c).cps = b.cps ++ c.cps := Str.cps_append _ _
  have : (a ++ b ++ c).cps = (a ++ (b ++ c)).cps := by rw [e1, e2, e3, e4, Array.append_assoc]
  cases h1 : a ++ b ++ c
  cases h2 : a ++ (b ++ c)
  rw [h1, h2] at this
  cases this
  rfl
theorem dj_nil : DJ X K [] [] (fun _ => some []) := ⟨.nil, fun H0 env σ H G ds ys acc Q r e1 e2 hz q => by
  cases e1
  cases e2
  have := q G H (Go.refl r.gh)
  rw [show ([] : List Str).foldr (fun a b => a ++ b) Str.empty = Str.empty from rfl, app_empty] at this
  exact this⟩
theorem dj_cons {ms : En → Option (List D)} (h1 : DE X K e te m) (h2 : DJ X K es ts ms) : DJ X K (e :: es) (te :: ts) (consM m ms) := by
  refine ⟨.cons h1.p h2.p, fun H0 env σ H G ds ys acc Q r e1 e2 hz q => ?_⟩
  obtain ⟨d, ds', e3, e4, rfl⟩ := consM_some e1
  cases d with
  | str y =>
    obtain ⟨zs, e5, e6⟩ := bind_some_of e2
    cases e6
    have hlen : (acc ++ y).length = acc.length + y.length := Str.length_append acc y
    rw [List.map_cons, List.sum_cons] at hz
    refine h1.d H0 env σ H G _ _ r e3 fun v G1 H1 g1 i1 => ?_
    cases i1
    refine ⟨y, rfl, ?_, ?_⟩
    · rw [hlen]; exact sz5 (by omega)
    · refine h2.d H0 env σ H1 G1 ds' zs (acc ++ y) Q (r.go g1) e4 e5 (by rw [hlen]; omega) fun G2 H2 g2 => ?_
      rw [app_assoc]
      exact q G2 H2 (g1.trans g2)
  | _ => cases e2
/-- the parts as one text -/
def catD (ds : List D) : Option D := (strL ds).bind fun ys => if (ys.map (·.length)).sum ≤ 100000 then some (.str (ys.foldr (fun a b => a ++ b) Str.empty)) else none
theorem empty_app (a : Str) : Str.empty ++ a = a := by
  have e : (Str.empty ++ a).cps = Str.empty.cps ++ a.cps := Str.cps_append Str.empty a
  have : Str.empty.cps = #[] := rfl
  rw [this, Array.empty_append] at e
  cases h : Str.empty ++ a
  cases a
  rw [h] at e
  cases e
  rfl
theorem de_joined {v1 v2 : Expr} {rest : List Expr} {ms : En → Option (List D)} (h : DJ X K (v1 :: v2 :: rest) ts ms) : DE X K (.JoinedStr (v1 :: v2 :: rest) pos) (fun σ H Q => tJs ts Str.empty σ H fun out H1 => Q (.str out) H1) (fun env => (ms env).bind catD) := by
  refine ⟨pe_joined h.p, fun H0 env σ H G z Q r e q => ?_⟩
  obtain ⟨ds, e1, e2⟩ := bind_some_of e
  obtain ⟨ys, e3, e4⟩ := bind_some_of e2
  split at e4
  · rename_i hz
    cases e4
    refine h.d H0 env σ H G ds ys Str.empty _ r e1 e3 (by show 0 + _ ≤ _; omega) fun G1 H1 g1 => ?_
    rw [empty_app]
    exact q _ G1 H1 g1 (.str _)
  · cases e4
end
end Dl

set_option Elab.async false
set_option linter.all false
set_option maxRecDepth 100000
set_option maxHeartbeats 2000000
/-! Values as data: t[:0:-1] of a tuple. -/
namespace Dl
open PySem PySem.Spec PyProof.Rows L2 HT
variable [TbA]
section
variable {prog : Program} {w : World} {A : Around} {E : Value → Shared → Prop} {s : Shared}
theorem adjust_back (n : Nat) : Builtin.Slice.sliceAdjust none (some 0) (-1) (n : Int) = ((n : Int) - 1, min 0 ((n : Int) - 1)) := by
  unfold Builtin.Slice.sliceAdjust
  simp
theorem places_back (n : Nat) : Builtin.Slice.slicePlaces ((n : Int) - 1) (min 0 ((n : Int) - 1)) (-1) = n - 1 := by
  unfold Builtin.Slice.slicePlaces
  have h1 : ¬ ((-1 : Int) > 0) := by omega
  simp only [h1, if_false]
  by_cases hn : (n : Int) - 1 > 0
  · have hm : min 0 ((n : Int) - 1) = 0 := by omega
    rw [hm, if_pos hn]
    have : -(-1 : Int) = 1 := rfl
    rw [this, Int.ediv_one]
    omega
  · have hm : min 0 ((n : Int) - 1) = (n : Int) - 1 := by omega
    rw [hm, if_neg (by omega)]
    omega
theorem fm_congr {α β : Type} {f g : α → Option β} : ∀ {l : List α}, (∀ a ∈ l, f a = g a) → l.filterMap f = l.filterMap g
  | [], _ => rfl
  | a :: l, h => by
    rw [List.filterMap_cons, List.filterMap_cons, h a (List.mem_cons_self ..), fm_congr fun b hb => h b (List.mem_cons_of_mem _ hb)]
theorem pick_back (xs : Array Value) : ((List.range (xs.size - 1)).filterMap fun (m : Nat) => xs[((xs.size : Int) - 1 + (m : Int) * (-1)).toNat]?).toArray = (xs.toList.drop 1).reverse.toArray := by
  congr 1
  obtain ⟨l⟩ := xs
  show (List.range (l.length - 1)).filterMap (fun (m : Nat) => (Array.mk l)[((l.length : Int) - 1 + (m : Int) * (-1)).toNat]?) = (l.drop 1).reverse
  have e1 : ∀ m ∈ List.range (l.length - 1), (Array.mk l)[((l.length : Int) - 1 + (m : Int) * (-1)).toNat]? = some ((l.drop 1).reverse[m]?.getD .none) := fun m hm => by
    have hm := List.mem_range.mp hm
    have hi : ((l.length : Int) - 1 + (m : Int) * (-1)).toNat = l.length - 1 - m := by omega
    rw [hi]
    have hlt : l.length - 1 - m < l.length := by omega
    have hr : m < (l.drop 1).reverse.length := by rw [List.length_reverse, List.length_drop]; exact hm
    rw [List.getElem?_eq_getElem hr, List.getElem?_toArray, List.getElem?_eq_getElem hlt]
    rw [Option.getD_some, List.getElem_reverse, List.getElem_drop]
    congr 2
    rw [List.length_drop]
    omega
  have e2 : (List.range (l.length - 1)).filterMap (fun (m : Nat) => (Array.mk l)[((l.length : Int) - 1 + (m : Int) * (-1)).toNat]?) = (List.range (l.length - 1)).filterMap fun m => some ((l.drop 1).reverse[m]?.getD .none) := fm_congr e1
  rw [e2, List.filterMap_eq_map']
  refine List.ext_getElem? fun i => ?_
  rw [List.getElem?_map]
  by_cases hi : i < l.length - 1
  · rw [List.getElem?_range hi]
    have hr : i < (l.drop 1).reverse.length := by rw [List.length_reverse, List.length_drop]; exact hi
    show some ((List.drop 1 l).reverse[i]?.getD Value.none) = (List.drop 1 l).reverse[i]?
    rw [List.getElem?_eq_getElem hr]
    rfl
  · rw [List.getElem?_eq_none (by rw [List.length_range]; omega), List.getElem?_eq_none (by rw [List.length_reverse, List.length_drop]; omega)]
    rfl
theorem applied_back {sl : Addr} {vl vu vs : Value} {n : Nat} {Q : Int × Int × Nat → Shared → Prop} (hs : s.heap.IsSliceOf sl vl vu vs) (pl : IsPart vl none) (pu : IsPart vu (some 0)) (ps : IsPart vs (some (-1)))
    (h : Q ((n : Int) - 1, -1, n - 1) s) : wpAny (model prog w) A (Builtin.Slice.sliceApplied (.ref sl) (pure (n : Int))) Q E s := by
  obtain ⟨o, ho, _, hd⟩ := hs
  have last : wpAny (model prog w) A (pure ((n : Int) - 1, (-1 : Int), Builtin.Slice.slicePlaces ((n : Int) - 1) (min 0 ((n : Int) - 1)) (-1))) Q E s := by rw [places_back]; exact wpAny_pure h
  have mid : wpAny (model prog w) A (match Builtin.Slice.sliceAdjust none (some 0) (-1) (n : Int) with | (lo, hi) => pure (lo, (-1 : Int), Builtin.Slice.slicePlaces lo hi (-1))) Q E s := by rw [adjust_back]; exact last
  unfold Builtin.Slice.sliceApplied; unfold Builtin.Slice.sliceFields
  refine wpAny_bind (wpAny_bind (wpAny_field ho hd (x := vl) rfl (wpAny_bind (wpAny_field ho hd (x := vu) rfl (wpAny_bind (wpAny_field ho hd (x := vs) rfl (wpAny_pure (wpAny_bind (slicePart_ ps ?_)))))))))
  show wpAny _ _ (if ((-1 : Int) == 0) = true then _ else _) _ _ s
  rw [if_neg (by decide)]
  exact wpAny_bind (slicePart_ pl (wpAny_bind (slicePart_ pu (wpAny_bind (wpAny_pure mid)))))
theorem item_back {t sl : Addr} {items : Array Value} {vl vu vs : Value} {Q : Value → Shared → Prop} (ht : IsTup s.heap t items) (hs : s.heap.IsSliceOf sl vl vu vs) (pl : IsPart vl none) (pu : IsPart vu (some 0)) (ps : IsPart vs (some (-1)))
    (h : Q (.ref s.heap.objs.size) { s with heap := s.heap.push { cls := .type "tuple", data := .seq (items.toList.drop 1).reverse.toArray } })
    (hz : items.size ≤ sizeLine) : wpAny (model prog w) A (getItem (.ref t) (.ref sl)) Q E s := by
  have fits : sizeOk (.seq (items.toList.drop 1).reverse.toArray) := show (items.toList.drop 1).reverse.toArray.size ≤ sizeLine by
    rw [List.size_toArray, List.length_reverse, List.length_drop, Array.length_toList]; omega
  have isSl : s.TypeIs (.ref sl) "slice" := let ⟨o, h1, h2, _⟩ := hs; ⟨o, h1, h2⟩
  unfold getItem
  try (with_reducible refine wpAny_holding ?_)
  try (refine wpAny_bind (wpAny_pure ?_))
  refine wpAny_bind (wpAny_sequenceKey ht.typeIs (by decide) (wpAny_bind (wpAny_callSpecial?_slot (name := Str.ofString "__getitem__") ht.typeIs PyProof.Rows.slot_tuple_getitem (wpAny_call_entry PyProof.Rows.slot_tuple_getitem ht.typeIs entry_tuple_getitem ?_ (args_tuple_getitem _ _)))))
  show wpAny _ _ (Builtin.Tuple.tupleItemsOf (.ref t) >>= fun _ => _) _ _ s
  refine wpAny_bind (tupleItemsOf_ ht (wpAny_bind (wpAny_typeOf isSl ?_)))
  rw [if_pos (by decide)]; refine wpAny_bind (applied_back hs pl pu ps ?_)
  have notWhole : ¬ (((items.size : Int) - 1 == 0 && (-1 : Int) == 1 && (items.size - 1) == items.size) = true) := by simp
  show wpAny _ _ (if ((items.size : Int) - 1 == 0 && (-1 : Int) == 1 && (items.size - 1) == items.size) = true then _ else _) _ _ s
  rw [if_neg notWhole, pick_back]
  have done := fun (x : Value) (s' : Shared) (hx : Q x s') => wpAny_pure (M := model prog w) (A := A) (E := E) hx
  first
    | (refine wpAny_bind (m := Builtin.Tuple.tupleExact _) (wpAny_newObj_type (wpAny_pure ⟨_, rfl, done _ _ h⟩) fits))
    | (refine wpAny_bind (m := Builtin.Tuple.tupleExact _) (wpAny_newObj_type (wpAny_bind (wpAny_pure (wpAny_pure ⟨_, rfl, done _ _ h⟩))) fits))
    | (refine wpAny_bind (wpAny_bind (m := Builtin.Tuple.tupleExact _) (wpAny_newObj_type (wpAny_pure (wpAny_pure ⟨_, rfl, done _ _ h⟩)) fits)))
    | (refine wpAny_bind (wpAny_bind (m := Builtin.Tuple.tupleExact _) (wpAny_newObj_type (wpAny_pure ⟨_, rfl, done _ _ h⟩) fits)))
end
section
variable {X : Cx} {K : PySem.W.Frag} {e : Expr} {te : TE} {m : En → Option D}
/-- t[:0:-1] of a tuple: its items but the first one, from behind -/
def tBackT (K : PySem.W.Frag) (te : TE) : TE := fun σ H Q => te σ H fun x H1 => ∃ a xs, x = .ref a ∧ SqT K H1 a xs ∧ ∀ p, H1 p = none → Q (.ref p) (upd H1 p (.tup (xs.drop 1).reverse))
theorem pe_backT {k k0 : Nat} {p0 p1 p2 p3 pos : Pos} (he : PE X e te) : PE X (.Subscript e (.Slice none (some (.Constant (.int 0) k0 p0)) (some (.UnaryOp .USub (.Constant (.int 1) k p1) p2)) p3) pos) (tBackT X.K te) := by
  refine ⟨fun pins s σ H Q I h => Subscript_ (thn (he.run pins s σ H _ I h) fun v s1 ⟨x, H1, I1, r1, a, xs, ex, hx, q⟩ => ?_)⟩
  subst ex
  cases r1
  have hhi : PO X (some (.Constant (.int 0) k0 p0)) (tPart (tC (.int 0))) := po_some pe_int
  have back : PO X (some (.UnaryOp .USub (.Constant (.int 1) k p1) p2)) (tPart (tUn (rU fun i => .int (-i)) (tC (.int 1)))) := po_some (pe_un un_neg pe_int)
  refine wpAny_Slice (thn (po_none.run pins s1 σ H1 (fun part Hz => part = none ∧ Hz = H1) I1 ⟨rfl, rfl⟩) fun vl s2 ⟨low, H2, I2, pl, el, e2⟩ => ?_)
  subst el e2
  refine thn (hhi.run pins s2 σ H2 (fun o H3 => o = some 0 ∧ H3 = H2) I2 ⟨0, rfl, rfl, rfl⟩) fun vu s3 ⟨u, H3, I3, pu, eu, e3⟩ => ?_
  subst eu e3
  refine thn (back.run pins s3 σ H3 (fun part Hz => part = some (-1) ∧ Hz = H3) I3 ⟨1, rfl, -1, rfl, rfl, rfl⟩) fun vs s4 ⟨o, H4, I4, ps, eo, e4⟩ => ?_
  subst eo e4
  have I5 : L2.Inv X pins σ H4 { s4 with heap := s4.heap.push { cls := .type "slice", data := .fields #[vl, vu, vs] } } := I4.kept (t' := s4.toks) fun b ob q => Heap.get?_push_of_some _ q
  obtain ⟨its, r, ht, hz⟩ := I5.tuple hx
  have hlen := r.length
  refine tail_any (ops := [.ref a, .ref s4.heap.objs.size]) ht.typeIs (PyProof.Rows.slot_tuple_getitem.lookup) ?_ (by with_unfolding_all rfl)
  refine item_back ht (Heap.IsSliceOf.new _ vl vu vs) pl pu ps ?_ (by rw [List.size_toArray]; omega)
  have hz2 : (xs.drop 1).reverse.length ≤ sizeLine := by rw [List.length_reverse, List.length_drop]; omega
  have r2 : Vals (xs.drop 1).reverse (its.drop 1).reverse := (r.drop 1).reverse
  refine ⟨.ref _, _, I5.laid (t' := s4.toks) (o := .tup (xs.drop 1).reverse) (fun b ob q => Heap.get?_push_of_some _ q) (Nat.le_refl _) ?_, rfl, q _ (I5.hok.fresh (Nat.le_refl _))⟩
  exact ⟨hz2, _, r2, _, Heap.get?_push_size _ rfl, rfl, _, rfl⟩
def backTD : D → Option D
  | .tup ds => some (.tup (ds.drop 1).reverse)
  | _ => none
theorem de_backT {k k0 : Nat} {p0 p1 p2 p3 pos : Pos} (h : DR X K e te m) (hK : X.K = K := by rfl) : DE X K (.Subscript e (.Slice none (some (.Constant (.int 0) k0 p0)) (some (.UnaryOp .USub (.Constant (.int 1) k p1) p2)) p3) pos) (tBackT K te) (fun env => (m env).bind backTD) := by
  subst hK
  refine ⟨pe_backT h.p, fun H0 env σ H G z Q r e q => ?_⟩
  obtain ⟨d, e1, e2⟩ := bind_some_of e
  unfold backTD at e2
  split at e2
  · rename_i ds
    cases e2
    refine h.d H0 env σ H G _ _ r e1 fun v G1 H1 g1 i1 => ?_
    obtain ⟨p, vs, rfl, s1, s, i⟩ := i1.tup g1.gh
    exact ⟨p, vs, rfl, s, fun a ha => q _ _ _ (g1.trans (Go.new g1.gh ha)) (.tup (SqT.of upd_same) (((i.drop 1).reverse).mono (same_upd (g1.gh.free ha))))⟩
  · cases e2
end
end Dl

set_option Elab.async false
set_option linter.all false
set_option maxRecDepth 100000
set_option maxHeartbeats 2000000
/-! Values as data: sorted by a lambda's keys. -/
namespace Dl
open PySem PySem.Spec PyProof.Rows L2
variable [TbA]
/-! ### a sort by keys whose calls are known only by what they keep (J) -/
section
open PySem.W
variable {prog : Program} {w : World} {A : Around} {E : Value → Shared → Prop} {s : Shared} {a kS : Addr} {b : Bool} {vs : List Value} {e1 : Nat} {P : PySem.Fin → Shared → Prop} {kz : List PyData}
/-- between two calls: J, the keys so far, the emptied list -/
structure KeySt (J : Shared → Prop) (kS a : Addr) (e1 : Nat) (ks : List PyData) (t : Shared) : Prop where
  inv : J t
  own : ∃ (xs : Array Value) (e : Nat), t.heap.get? kS = some (seqObj "list" xs e) ∧ EachIs (fun v k => ∀ h, Reads h v k []) xs.toList ks
  bare : t.heap.get? a = some (seqObj "list" #[] e1)
/-- what a call of the key gives and keeps -/
def KeyCall (prog : Program) (w : World) (A : Around) (J : Shared → Prop) (kS a : Addr) (f v : Value) (k : PyData) : Prop :=
  ∀ (t : Shared) (ok oa : Obj), J t → t.heap.get? kS = some ok → t.heap.get? a = some oa → wpAny (model prog w) A (call f [v]) (fun u t' => J t' ∧ t'.heap.get? kS = some ok ∧ t'.heap.get? a = some oa ∧ ∀ h, Reads h u k []) (fun _ _ => False) t
theorem KeySt.start {J : Shared → Prop} (j0 : J s) (nk : s.heap.get? kS = some (seqObj "list" #[] 0)) (na : s.heap.get? a = some (seqObj "list" #[] e1)) : KeySt J kS a e1 (kz.take 0) s :=
  ⟨j0, ⟨#[], 0, nk, List.take_zero (l := kz) ▸ EachIs.nil⟩, na⟩
theorem KeySt.push {J : Shared → Prop} {ks : List PyData} {t : Shared} {xs : Array Value} {e : Nat} {v : Value} {k : PyData} (hne : kS ≠ a) (chg : ∀ (t : Shared) (ok : Obj) (g : Obj → Obj), J t → t.heap.get? kS = some ok → J { t with heap := t.heap.update kS g })
    (hJ : J t) (hk : t.heap.get? kS = some (seqObj "list" xs e)) (hs : EachIs (fun v k => ∀ h, Reads h v k []) xs.toList ks) (ha : t.heap.get? a = some (seqObj "list" #[] e1)) (hr : ∀ h, Reads h v k []) :
    KeySt J kS a e1 (ks ++ [k]) { t with heap := t.heap.update kS (Obj.mapSeq (·.push v)) } :=
  ⟨chg t _ _ hJ hk, ⟨xs.push v, _, get?_update_seq hk (·.push v), by
    have more : (xs.push v).toList = xs.toList ++ [v] := by simp
    rw [more]
    exact each_snoc (R := fun (u : Value) (d : PyData) => ∀ h, Reads h u d []) hr hs⟩, ((Heap.SameBut.update t.heap kS _).2 a hne.symm).trans ha⟩
theorem kx_rest {J : Shared → Prop} {f : Value} (S0 : KeySt J kS a e1 (kz.take 0) s) (hka : kS ≠ a) (hlen : kz.length = vs.length) (hZ : vs.length ≤ sizeLine)
    (hal : AllAlike kz) (hsk : Sortable kz) (hu : ∀ d, d ∈ kz → A.units + d.depth < cLine) (turn : ∀ (i : Nat) (v : Value) (k : PyData), vs[i]? = some v → kz[i]? = some k → KeyCall prog w A J kS a f v k)
    (chg : ∀ (t : Shared) (ok : Obj) (g : Obj → Obj), J t → t.heap.get? kS = some ok → J { t with heap := t.heap.update kS g })
    (fin : ∀ (t : Shared) (h' : Heap) (tk : Nat) (out : List Value) (c : Nat), J t → (∀ d o, d ≠ a → d ≠ kS → t.heap.get? d = some o → h'.get? d = some o) → h'.get? a = some (seqObj "list" out.toArray c) → KeyedOut b kz vs out → P (.done (.ret .none)) { t with heap := h', toks := tk }) : wpAny (model prog w) A (ksk_rest a f b vs.toArray e1 (.ref kS)) P E s := by
  have few : ∀ {j : Nat} {xs : Array Value}, EachIs (fun v k => ∀ h, Reads h v k []) xs.toList (kz.take j) → xs.size ≤ vs.length := fun {j xs} q => by
    have := q.length
    simp only [Array.length_toList, List.length_take] at this
    omega
  unfold ksk_rest
  apply wpAny_bind
  apply wpAny_rule
  rw [← Array.forIn_toList]
  simp only [List.toList_toArray]
  apply wpAny_bind
  refine ksk_fold (fun i t => KeySt J kS a e1 (kz.take i) t) vs 0 s S0 ?go ?stop
  case go =>
    intro j x t hx S
    rw [Nat.zero_add] at S ⊢
    have lt : j < kz.length := by rw [hlen]; exact (List.getElem?_eq_some_iff.mp hx).1
    have hkj : kz[j]? = some kz[j] := List.getElem?_eq_getElem lt
    obtain ⟨xs, e, hk1, hs⟩ := S.own
    have room := Nat.le_trans (few hs) hZ
    apply wpAny_bind
    apply wpAny_attempt
    refine wpAny_mono (turn j x _ hx hkj t _ _ S.inv hk1 S.bare) (fun v t2 ⟨hJ2, hk2, ha2, hr⟩ => ?_) fun _ _ z => z.elim
    have S2 := KeySt.push hka chg hJ2 hk2 hs ha2 hr
    have grown : kz.take (j + 1) = kz.take j ++ [kz[j]] := by rw [List.take_add_one, hkj]; rfl
    rw [← grown] at S2
    exact wpAny_bind (listUpdate_at hk2 rfl (wpAny_pure ⟨rfl, S2⟩) room (by rw [Array.size_push]; exact Nat.succ_le_succ room))
  case stop =>
    intro t S
    have full : kz.take (0 + vs.length) = kz := List.take_of_length_le (by omega)
    rw [full] at S
    obtain ⟨xs, e, hk1, hs⟩ := S.own
    have hs2 : EachIs (fun v k => ∃ as, Reads t.heap v k as) xs.toList kz := hs.mono fun u d q => ⟨[], q _⟩
    have sz : xs.size = vs.length := by rw [← hlen, ← hs2.length, Array.length_toList]
    obtain ⟨G, g1, g2⟩ := restrict t.heap fun d => decide (d ≠ kS)
    have gone : G.get? kS = none := g2 kS (by simp)
    apply wpAny_bind
    refine listItems_at hk1 rfl (keyH_end (κ := dataKind t.heap kz) (h₁ := G) (fun d o _ q => ?_) gone hk1 S.bare hka (SortsAt.data (s := t) hs2 hal hsk hu) sz hZ fun h' tk c kp n => ?_)
    · have hdk : d ≠ kS := fun z => by
        rw [z, gone] at q
        cases q
      exact (g1 d (decide_eq_true hdk)).symm.trans q
    · exact fin t h' tk _ c S.inv (fun d o h1 h2 q => kp d o h1 ((g1 d (decide_eq_true h2)).trans q)) n ⟨t.heap, xs.toList, hal, rfl, hs2⟩
theorem kx_tree {J : Addr → Shared → Prop} {f : Value} {n : Nat} (ho : s.heap.get? a = some (seqObj "list" vs.toArray n)) (hlen : kz.length = vs.length) (hZ : vs.length ≤ sizeLine) (hal : AllAlike kz) (hsk : Sortable kz) (hu : ∀ d, d ∈ kz → A.units + d.depth < cLine)
    (j0 : ∀ (kS : Addr) (h' : Heap), s.heap.objs.size ≤ kS → (∀ d o, d ≠ a → s.heap.get? d = some o → h'.get? d = some o) → (∃ o, h'.get? a = some o) → J kS { s with heap := h' })
    (turn : ∀ (kS : Addr), s.heap.objs.size ≤ kS → ∀ (i : Nat) (v : Value) (k : PyData), vs[i]? = some v → kz[i]? = some k → ∀ (s' : Shared) (ok oa : Obj), J kS s' → s'.heap.get? kS = some ok → s'.heap.get? a = some oa →
      wpAny (model prog w) A (call f [v]) (fun u s'' => J kS s'' ∧ s''.heap.get? kS = some ok ∧ s''.heap.get? a = some oa ∧ ∀ h, Reads h u k []) (fun _ _ => False) s')
    (chg : ∀ (kS : Addr), s.heap.objs.size ≤ kS → ∀ (s' : Shared) (ok : Obj) (g : Obj → Obj), J kS s' → s'.heap.get? kS = some ok → J kS { s' with heap := s'.heap.update kS g })
    (fin : ∀ (kS : Addr), s.heap.objs.size ≤ kS → ∀ (s' : Shared) (h' : Heap) (tk : Nat) (out : List Value) (c : Nat), J kS s' → (∀ d o, d ≠ a → d ≠ kS → s'.heap.get? d = some o → h'.get? d = some o) → h'.get? a = some (seqObj "list" out.toArray c) → KeyedOut b kz vs out →
      P (.done (.ret .none)) { s' with heap := h', toks := tk }) : wpAny (model prog w) A (ksk_tree a f b) P E s := by
  let h1 : Heap := s.heap.update a (Obj.mapSeq fun _ => (#[] : Array Value))
  obtain ⟨e1, at1⟩ : ∃ e1, h1.get? a = some (seqObj "list" #[] e1) := ⟨_, get?_update_seq ho fun _ => #[]⟩
  let h2 : Heap := h1.push (seqObj "tuple" vs.toArray 0)
  have size2 : h2.objs.size = s.heap.objs.size + 1 := by
    show (h1.push _).objs.size = _
    rw [size_push', Heap.size_update]
  have up : s.heap.objs.size ≤ h2.objs.size := size2 ▸ Nat.le_succ _
  have apart : h2.objs.size ≠ a := Nat.ne_of_gt (Nat.lt_of_lt_of_le (Heap.lt_size ho) up)
  have bare : (sortingHeap s.heap a vs).get? a = some (seqObj "list" #[] e1) := Heap.get?_push_of_some _ (Heap.get?_push_of_some _ at1)
  have rest := kx_rest (b := b) (J := J h2.objs.size) (P := P) (E := E) (s := { s with heap := sortingHeap s.heap a vs }) (KeySt.start (kz := kz) (j0 _ _ up (fun d o hd q => sortingHeap_old hd q) ⟨_, bare⟩) (Heap.get?_push_size _ rfl) bare) apart hlen hZ hal hsk hu (fun i v k hv hk => turn _ up i v k hv hk) (chg _ up) (fin _ up)
  have tuple : vs.toArray.size ≤ sizeLine := by rw [List.size_toArray]; exact hZ
  unfold ksk_tree
  exact wpAny_bind (listItems_at ho rfl (wpAny_bind (listUpdate_at ho rfl (wpAny_bind (seqEpoch_at at1 rfl (wpAny_bind (wpAny_newTuple (wpAny_bind (wpAny_newList (wpAny_holding rest) (Nat.zero_le _))) tuple)))) tuple (Nat.zero_le _))))
end
end Dl

set_option Elab.async false
set_option linter.all false
set_option maxRecDepth 100000
set_option maxHeartbeats 2000000
/-! Values as data: lambdas of one parameter, called; sorted by them. -/
namespace Dl
open PySem PySem.Spec PyProof.Rows L2
variable [TbA]
/-- the def around gives the name from a cell -/
def Outer (sc : Scope) (y : Str) : Prop := sc.names.lookup y = some .cell ∨ sc.names.lookup y = some .free
/-- names of a lambda of the one parameter p -/
structure Lam1 (sc scope : Scope) (p : Str) : Prop where
  plain : scope.kind = .function ∧ scope.isCoroutine = false ∧ scope.isGenerator = false
  each : ∀ y ∈ scope.names, y.2 ≠ .cell ∧ (y.2 = .local → y.1 = p) ∧ (y.2 = .free → Outer sc y.1)
  par : scope.names.lookup p = some .local
  none : scope.names.lookup Str.empty = none
def lam1B (sc scope : Scope) (p : Str) : Bool :=
  (decide (scope.kind = .function) && (!scope.isCoroutine && !scope.isGenerator)) && (decide (scope.names.lookup p = some .local) && decide (scope.names.lookup Str.empty = none))
    && scope.names.all fun y => !decide (y.2 = .cell) && ((!decide (y.2 = .local) || decide (y.1 = p)) && (!decide (y.2 = .free) || (decide (sc.names.lookup y.1 = some .cell) || decide (sc.names.lookup y.1 = some .free))))
theorem or_of {a b : Prop} [Decidable a] [Decidable b] (h : (!decide a || decide b) = true) (ha : a) : b := by
  rw [decide_eq_true ha] at h
  exact of_decide_eq_true h
theorem lam1_by {sc scope : Scope} {p : Str} (h : lam1B sc scope p = true) : Lam1 sc scope p := by
  unfold lam1B at h
  obtain ⟨hab, hc⟩ := Bool.and_eq_true_iff.mp h
  obtain ⟨ha, hb⟩ := Bool.and_eq_true_iff.mp hab
  obtain ⟨k, cg⟩ := Bool.and_eq_true_iff.mp ha
  obtain ⟨c, g⟩ := Bool.and_eq_true_iff.mp cg
  obtain ⟨p1, p2⟩ := Bool.and_eq_true_iff.mp hb
  refine ⟨⟨of_decide_eq_true k, by simpa using c, by simpa using g⟩, fun y hy => ?_, of_decide_eq_true p1, of_decide_eq_true p2⟩
  obtain ⟨y1, y23⟩ := Bool.and_eq_true_iff.mp (List.all_eq_true.mp hc y hy)
  obtain ⟨y2, y3⟩ := Bool.and_eq_true_iff.mp y23
  refine ⟨fun z => (by rw [decide_eq_true z] at y1; cases y1), or_of y2, fun z => ?_⟩
  rw [decide_eq_true z, Bool.not_true, Bool.false_or] at y3
  exact (Bool.or_eq_true_iff.mp y3).imp of_decide_eq_true of_decide_eq_true
section
variable {sc scope : Scope} {p y : Str}
theorem Lam1.own (L : Lam1 sc scope p) (k : scope.names.lookup y = some .local) : y = p := (L.each (y, .local) (mem_of_lookup k)).2.1 rfl
theorem Lam1.nocell (L : Lam1 sc scope p) (k : scope.names.lookup y = some .cell) : False := (L.each (y, .cell) (mem_of_lookup k)).1 rfl
theorem Lam1.out (L : Lam1 sc scope p) (k : scope.names.lookup y = some .free) : Outer sc y := (L.each (y, .free) (mem_of_lookup k)).2.2 rfl
end
theorem Lam1.has {X : Cx} {scope : Scope} {p : Str} (L : Lam1 X.env.scope scope p) (ok : X.Ok) : ∀ y ∈ scope.names, y.2 = .free → ∃ c, X.env.cells.lookup y.1 = some c := fun y hy e => ok.has _ ((L.each y hy).2.2 e)
/-- the names of the lambda's slots: those of the def around it, then the parameter -/
def lamN (N : List Str) (p : Str) : List Str := N.map (fun z => if z = p then Str.empty else z) ++ [p]
theorem lamN_len {N : List Str} {p : Str} : (lamN N p).length = N.length + 1 := by unfold lamN; simp
theorem lamN_old {N : List Str} {p y : Str} {i : Nat} (hi : i < N.length) (e : (lamN N p)[i]? = some y) : (N[i] = p ∧ y = Str.empty) ∨ (N[i]? = some y ∧ y ≠ p) := by
  have e : (if N[i] = p then Str.empty else N[i]) = y := by
    unfold lamN at e
    rw [List.getElem?_append_left (by rw [List.length_map]; exact hi), List.getElem?_map, List.getElem?_eq_getElem hi] at e
    exact Option.some.inj e
  by_cases hp : N[i] = p
  · rw [if_pos hp] at e
    exact .inl ⟨hp, e.symm⟩
  · rw [if_neg hp] at e
    exact .inr ⟨by rw [List.getElem?_eq_getElem hi, e], fun z => hp (e.trans z)⟩
theorem lamN_new {N : List Str} {p y : Str} {i : Nat} (hi : ¬ i < N.length) (e : (lamN N p)[i]? = some y) : i = N.length ∧ y = p := by
  have lt := (List.getElem?_eq_some_iff.mp e).1
  rw [lamN_len] at lt
  have : i = N.length := by omega
  subst this
  unfold lamN at e
  rw [List.getElem?_append_right (by simp)] at e
  simp at e
  exact ⟨rfl, e.symm⟩
def lamC (X : Cx) (A : Around) (s : Shared) (H : Hp) (scope : Scope) (N' : List Str) (f c' : Addr) : Cx := { LamX.lamCx X A X.stack s H E0 scope f c' with N := N', xe := fun _ _ => False }
section
variable {X : Cx} {pins : List (Addr × Obj)} {σ : L2.St} {H : Hp} {s : Shared} {scope : Scope} {p : Str}
/-- the lambda's cells are cells of the def around it -/
theorem clo_up (ok : X.Ok) (L : Lam1 X.env.scope scope p) {y : Str} {c : Addr} (e : (cloFrom X.env.cells scope.names []).lookup y = some c) : X.env.cells.lookup y = some c := by
  cases cloFrom_mem (mem_of_lookup e) with
  | inl z => cases z
  | inr z =>
    obtain ⟨c1, hc⟩ := ok.has _ ((L.each _ z.1).2.2 rfl)
    rw [z.2, hc]
    rfl
theorem clo_at {y : Str} (hl : scope.names.lookup y = some .free) : ∃ c, (cloFrom X.env.cells scope.names []).lookup y = some c :=
  mem_lookup (cloFrom_has (cells := X.env.cells) (acc := []) (mem_of_lookup hl))
theorem lam_ok {A : Around} {f c' : Addr} (N' : List Str) (I : Inv X pins σ H s) (L : Lam1 X.env.scope scope p) (e0 : Env0 X.prog X.w X.K X.mg X.base A X.stack s H) (hd : A.handled = Option.none) : (lamC X A s H scope N' f c').Ok :=
  have empty : ∀ b : Addr, b ∉ (lamC X A s H scope N' f c').ex := fun b z => absurd (show b ∈ ([] : List Addr) from z) List.not_mem_nil
  { mod := e0.mod
    kind := L.plain.1
    glob := rfl
    blt := rfl
    above := Nat.le_refl _
    inj := fun x y c h1 h2 => I.ok.inj x y c (clo_up I.ok L h1) (clo_up I.ok L h2)
    has := fun y hy => (show scope.names.lookup y = some .cell ∨ scope.names.lookup y = some .free from hy).elim (fun k => (L.nocell k).elim) clo_at
    cab := fun x c (z : false = true) => Bool.noConfusion z
    hd := fun _ => hd
    frames := Around.frames_deeper e0.frames
    stk := .inr ⟨rfl, rfl⟩
    exf := fun b hb => absurd hb (empty b)
    bs := e0.bs
    bsz := e0.bsz
    noex := fun b _ _ => empty b
    exfs := fun b hb => absurd hb (empty b)
    funs := e0.funs
    frf := e0.frf }
theorem lam_in {A : Around} {f c' : Addr} {h₁ : Heap} {tk : Nat} {x : V} {u : Value} {N' : List Str} (hN : lamN X.N p = N') (I : Inv X pins σ H s) (L : Lam1 X.env.scope scope p) (e0 : Env0 X.prog X.w X.K X.mg X.base A X.stack s H) (hd : A.handled = Option.none)
    (hns : h₁.Ns s.heap.objs.size fun y => [(p, u)].reverse.lookup y) (kp : ∀ b o, s.heap.get? b = some o → h₁.get? b = some o) (rx : RelV x u) :
    Inv (lamC X A s H scope N' f c') [] (σ ++ [some x]) H { s with heap := h₁, toks := tk } := by
  subst hN
  have same : ∀ {c : Addr} {v : Option Value}, s.heap.IsCell c v → h₁.IsCell c v := fun ⟨o, ho, q⟩ => ⟨o, kp _ _ ho, q⟩
  have len : σ.length = X.N.length := I.len
  refine
    { ok := lam_ok _ I L e0 hd
      os := rfl
      bare := e0.bare
      base := Un.kept kp
      loc := ⟨_, hns, fun i y v e1 e2 vis => ?_⟩
      cell := fun y c e => (I.cell y c (clo_up I.ok L e)).imp fun _ => same
      free := e0.hok.fresh (Nat.le_refl _)
      freeC := fun y c e => I.freeC y c (clo_up I.ok L e)
      pin := fun q hq => absurd (show q ∈ ([] : List (Addr × Obj)) ++ [] from hq) List.not_mem_nil
      hok := e0.hok.kept kp
      len := ?_ }
  · have vis : Vis scope y := vis
    by_cases hi : i < X.N.length
    · rw [List.getElem?_append_left (by omega)] at e2
      rcases lamN_old hi e1 with ⟨_, rfl⟩ | ⟨e1', ne⟩
      · have no := L.none
        rcases vis with k | k | k <;> (rw [no] at k; cases k)
      · rcases vis with k | k | k
        · exact absurd (L.own k) ne
        · exact (L.nocell k).elim
        · obtain ⟨m, _, at_⟩ := I.loc
          have out := L.out k
          obtain ⟨u2, r, q⟩ := at_ i y v e1' e2 (out.elim (fun z => .inr (.inl z)) fun z => .inr (.inr z))
          obtain ⟨c2, h2⟩ := clo_at k
          refine ⟨u2, r, .inr ⟨.inr k, c2, h2, ?_⟩⟩
          rcases q with ⟨loc, _⟩ | ⟨_, c3, h3, z⟩
          · have loc : X.env.scope.names.lookup y = some .local := loc
            rcases out with o | o <;> (rw [o] at loc; cases loc)
          · have := (clo_up I.ok L h2).symm.trans h3
            cases this
            exact same z
    · obtain ⟨rfl, rfl⟩ := lamN_new hi e1
      rw [← len, List.getElem?_append_right (Nat.le_refl _), Nat.sub_self] at e2
      have e2 : some x = some v := Option.some.inj e2
      cases e2
      exact ⟨u, rx, .inl ⟨L.par, by simp [List.lookup]⟩⟩
  · show (σ ++ [some x]).length = (lamN X.N p).length
    rw [lamN_len, List.length_append, len]
    rfl
/-- the lambda called with one thing, within a built-in's run -/
theorem lam_call {A : Around} {f c' : Addr} {k : Nat} {params : Arguments} {body : Expr} {pm ctv : Value} {tb : TE} {x : V} {u : Value} {Q : VK} {N' : List Str} (hN : lamN X.N p = N') (I : Inv X pins σ H s) (L : Lam1 X.env.scope scope p)
    (hf : s.heap.get? f = some (PySem.W.kla_obj "<lambda>" (X.env.qual ++ "<lambda>") params body scope (cloFrom X.env.cells scope.names []) pm c' ctv)) (hc : H c' = some (LamX.CodeO c' (X.env.qual ++ "<lambda>")))
    (hb : ∀ (q : Str) (cl : List (Str × Addr)) (pm cv ctv u : Value), bindArgs (PySem.W.kla_fn "<lambda>" q params body scope cl pm cv ctv) ⟨[u], []⟩ = pure [(p, u)])
    (hr : RoomG (k + 1) A) (e0 : Env0 X.prog X.w X.K X.mg X.base A X.stack s H) (hA : A = X.A.in1.in1) (rx : RelV x u)
    (hbody : ∀ (A : Around) (s : Shared) (H : Hp), RoomG k (A.deeper (LamX.lamEnv X scope s.heap.objs.size f c')) → PE (lamC X A s H scope N' f c') body tb) (ht : tb (σ ++ [some x]) H Q) :
    wpAny (model X.prog X.w) A (PySem.call (.ref f) [u]) (fun y s' => ∃ v H', Inv X pins σ H' s' ∧ RelV v y ∧ Q v H' ∧ Un (frs X.stack) [] H H' s.heap s'.heap) (fun _ _ => False) s := by
  obtain ⟨code, _, _⟩ := I.hok c' _ hc
  obtain ⟨oc, vs, t, hoc, hdc, hvc⟩ := code
  have step : ∀ h₁ : Heap, (h₁.Ns s.heap.objs.size fun y => [(p, u)].reverse.lookup y) → (∀ b o, s.heap.get? b = some o → h₁.get? b = some o) →
      codeAny (model X.prog X.w) A (.expr body (LamX.lamEnv X scope s.heap.objs.size f c')) (CR CX0 X.stack X.prog X.w H s Q E0) { s with heap := h₁, toks := s.toks + [(p, u)].length } := fun h₁ hns kp =>
    PySem.W.kla_codeExpr (wpAny_mono ((hbody A s H (hr.deeper _)).run [] _ _ H Q (lam_in hN I L e0 hr.hd hns kp rx) ht) (fun v s' ⟨w', H', J', rv, q⟩ => ⟨w', H', J'.os, J'.bare, J'.base, J'.hok, rv, q⟩) fun _ _ z => z.elim)
  have run : codeAny (model X.prog X.w) A (.call (.ref f) ⟨[u], []⟩) (CR CX0 X.stack X.prog X.w H s Q E0) s := by
    refine PySem.W.kla_callFunE hr.depth hf rfl L.plain.2.1 L.plain.2.2 rfl ⟨c', oc, vs, t, rfl, hoc, hdc, hvc⟩ ?_
    rw [hb]
    exact wpAny_pure (wpAny_newFunctionEnv (fun y hy => (L.each y hy).1) (fun y hy => by rw [List.mem_singleton] at hy; rw [hy]; exact L.par)
      (fun h₁ hns hsb => ⟨I.nolimit.fresh _ hsb, step h₁ hns fun b o e => hsb.extBut b o (Nat.ne_of_lt (Heap.lt_size e)) (Heap.get?_push_of_some _ e)⟩) L.plain.1)
  refine wpAny_call (codeAny_mono run fun r s' hq => ?_)
  match r, hq with
  | .error e, hq => exact hq.elim
  | .ok (.ret y), hq =>
    obtain ⟨v, H', os, bare, un, hok, rv, q⟩ := (show CE X.stack X.prog X.w H s Q y s' from hq)
    exact ⟨v, H', I.call' (ch := []) os un hok bare (fun b z => absurd z List.not_mem_nil), rv, q, un⟩
  | .ok .next, hq => exact False.elim hq
  | .ok .brk, hq => exact False.elim hq
  | .ok .cont, hq => exact False.elim hq
end
end Dl

set_option Elab.async false
set_option linter.all false
set_option maxRecDepth 100000
set_option maxHeartbeats 4000000
/-! Values as data: sorted by a lambda's keys, the rule. -/
namespace Dl
open PySem PySem.Spec PyProof.Rows L2
variable [TbA]
/-- keys: ints, texts -/
def keyOk : D → Bool
  | .int _ => true
  | .str _ => true
  | _ => false
def keysM (mb : En → Option D) (env : En) : List D → Option (List D)
  | [] => some []
  | d :: ds => (mb (env ++ [some (.val d)])).bind fun k => (keysM mb env ds).bind fun ks => some (k :: ks)
def keysOk (ks : List D) : Bool := (ks.all keyOk) && ks.all fun k => ks.all fun l => PySem.W.alike k.py l.py
def sortKD (ks ds : List D) : List D := ((ks.zip ds).mergeSort (PySem.W.dataLe false fun p : D × D => p.1.py)).map (·.2)
def sortKM (m mb : En → Option D) (env : En) : Option (List D) := match m env with
  | some (.lst ds) => if ds.length ≤ 100000 then (match keysM mb env ds with
    | some ks => if keysOk ks = true then some (sortKD ks ds) else none
    | none => none) else none
  | _ => none
theorem sortKM_some {m mb : En → Option D} {env : En} {out : List D} (h : sortKM m mb env = some out) : ∃ ds ks, m env = some (.lst ds) ∧ ds.length ≤ 100000 ∧ keysM mb env ds = some ks ∧ keysOk ks = true ∧ out = sortKD ks ds := by
  unfold sortKM at h
  split at h
  · rename_i ds e1
    split at h
    · rename_i hz
      split at h
      · rename_i ks e2
        split at h
        · rename_i e3
          cases h
          exact ⟨ds, ks, e1, hz, e2, e3, rfl⟩
        · cases h
      · cases h
    · cases h
  · cases h
theorem keysM_len {mb : En → Option D} {env : En} : ∀ {ds ks : List D}, keysM mb env ds = some ks → ks.length = ds.length
  | [], _, h => by cases h; rfl
  | d :: ds, _, h => by
    obtain ⟨k, h1, h⟩ := bind_some_of h
    obtain ⟨r, h2, h⟩ := bind_some_of h
    cases h
    rw [List.length_cons, List.length_cons, keysM_len h2]
theorem keysM_get {mb : En → Option D} {env : En} : ∀ {ds ks : List D} {i : Nat} {d : D}, keysM mb env ds = some ks → ds[i]? = some d → ∃ k, ks[i]? = some k ∧ mb (env ++ [some (.val d)]) = some k
  | [], _, _, _, _, e => by simp at e
  | x :: ds, _, i, d, h, e => by
    obtain ⟨k, h1, h⟩ := bind_some_of h
    obtain ⟨r, h2, h⟩ := bind_some_of h
    cases h
    cases i with
    | zero =>
      simp at e
      subst e
      exact ⟨k, rfl, h1⟩
    | succ i =>
      obtain ⟨k', h3, h4⟩ := keysM_get (i := i) (d := d) h2 (by simpa using e)
      exact ⟨k', by simpa using h3, h4⟩
/-- a reading that is a promise of data itself -/
def tFresh (K : PySem.W.Frag) (m : En → Option (List D)) : TE := fun σ H Q => ∃ (H0 : Hp) (env : En) (G : Hp) (ds : List D), Rp K H0 G env σ H ∧ m env = some ds ∧ ∀ p vs G' H', Go G H G' H' → H p = none → G' p = none → H' p = some (.lst vs) → IsL K G' vs ds → Q (.ref p) H'
theorem tf_fresh {K : PySem.W.Frag} {m : En → Option (List D)} : TF K (tFresh K m) m := fun H0 env σ H G ds Q r e q => ⟨H0, env, G, ds, r, e, q⟩
theorem key_reads {K : PySem.W.Frag} {G : Hp} {v : V} {u : Value} {d : D} (h : Is K G v d) (ok : keyOk d = true) (r : RelV v u) : ∀ hp, Reads hp u d.py [] := by
  cases h with
  | int i => obtain ⟨t, rfl⟩ := r; exact fun hp => .int i t
  | str s => obtain ⟨t, rfl⟩ := r; exact fun hp => .str s t
  | _ => cases ok
/-- one more thing in the frame -/
theorem Rp.more {K : PySem.W.Frag} {H0 G H : Hp} {env : En} {σ : L2.St} {v : V} {d : D} (r : Rp K H0 G env σ H) (i : Is K G v d) : Rp K H0 G (env ++ [some (.val d)]) (σ ++ [some v]) H := by
  have at_ : ∀ (j : Nat) (s : Sl), (env ++ [some (Sl.val d)])[j]? = some (some s) → env[j]? = some (some s) ∨ (j = env.length ∧ s = .val d) := fun j s e => by
    by_cases hj : j < env.length
    · rw [List.getElem?_append_left hj] at e
      exact .inl e
    · have hlt : j < (env ++ [some (Sl.val d)]).length := (List.getElem?_eq_some_iff.mp e).1
      rw [List.length_append] at hlt
      have ej : j = env.length := by
        have : [some (Sl.val d)].length = 1 := rfl
        omega
      subst ej
      rw [List.getElem?_append_right (Nat.le_refl _), Nat.sub_self] at e
      have e : some (Sl.val d) = some s := Option.some.inj e
      exact .inr ⟨rfl, (Option.some.inj e).symm⟩
  have lt : ∀ (j : Nat) (s : Sl), env[j]? = some (some s) → j < σ.length := fun j s e => by
    rw [r.len]
    exact (List.getElem?_eq_some_iff.mp e).1
  refine ⟨r.gh, r.tb, r.gn, by rw [List.length_append, List.length_append, r.len]; rfl, fun j s e => ?_, fun j k s t w hjk ej ek oj ok hw => ?_⟩
  · rcases at_ j s e with h | ⟨rfl, rfl⟩
    · obtain ⟨w, h1, h2⟩ := r.sl j s h
      exact ⟨w, by rw [List.getElem?_append_left (lt j s h)]; exact h1, h2⟩
    · refine ⟨v, ?_, i⟩
      rw [List.getElem?_append_right (by rw [r.len]; exact Nat.le_refl _), r.len, Nat.sub_self]
      rfl
  · rcases at_ j s ej with h | ⟨_, rfl⟩
    · rcases at_ k t ek with h' | ⟨_, rfl⟩
      · rw [List.getElem?_append_left (lt j s h)] at hw
        rw [List.getElem?_append_left (lt k t h')]
        exact r.dis j k s t w hjk h h' oj ok hw
      · cases ok
    · cases oj
theorem vals_get {xs : List V} : ∀ {us : List Value} {i : Nat} {u : Value}, Vals xs us → us[i]? = some u → ∃ x, xs[i]? = some x ∧ RelV x u := by
  induction xs with
  | nil => intro us i u h e; cases h; simp at e
  | cons x xs ih =>
    intro us i u h e
    cases h with
    | cons h1 h2 =>
      cases i with
      | zero => simp at e; subst e; exact ⟨x, rfl, h1⟩
      | succ i =>
        obtain ⟨y, h3, h4⟩ := ih (i := i) (u := u) h2 (by simpa using e)
        exact ⟨y, by simpa using h3, h4⟩
section
variable {X : Cx} {pins : List (Addr × Obj)} {σ : L2.St} {H : Hp} {s : Shared}
/-- an address that is not there yet is nobody's -/
theorem nobody (I : Inv X pins σ H s) {b : Addr} (hb : s.heap.objs.size ≤ b) :
    ((b ∈ X.ex ∨ X.s_0.heap.objs.size ≤ b) ∧ b ≠ X.env.locals ∧ (∀ x c, X.env.cells.lookup x = some c → c ≠ b) ∧ ∀ p ∈ X.pn ++ pins, p.1 ≠ b) ∧ b ∉ frs X.stack := by
  have far : ∀ {c : Addr} {o : Obj}, s.heap.get? c = some o → c ≠ b := fun e z => by
    rw [z] at e
    exact Nat.lt_irrefl _ (Nat.lt_of_lt_of_le (Heap.lt_size e) hb)
  refine ⟨⟨.inr (Nat.le_trans I.sz hb), fun z => ?_, fun x c e => ?_, fun p hp => far (I.pin p hp).1⟩, fun z => ?_⟩
  · have lt := I.lt
    rw [← z] at lt
    exact Nat.lt_irrefl _ (Nat.lt_of_lt_of_le lt hb)
  · obtain ⟨v, o, ho, _⟩ := I.cell x c e
    exact far ho
  · rcases List.mem_cons.mp (I.stkSub _ z) with e | e
    · have lt := I.lt
      rw [← e] at lt
      exact Nat.lt_irrefl _ (Nat.lt_of_lt_of_le lt hb)
    · exact I.nofs hb e
open LamX in
/-- a lambda made, its code object new or found -/
theorem lam_new {T : List (Addr × Str)} {cA P : Addr} {ps : Arguments} {bd : Expr} {sc : Scope} {at_ : Pos} {E : Value → Shared → Prop} {Q : Value → Shared → Prop} (I : Inv X pins σ H s) (TB : TabB X.base X.mg cA P) (hcode : X.env.code = .ref cA)
    (hm : (P, X.env.qual ++ "<lambda>") ∈ T) (hu : ∀ p ∈ T, p.1 = P → p.2 = X.env.qual ++ "<lambda>") (hT : Tabs T H) (hdef : defaultsOf ps X.env = ([], [])) (hfree : ∀ y ∈ sc.names, y.2 = .free → ∃ c, X.env.cells.lookup y.1 = some c)
    (go : ∀ (f c' : Addr) (pm ctv : Value) (H1 : Hp) (s' : Shared), Inv X pins σ H1 s' → ExtN H H1 → Tabs T H1 → (∀ b, H1 b = none → H b = none) →
      s'.heap.get? f = some (PySem.W.kla_obj "<lambda>" (X.env.qual ++ "<lambda>") ps bd sc (cloFrom X.env.cells sc.names []) pm c' ctv) → H1 f = none → f ∉ frs X.stack → H1 c' = some (CodeO c' (X.env.qual ++ "<lambda>")) → Q (.ref f) s') :
    wpAny (model X.prog X.w) X.A (eval (.Lambda ps bd sc at_) X.env) Q E s := by
  obtain ⟨its, hP, tri, among⟩ := hT _ hm
  apply PySem.W.kla_eval hdef
  have blt : s.heap.BuiltinsAt X.mg P := TB.bm.keeps I.bk
  have atP : s.heap.get? P = some { cls := .none, data := .fields its } := I.hok P _ hP
  cases found : codeAmong at_ its.toList with
  | none =>
    refine PySem.W.kla_makeFunction (mg := X.mg) (c := cA) (P := P) (ps := its) (closure_ok hfree) I.ok.glob (I.mod.glob.keeps I.bk) hcode (TB.code.keeps I.bk) atP tri found TB.gP blt fun c' ctv g tk keep ge lt rec tab => ?_
    obtain ⟨c2, oc, ws, t, e2, hoc, hd, hv⟩ := rec
    cases e2
    have size : s.heap.objs.size ≤ g.objs.size := Nat.le_trans ge (Nat.le_of_lt lt)
    have nC : H c' = none := I.hok.fresh ge
    have I1 := inv_table (t' := tk) (more := #[rawInt at_.line, rawInt at_.col, .ref c']) (h' := g.push (PySem.W.kla_obj "<lambda>" (X.env.qual ++ "<lambda>") ps bd sc (cloFrom X.env.cells sc.names []) ((X.mg "__name__").getD .none) c' ctv)) I hP
      (fun b o hb e => Heap.get?_push_of_some _ (keep b o hb e)) (Heap.get?_push_of_some _ tab) ge ⟨oc, ws, t, Heap.get?_push_of_some _ hoc, hd, hv⟩
    have ext : ExtN H (upd (upd H P (.tbl (its ++ #[rawInt at_.line, rawInt at_.col, .ref c']))) c' (CodeO c' (X.env.qual ++ "<lambda>"))) := fun b o e n => by
      rw [upd_ne (ne_of_none e nC), upd_ne (fun z => n its (Option.some.inj (e.symm.trans (by rw [z]; exact hP))))]
      exact e
    have eL : (its ++ #[rawInt at_.line, rawInt at_.col, Value.ref c']).toList = its.toList ++ [rawInt at_.line, rawInt at_.col, .ref c'] := by simp
    refine go g.objs.size c' ((X.mg "__name__").getD .none) ctv _ _ I1 ext (fun p hp => ?_) (fun b e => Dl.upd_none (Dl.upd_none e)) (Heap.get?_push_size _ rfl) ?_ (nobody I size).2 upd_same
    · by_cases hb : p.1 = P
      · rw [hu p hp hb, hb]
        refine ⟨_, by rw [upd_ne (ne_of_none hP nC), upd_same], by rw [eL]; exact PySem.TriplesOk_snoc _ _ _ _ tri, fun p' cv hcv => ?_⟩
        rw [eL] at hcv
        rcases among_app _ tri hcv with z | z
        · obtain ⟨c0, e1, e2⟩ := among p' cv z
          exact ⟨c0, e1, ext _ _ e2 codeO_ne⟩
        · exact ⟨c', z, upd_same⟩
      · obtain ⟨old, at1, at2, at3⟩ := hT p hp
        exact ⟨old, (upd_ne (ne_of_none at1 nC)).trans ((upd_ne hb).trans at1), at2, fun q cv hq => (at3 q cv hq).imp fun _ z => ⟨z.1, ext _ _ z.2 codeO_ne⟩⟩
    · rw [upd_ne (show g.objs.size ≠ c' from Nat.ne_of_gt lt), upd_ne (show g.objs.size ≠ P from Nat.ne_of_gt (Nat.lt_of_lt_of_le (Heap.lt_size atP) size))]
      exact I.hok.fresh size
  | some cv =>
    obtain ⟨c', e, hco⟩ := among at_ cv found
    subst e
    refine PySem.W.kla_makeFunctionHit (mg := X.mg) (c := cA) (P := P) (ps := its) (closure_ok hfree) I.ok.glob (I.mod.glob.keeps I.bk) hcode (TB.code.keeps I.bk) atP tri found blt fun ctv g tk keep size => ?_
    have I1 : Inv X pins σ H { s with heap := g.push (PySem.W.kla_obj "<lambda>" (X.env.qual ++ "<lambda>") ps bd sc (cloFrom X.env.cells sc.names []) ((X.mg "__name__").getD .none) c' ctv), toks := tk } := I.kept fun b o e => Heap.get?_push_of_some _ (keep b o e)
    exact go g.objs.size c' ((X.mg "__name__").getD .none) ctv H _ I1 (ExtN.refl H) hT (fun _ e => e) (Heap.get?_push_size _ rfl) (I.hok.fresh size) (nobody I size).2 hco
end
end Dl

set_option Elab.async false
set_option linter.all false
set_option maxRecDepth 100000
set_option maxHeartbeats 4000000
/-! Values as data: sorted(l, key=lambda p: body). -/
namespace Dl
open PySem PySem.Spec PyProof.Rows L2
variable [TbA]
theorem Go.keep {G H G' H' : Hp} (g : Go G H G' H') {a : Addr} {o : HO} (e : H a = some o) (n : ∀ ps, o ≠ .tbl ps) : H' a = some o := g.same _ _ (noT_of e n)
theorem codeO_nt {c : Addr} {q : Str} : ∀ ps, LamX.CodeO c q ≠ .tbl ps := fun ps z => by unfold LamX.CodeO at z; cases z
theorem isl_get2 {K : PySem.W.Frag} {G : Hp} {xs : List V} {ds : List D} (h : IsL K G xs ds) {i : Nat} {x : V} {d : D} (e : xs[i]? = some x) (e' : ds[i]? = some d) : Is K G x d := by
  obtain ⟨d', h1, h2⟩ := h.getv e
  rw [h1] at e'
  cases e'
  exact h2
section
variable {X : Cx} {pins : List (Addr × Obj)} {σ : L2.St} {H : Hp} {s : Shared}
theorem each_back {α : Type} {R : V → α → Prop} : ∀ {us : List Value} {zs : List α}, PySem.W.EachIs (fun u z => ∃ x, RelV x u ∧ R x z) us zs → ∃ xs, Vals xs us ∧ PySem.W.EachIs R xs zs
  | _, _, .nil => ⟨[], .nil, .nil⟩
  | _, _, .cons ⟨x, h1, h2⟩ t => by
    obtain ⟨xs, h3, h4⟩ := each_back t
    exact ⟨x :: xs, .cons h1 h3, .cons h2 h4⟩
theorem each_isl {K : PySem.W.Frag} {G : Hp} {α : Type} {g : α → D} : ∀ {xs : List V} {zs : List α}, PySem.W.EachIs (fun x z => Is K G x (g z)) xs zs → IsL K G xs (zs.map g)
  | _, _, .nil => .nil
  | _, _, .cons h t => .cons h (each_isl t)
theorem each_zip {K : PySem.W.Frag} {G : Hp} : ∀ {us : List Value} {xs : List V} {ds ks : List D}, Vals xs us → IsL K G xs ds → ks.length = ds.length → PySem.W.EachIs (fun u (z : D × D) => ∃ x, RelV x u ∧ Is K G x z.2) us (ks.zip ds)
  | _, _, _, [], .nil, .nil, _ => .nil
  | _, _, _, k :: ks, .cons r rr, .cons h t, e => .cons ⟨_, r, h⟩ (each_zip rr t (by simpa using e))
  | _, _, _, _ :: _, .nil, .nil, e => by cases e
  | _, _, _, [], .cons _ _, .cons _ _, e => by cases e
theorem zip_keys {ks ds : List D} (e : ks.length = ds.length) : (ks.zip ds).map (fun p : D × D => p.1.py) = ks.map D.py := by
  rw [show (fun p : D × D => p.1.py) = D.py ∘ Prod.fst from rfl, ← List.map_map, List.map_fst_zip (Nat.le_of_eq e)]
variable {e : Expr} {te tb : TE} {m mb : En → Option D} {p : Str} {ps : Arguments} {bd : Expr} {sc : Scope} {cA P : Addr} {k : Nat} {N' : List Str} {lpos kpos p1 pos : Pos}
theorem pe_sortKey (hg : Gl X "sorted") (hm : X.mg "sorted" = none) (ha : DR X X.K e te m) (TB : LamX.TabB X.base X.mg cA P) (hcode : X.env.code = .ref cA) (hT : (P, X.env.qual ++ "<lambda>") ∈ TbA.T) (hu : ∀ z ∈ TbA.T, z.1 = P → z.2 = X.env.qual ++ "<lambda>")
    (hr : RoomG (k + 3) X.A) (hN : lamN X.N p = N') (L : Lam1 X.env.scope sc p) (hdef : defaultsOf ps X.env = ([], []))
    (hb : ∀ (q : Str) (cl : List (Str × Addr)) (pm cv ctv u : Value), bindArgs (PySem.W.kla_fn "<lambda>" q ps bd sc cl pm cv ctv) ⟨[u], []⟩ = pure [(p, u)])
    (hbody : ∀ (A : Around) (s : Shared) (H : Hp) (f c' : Addr), RoomG k (A.deeper (LamX.lamEnv X sc s.heap.objs.size f c')) → DE (lamC X A s H sc N' f c') X.K bd tb mb)
    (he : starEach [e] X.env = [(false, eval e X.env)] := by rfl)
    (hkw : backToKw pos (keywordEach [⟨some "key", .Lambda ps bd sc lpos, kpos⟩] X.env) = [(some ("key" : Str), do let v ← eval (.Lambda ps bd sc lpos) X.env; standAt pos; pure v)] := by rfl) :
    PE X (.Call (.Name "sorted" p1) [e] [⟨some "key", .Lambda ps bd sc lpos, kpos⟩] pos) (tFresh X.K (sortKM m mb)) := by
  refine ⟨fun pins s σ H Q I h => ?_⟩
  obtain ⟨H0, env, G, out, rp, em, q⟩ := h
  obtain ⟨ds, ks, e1, hz, e2, hok, rfl⟩ := sortKM_some em
  refine wpAny_Call_Name_kw (ld_blt I hg hm boot_sorted' ?_ (by decide) (by decide))
  have pa : PA X [e] (tCons te tNil) := pa_cons ha.p pa_nil he
  refine PyProof.Rows.callWith_kw (thn (pa.run pos pins s σ H (fun vs H1 => ∃ G1 l xs, vs = [.ref l] ∧ Go G H G1 H1 ∧ H1 l = some (.lst xs) ∧ IsL X.K G1 xs ds) I
    (ha.d H0 env σ H G _ _ rp e1 fun v G1 H1 g1 i1 => by
      obtain ⟨l, xs, rfl, a1, a2⟩ := i1.lst g1.gh
      exact ⟨G1, l, xs, rfl, g1, a1, a2⟩)) fun us s1 ⟨vs, H1, I1, r1, q1⟩ => ?_) (by rw [he]; rfl) (by rw [he]; rfl) (by rw [hkw]; rfl) (by rw [hkw]; rfl)
  obtain ⟨G1, l, xs, rfl, g1, hl, il⟩ := q1
  obtain ⟨u1, rfl, ru⟩ := vals1 r1
  cases ru
  rw [hkw]
  have R1 : Rp X.K H0 G1 env σ H1 := rp.go g1
  show wpAny _ _ (evalAll [do let v ← eval (.Lambda ps bd sc lpos) X.env; standAt pos; pure v]) _ _ s1
  refine wpAny_evalAll_cons (wpAny_bind (lam_new I1 TB hcode hT hu R1.tb hdef (L.has I.ok) fun f c' pm ctv H2 s2 I2 eN T2 hn hf hfn hfr hco => wpAny_bind (wpAny_standAt (wpAny_pure (wpAny_evalAll_nil ?_)))))
  show wpAny _ _ (PySem.call (.builtin "sorted") [.ref l] [(Str.ofString "key", .ref f)]) _ _ s2
  have g2 : Go G1 H1 G1 H2 := ⟨R1.gh, Same.refl G1, fun a o e => eN a o (R1.gh a o e) (fun qs z => R1.gn a qs (by rw [e, z])), fun a o n e t => ⟨n, eN a o e t⟩, fun _ => T2, hn, id⟩
  have R2 : Rp X.K H0 G1 env σ H2 := R1.go g2
  have hl2 : H2 l = some (.lst xs) := eN l _ hl lst_nt
  obtain ⟨its, rv, pl, hzz⟩ := I2.list (SqL.of hl2)
  have lenI : its.length = ds.length := by rw [← rv.length]; exact il.len
  have lenK : ks.length = ds.length := keysM_len e2
  unfold keysOk at hok
  rw [Bool.and_eq_true] at hok
  have hal : PySem.W.AllAlike ((ks.zip ds).map fun z : D × D => z.1.py) := by
    rw [zip_keys lenK]
    intro d hd d' hd'
    obtain ⟨b, hb1, rfl⟩ := List.mem_map.mp hd
    obtain ⟨b', hb2, rfl⟩ := List.mem_map.mp hd'
    exact List.all_eq_true.mp (List.all_eq_true.mp hok.2 b hb1) b' hb2
  have each : ∀ z ∈ ks.zip ds, keyOk z.1 = true := fun z hz => List.all_eq_true.mp hok.1 _ (List.of_mem_zip (a := z.1) (b := z.2) hz).1
  have hsk : PySem.W.Sortable ((ks.zip ds).map fun z : D × D => z.1.py) := .inr fun d hd => by
    obtain ⟨z, hz1, rfl⟩ := List.mem_map.mp hd
    have := each z hz1
    obtain ⟨zk, zd⟩ := z
    cases zk with
    | int i => exact ⟨(fun z => by cases z), fun ys z => by cases z⟩
    | str y => exact ⟨(fun z => by cases z), fun ys z => by cases z⟩
    | _ => cases this
  have hdep : ∀ d, d ∈ ((ks.zip ds).map fun z : D × D => z.1.py) → X.A.in1.in1.units + d.depth < cLine := fun d hd => by
    obtain ⟨z, hz1, rfl⟩ := List.mem_map.mp hd
    have := each z hz1
    have un := hr.un
    obtain ⟨zk, zd⟩ := z
    cases zk with
    | int i => show X.A.units + 1 + 1 + 0 < cLine; omega
    | str y => show X.A.units + 1 + 1 + 0 < cLine; omega
    | _ => cases this
  have hZ : its.length ≤ sizeLine := by rw [lenI]; exact sz5 hz
  have eK : (ks.zip ds).length = its.length := by rw [List.length_zip, lenK, Nat.min_self, lenI]
  refine PySem.W.sorted_of_sort pl.isList hZ (ksk_s1 _ _) (fun x => ksk_l1 _ _) fun E' => ?_
  rw [ksk_t1]
  have sz2 : (PySem.W.copyHeap s2.heap its).objs.size = s2.heap.objs.size + 2 := by
    show ((((s2.heap.push _).update _ _).push _).objs).size = _
    rw [PyProof.Rows.size_push', Heap.size_update, PyProof.Rows.size_push']
  have fr2 : ∀ {b : Addr}, s2.heap.objs.size ≤ b → H2 b = none := fun h => I2.hok.fresh h
  refine kx_tree (kz := (ks.zip ds).map fun z : D × D => z.1.py) (s := { s2 with heap := PySem.W.copyHeap s2.heap its }) (b := false)
    (J := fun kS st => ∃ H' G', Inv X pins σ H' st ∧ Rp X.K H0 G' env σ H' ∧ Go G1 H2 G' H' ∧ H' (s2.heap.objs.size + 1) = none ∧ H' kS = none ∧ H' f = none ∧ st.heap.get? f = some (PySem.W.kla_obj "<lambda>" (X.env.qual ++ "<lambda>") ps bd sc (cloFrom X.env.cells sc.names []) pm c' ctv))
    (PySem.W.copyHeap_at s2.heap its) (by rw [List.length_map]; exact eK) hZ hal hsk hdep (fun kS h' hge kp ha' => ?j0) (fun kS hge i v kd hv hkd st ok oa hJ hk1 ha1 => ?turn) (fun kS hge st ok g hJ hk1 => ?chg) fun kS hge st h' tk outv c hJ kp hat ko => ?fin
  case j0 =>
    have keep : ∀ b o, s2.heap.get? b = some o → h'.get? b = some o := fun b o e => kp b o (Nat.ne_of_lt (Nat.lt_succ_of_lt (Heap.lt_size e))) (PySem.W.copyHeap_old e)
    have hge : (PySem.W.copyHeap s2.heap its).objs.size ≤ kS := hge
    rw [sz2] at hge
    exact ⟨H2, G1, I2.kept (t' := s2.toks) keep, R2, Go.refl R2.gh, fr2 (Nat.le_succ _), fr2 (by omega), hfn, keep _ _ hf⟩
  case turn =>
    have hge : (PySem.W.copyHeap s2.heap its).objs.size ≤ kS := hge
    rw [sz2] at hge
    obtain ⟨H', G', I', R', g', na, nk, nf, of⟩ := hJ
    obtain ⟨x, hx, rx⟩ := vals_get rv hv
    rw [List.getElem?_map] at hkd
    obtain ⟨⟨kk, d⟩, hzk, hzd⟩ : ∃ z, (ks.zip ds)[i]? = some z ∧ z.1.py = kd := by
      cases hq : (ks.zip ds)[i]? with
      | none => rw [hq] at hkd; cases hkd
      | some z => rw [hq] at hkd; exact ⟨z, rfl, Option.some.inj hkd⟩
    obtain ⟨hk3, hd3⟩ := List.getElem?_zip_eq_some.mp hzk
    have hd3 : ds[i]? = some d := hd3
    have hk3 : ks[i]? = some kk := hk3
    obtain ⟨k2, hk4, hmb⟩ := keysM_get e2 hd3
    rw [hk3] at hk4
    cases hk4
    have id1 : Is X.K G' x d := (isl_get2 il hx hd3).mono g'.g
    have okk : keyOk kk = true := each _ (List.mem_of_getElem? hzk)
    have cc : H' c' = some (LamX.CodeO c' (X.env.qual ++ "<lambda>")) := g'.keep hco codeO_nt
    have hr2 : RoomG (k + 1) X.A.in1.in1 := hr.in1.in1
    have B := hbody X.A.in1.in1 st H' f c' (hr2.deeper _)
    refine wpAny_mono (lam_call (Q := fun v H3 => ∃ G3, Go G' H' G3 H3 ∧ Is X.K G3 v kk) hN I' L of cc hb hr2 I'.env0.in1.in1 rfl rx (fun A s H hr3 => (hbody A s H f c' hr3).p) ?_) (fun u st2 he => ?_) fun _ _ z => z
    · exact B.d H0 (env ++ [some (.val d)]) (σ ++ [some x]) H' G' kk _ (R'.more id1) hmb fun v G3 H3 g3 i3 => ⟨G3, g3, i3⟩
    · obtain ⟨v, H3, I3, rv3, ⟨G3, g3, i3⟩, un⟩ := he
      have keep : ∀ {b : Addr} {o : Obj}, st.heap.get? b = some o → H' b = none → b ∉ frs X.stack → st2.heap.get? b = some o := fun e n hb => un.keep _ _ e n hb (by simp)
      have gone : ∀ {b : Addr} {o : Obj}, st.heap.get? b = some o → H' b = none → H3 b = none := fun e n => un.free _ _ e n (by simp)
      refine ⟨⟨H3, G3, I3, R'.go g3, g'.trans g3, gone ha1 na, gone hk1 nk, gone of nf, keep of nf hfr⟩, keep hk1 nk (nobody I2 (by omega)).2, keep ha1 na (nobody I2 (Nat.le_succ _)).2, fun hp => ?_⟩
      rw [← hzd]
      exact key_reads i3 okk rv3 hp
  case chg =>
    have hge : (PySem.W.copyHeap s2.heap its).objs.size ≤ kS := hge
    rw [sz2] at hge
    obtain ⟨H', G', I', R', g', na, nk, nf, of⟩ := hJ
    have sb := Heap.SameBut.update st.heap kS g
    have nb := nobody I2 (show s2.heap.objs.size ≤ kS by omega)
    have keep : ∀ b o, b ≠ kS → st.heap.get? b = some o → (st.heap.update kS g).get? b = some o := fun b o hb e => (sb.2 b hb).trans e
    have fne : f ≠ kS := Nat.ne_of_lt (Nat.lt_of_lt_of_le (Heap.lt_size hf) (Nat.le_trans (Nat.le_add_right _ 2) hge))
    refine ⟨H', G', I'.step (ch := [kS]) (g' := st.gens) (d' := st.drawn) (t' := st.toks) (fun b hb => ?_) (fun b o _ _ hb e _ => keep b o (fun z => hb (List.mem_singleton.mpr z)) e) (fun b o _ _ hb e _ => ⟨o.slots, keep b o (fun z => hb (List.mem_singleton.mpr z)) e⟩) (fun b o _ _ n => n)
      (fun b o hb e => ⟨o, keep b o (fun z => hb (List.mem_singleton.mpr z)) e⟩) (fun b xs e => e) (fun b o u e => e) (fun b qs e => ⟨#[], by simpa using e⟩) (fun mm hn => ?_) (fun b u e => ?_) I'.bare, R', g', na, nk, nf, keep _ _ fne of⟩
    · rw [List.mem_singleton] at hb; rw [hb]; exact nb.1
    · obtain ⟨ob, es, ep, hob, r⟩ := hn
      exact ⟨ob, es, ep, keep _ ob (fun z => nb.1.2.1 z.symm) hob, r⟩
    · refine (I'.hok b u e).stay (fun d v hd q => keep d v ?_ q) (fun d q => q) fun d xs q => q
      rcases hd with z | z
      · rw [z]; exact fun z => by rw [z, nk] at e; cases e
      · exact fun y => by rw [y, nk] at z; cases z
  case fin =>
    have hge : (PySem.W.copyHeap s2.heap its).objs.size ≤ kS := hge
    rw [sz2] at hge
    obtain ⟨H', G', I', R', g', na, nk, nf, of⟩ := hJ
    refine ⟨rfl, ?_⟩
    have nb := nobody I2 (show s2.heap.objs.size ≤ kS by omega)
    have na1 := nobody I2 (show s2.heap.objs.size ≤ s2.heap.objs.size + 1 from Nat.le_succ _)
    have ez := PySem.W.keyedOut_each (R := fun u (z : D × D) => ∃ x, RelV x u ∧ Is X.K G' x z.2) (bs := ks.zip ds) (vs := its) (fun z : D × D => z.1.py) ko (each_zip rv (il.mono g'.g) lenK)
    obtain ⟨ys, hy1, hy2⟩ := each_back ez
    have iy : IsL X.K G' ys (sortKD ks ds) := each_isl hy2
    have leny : ys.length ≤ sizeLine := by
      rw [iy.len]
      unfold sortKD
      rw [List.length_map, List.length_mergeSort, eK]
      exact hZ
    have two : ∀ b, b ∉ [kS, s2.heap.objs.size + 1] → b ≠ s2.heap.objs.size + 1 ∧ b ≠ kS := fun b hb => ⟨fun z => hb (by rw [z]; simp), fun z => hb (by rw [z]; simp)⟩
    have keep : ∀ b o, b ∉ [kS, s2.heap.objs.size + 1] → st.heap.get? b = some o → h'.get? b = some o := fun b o hb e => kp b o (two b hb).1 (two b hb).2 e
    refine ⟨.ref (s2.heap.objs.size + 1), upd H' (s2.heap.objs.size + 1) (.lst ys), I'.step (ch := [kS, s2.heap.objs.size + 1]) (g' := st.gens) (d' := st.drawn) (t' := tk) (fun b hb => ?_) (fun b o _ _ hb e _ => keep b o hb e) (fun b o _ _ hb e _ => ⟨o.slots, keep b o hb e⟩) (fun b o hb e n => by rw [upd_ne (two b hb).1]; exact n)
      (fun b o hb e => ⟨o, keep b o hb e⟩) (fun b xs e => by rw [upd_ne (ne_of_none e na)]; exact e) (fun b o u e => by rw [upd_ne (ne_of_none e na)]; exact e) (fun b qs e => ⟨#[], by rw [upd_ne (ne_of_none e na)]; simpa using e⟩) (fun mm hn => ?_) (fun b u e => ?_) I'.bare, rfl, ?_⟩
    · rcases List.mem_cons.mp hb with z | z
      · rw [z]; exact nb.1
      · rw [List.mem_singleton] at z; rw [z]; exact na1.1
    · obtain ⟨ob, es, ep, hob, r⟩ := hn
      refine ⟨ob, es, ep, kp _ ob (fun z => na1.1.2.1 z.symm) (fun z => nb.1.2.1 z.symm) hob, r⟩
    · by_cases hb : b = s2.heap.objs.size + 1
      · subst hb
        rw [upd_same] at e
        cases e
        exact ⟨leny, outv, c, hy1, hat⟩
      · rw [upd_ne hb] at e
        refine (I'.hok b u e).stay (fun d v hd q => kp d v ?_ ?_ q) (fun d q => by rw [upd_ne (ne_of_none q na)]; exact q) fun d xs q => by rw [upd_ne (ne_of_none q na)]; exact q
        · rcases hd with z | z
          · rw [z]; exact hb
          · exact ne_of_none z na
        · rcases hd with z | z
          · rw [z]; exact ne_of_none e nk
          · exact ne_of_none z nk
    · have gF : Go G H G' (upd H' (s2.heap.objs.size + 1) (.lst ys)) := ((g1.trans g2).trans g').fresh na
      exact q _ ys G' _ gF (((g1.trans g2).trans g').free na) (g'.gh.free na) upd_same iy
/-- the lambdas that the def x makes: its code object, its table -/
def lamQ (x : Str) : Str := x ++ Str.ofString ".<locals>." ++ "<lambda>"
structure LamT (base : Heap) (mg : Str → Option Value) (cA P : Addr) (x : Str) : Prop where
  tb : LamX.TabB base mg cA P
  at_ : (P, lamQ x) ∈ TbA.T
  un : ∀ z ∈ TbA.T, z.1 = P → z.2 = lamQ x
theorem df_sortKey {K : PySem.W.Frag} {x : Str} {j : Nat} (T : LamT X.base X.mg cA P x) (hg : Gl X "sorted") (hm : X.mg "sorted" = none) (ha : DR X K e te m) (hr : RoomG j X.A) (hN : lamN X.N p = N') (L : Lam1 X.env.scope sc p)
    (hbody : ∀ (A : Around) (s : Shared) (H : Hp) (f c' : Addr), RoomG k (A.deeper (LamX.lamEnv X sc s.heap.objs.size f c')) → DE (lamC X A s H sc N' f c') K bd tb mb) (hj : k + 3 ≤ j) (hK : X.K = K := by rfl) (hcode : X.env.code = .ref cA := by rfl) (hq : X.env.qual ++ "<lambda>" = lamQ x := by rfl)
    (hdef : defaultsOf ps X.env = ([], []) := by rfl)
    (hb : ∀ (q : Str) (cl : List (Str × Addr)) (pm cv ctv u : Value), bindArgs (PySem.W.kla_fn "<lambda>" q ps bd sc cl pm cv ctv) ⟨[u], []⟩ = pure [(p, u)] := by intro _ _ _ _ _ _; rfl)
    (he : starEach [e] X.env = [(false, eval e X.env)] := by rfl)
    (hkw : backToKw pos (keywordEach [⟨some "key", .Lambda ps bd sc lpos, kpos⟩] X.env) = [(some ("key" : Str), do let v ← eval (.Lambda ps bd sc lpos) X.env; standAt pos; pure v)] := by rfl) :
    DF1 X K (.Call (.Name "sorted" p1) [e] [⟨some "key", .Lambda ps bd sc lpos, kpos⟩] pos) (tFresh K (sortKM m mb)) (sortKM m mb) := by
  subst hK
  exact ⟨pe_sortKey hg hm ha T.tb hcode (by rw [hq]; exact T.at_) (fun z h1 h2 => by rw [hq]; exact T.un z h1 h2) (hr.mono hj) hN L hdef hb hbody he hkw, tf_fresh⟩
end
/-- a def whose code object is known -/
theorem fn_okC {P : Program} {w : World} {K : PySem.W.Frag} {mg : Str → Option Value} {base : Heap} {x qual : Str} {st : Stmt} {f cA : Addr} {fd : FuncData} {N ps : List Str} {k : Nat} {t : TS} {m : En → Option Out} (F : Fun K x qual st f fd) (hC : fd.code = .ref cA) (S : FnScope N ps (defScope st))
    (h : ∀ (A : Around) (outer : List Env) (s : Shared) (H : Hp) (E : XK), RoomG k (A.deeper (envOfC qual (defScope st) s.heap.objs.size f (.ref cA))) → DSs (cxOf CX0 P w K mg base N qual (defScope st) f (.ref cA) A outer s H E).nox K (defBody st) t m) :
    FnG P w K mg base CX0 (k + 1) f fd ps (spD K (bodyM ps.length N.length m)) := by
  obtain ⟨oc, od, kV, doc, pm, an, cdv, ct, slots, rfl, lk, hcd⟩ := F.ex
  cases hC
  refine fn_ofG lk hcd S (fun vs H Q E hs => ?_) fun A outer s H vs Q E hr hs => ?_
  · obtain ⟨G, ds, d, _, i, e, _⟩ := hs
    rw [i.len]
    unfold bodyM at e
    split at e
    · assumption
    · cases e
  · obtain ⟨G, ds, d, ⟨gh, gt, gn⟩, i, e, q⟩ := hs
    have D := h A outer s H E hr
    refine ⟨_, D.p.nox, ?_⟩
    unfold bodyM at e
    split at e
    · unfold runM at e
      obtain ⟨o, e1, e2⟩ := bind_some_of e
      refine D.d G H _ _ H G o _ (start_rp gh gt gn i) (Go.refl gh) e1 ?_
      cases o with
      | rt d' => cases e2; exact fun v G' H' g _ iv => q v G' H' g iv
      | nx env => cases e2; exact fun σ' G' H' _ g _ => q .non G' H' g .non
      | bk env => cases e2
      | ct env => cases e2
    · cases e
end Dl

set_option Elab.async false
set_option linter.all false
set_option maxRecDepth 100000
set_option maxHeartbeats 2000000
/-! Values as data: l[a:b:c] of a list; x < y of texts. -/
namespace Dl
open PySem PySem.Spec PyProof.Rows L2
variable [TbA]
/-- a slice with a step -/
def pickL {α : Type} (xs : List α) (lo hi st : Option Int) : List α :=
  (sliceRange (sliceBounds lo hi st xs.length).1 (sliceBounds lo hi st xs.length).2.1 (sliceBounds lo hi st xs.length).2.2).filterMap fun i => xs[i]?
theorem isl_ix {K : PySem.W.Frag} {G : Hp} {vs : List V} {ds : List D} (h : IsL K G vs ds) : ∀ l : List Nat, IsL K G (l.filterMap fun i => vs[i]?) (l.filterMap fun i => ds[i]?)
  | [] => .nil
  | i :: l => by
    rw [List.filterMap_cons, List.filterMap_cons]
    cases q : ds[i]? with
    | none =>
      have : vs[i]? = none := by
        rw [List.getElem?_eq_none_iff] at q ⊢
        rw [h.len]
        exact q
      rw [this]
      exact isl_ix h l
    | some d =>
      obtain ⟨v, h1, h2⟩ := h.get q
      rw [h1]
      exact .cons h2 (isl_ix h l)
theorem vals_ix {xs : List V} {us : List Value} (h : Vals xs us) : ∀ l : List Nat, Vals (l.filterMap fun i => xs[i]?) (l.filterMap fun i => us[i]?)
  | [] => .nil
  | i :: l => by
    rw [List.filterMap_cons, List.filterMap_cons]
    cases q : us[i]? with
    | none =>
      have : xs[i]? = none := by
        rw [List.getElem?_eq_none_iff] at q ⊢
        rw [h.length]
        exact q
      rw [this]
      exact vals_ix h l
    | some d =>
      obtain ⟨v, h1, h2⟩ := vals_get h q
      rw [h1]
      exact .cons h2 (vals_ix h l)
theorem isl_pick {K : PySem.W.Frag} {G : Hp} {vs : List V} {ds : List D} {lo hi st : Option Int} (h : IsL K G vs ds) : IsL K G (pickL vs lo hi st) (pickL ds lo hi st) := by
  unfold pickL
  rw [h.len]
  exact isl_ix h _
theorem pick_toList {us : List Value} {lo hi st : Option Int} : slicePick us.toArray lo hi st = (pickL us lo hi st).toArray := by
  unfold slicePick pickL
  congr 1
  rw [List.size_toArray]
  refine congrArg (fun f => List.filterMap f _) (funext fun i => ?_)
  exact List.getElem?_toArray
section
variable {X : Cx} {K : PySem.W.Frag} {e : Expr} {te : TE} {m : En → Option D} {lo hi : Option Expr} {st : Expr} {tl th ts : TO} {ml mh ms : En → Option (Option Int)} {p2 pos : Pos}
def pkM (m : En → Option D) (ml mh ms : En → Option (Option Int)) (env : En) : Option D := (m env).bind fun d => (ml env).bind fun lo => (mh env).bind fun hi => (ms env).bind fun st => match d with
  | .lst ds => if st ≠ some 0 then some (.lst (pickL ds lo hi st)) else none
  | _ => none
theorem pkM_some {env : En} {z : D} (h : pkM m ml mh ms env = some z) : ∃ ds lo hi st, m env = some (.lst ds) ∧ ml env = some lo ∧ mh env = some hi ∧ ms env = some st ∧ st ≠ some 0 ∧ z = .lst (pickL ds lo hi st) := by
  obtain ⟨d, h1, h⟩ := bind_some_of h
  obtain ⟨a, h2, h⟩ := bind_some_of h
  obtain ⟨b, h3, h⟩ := bind_some_of h
  obtain ⟨c, h4, h⟩ := bind_some_of h
  cases d with
  | lst ds =>
    have h : (if c ≠ some 0 then some (D.lst (pickL ds a b c)) else none) = some z := h
    split at h
    · rename_i hc
      cases h
      exact ⟨ds, a, b, c, h1, h2, h3, h4, hc, rfl⟩
    · cases h
  | _ => cases h
/-- a reading that is a promise of data itself -/
def tData (K : PySem.W.Frag) (m : En → Option D) : TE := fun σ H Q => ∃ (H0 : Hp) (env : En) (G : Hp) (d : D), Rp K H0 G env σ H ∧ m env = some d ∧ ∀ v G' H', Go G H G' H' → Is K G' v d → Q v H'
theorem td_data {m : En → Option D} : TD K (tData K m) m := fun H0 env σ H G d Q r e q => ⟨H0, env, G, d, r, e, q⟩
theorem de_pick (he : DR X K e te m) (hl : DO X K lo tl ml) (hh : DO X K hi th mh) (hs : DO X K (some st) ts ms) (hK : X.K = K := by rfl) :
    DE X K (.Subscript e (.Slice lo hi (some st) p2) pos) (tData K (pkM m ml mh ms)) (pkM m ml mh ms) := by
  subst hK
  refine ⟨⟨fun pins s σ H Q I h => ?_⟩, td_data⟩
  obtain ⟨H0, env, G, z, rp, em, q⟩ := h
  obtain ⟨ds, lo', hi', st', e1, e2, e3, e4, h0, rfl⟩ := pkM_some em
  refine Subscript_ (thn (he.p.run pins s σ H (fun v H1 => ∃ G1 a xs, v = .ref a ∧ Go G H G1 H1 ∧ H1 a = some (.lst xs) ∧ IsL X.K G1 xs ds) I (he.d H0 env σ H G _ _ rp e1 fun v G1 H1 g1 i1 => by
    obtain ⟨a, xs, rfl, a1, a2⟩ := i1.lst g1.gh
    exact ⟨G1, a, xs, rfl, g1, a1, a2⟩)) fun v s1 ⟨x, H1, I1, r1, q1⟩ => ?_)
  obtain ⟨G1, a, xs, rfl, g1, hx, ix⟩ := q1
  cases r1
  refine wpAny_Slice (thn (hl.p.run pins s1 σ H1 (fun o H2 => o = lo' ∧ ∃ G2, Go G1 H1 G2 H2) I1 (hl.d H0 env σ H1 G1 lo' _ (rp.go g1) e2 fun G2 H2 g2 => ⟨rfl, G2, g2⟩)) fun vl s2 ⟨l, H2, I2, pl, el, G2, g2⟩ => ?_)
  subst el
  refine thn (hh.p.run pins s2 σ H2 (fun o H3 => o = hi' ∧ ∃ G3, Go G2 H2 G3 H3) I2 (hh.d H0 env σ H2 G2 hi' _ ((rp.go g1).go g2) e3 fun G3 H3 g3 => ⟨rfl, G3, g3⟩)) fun vu s3 ⟨u, H3, I3, pu, eu, G3, g3⟩ => ?_
  subst eu
  refine thn (hs.p.run pins s3 σ H3 (fun o H4 => o = st' ∧ ∃ G4, Go G3 H3 G4 H4) I3 (hs.d H0 env σ H3 G3 st' _ (((rp.go g1).go g2).go g3) e4 fun G4 H4 g4 => ⟨rfl, G4, g4⟩)) fun vs s4 ⟨o, H4, I4, ps, eo, G4, g4⟩ => ?_
  subst eo
  have gg : Go G1 H1 G4 H4 := (g2.trans g3).trans g4
  have I5 : L2.Inv X pins σ H4 { s4 with heap := s4.heap.push { cls := .type "slice", data := .fields #[vl, vu, vs] } } := I4.kept (t' := s4.toks) fun b ob q => Heap.get?_push_of_some _ q
  have hx4 : H4 a = some (.lst xs) := gg.keep hx lst_nt
  obtain ⟨its, r, pt, hz⟩ := I5.list (SqL.of hx4)
  have hlen := r.length
  refine tail_any (ops := [.ref a, .ref s4.heap.objs.size]) pt.isList.typeIs (PySem.slot_list_getitem.lookup) ?_ (by with_unfolding_all rfl)
  refine wpAny_getItem_list_slice pt.isList (Heap.IsSliceOf.new _ vl vu vs) pl pu ps h0 ?_ (by rw [List.size_toArray]; omega)
  rw [pick_toList]
  have rl : Vals (pickL xs l u o) (pickL its l u o) := by
    unfold pickL
    rw [r.length]
    exact vals_ix r _
  have sz : (pickL xs l u o).length ≤ sizeLine := by
    rw [rl.length]
    have := slicePick_size_le its.toArray l u o
    rw [pick_toList, List.size_toArray, List.size_toArray] at this
    omega
  refine ⟨.ref _, _, I5.laid (t' := s4.toks) (o := .lst (pickL xs l u o)) (fun b ob q => Heap.get?_push_of_some _ q) (Nat.le_refl _) ⟨sz, _, 0, rl, Heap.get?_push_size _ rfl⟩, rfl, ?_⟩
  have gn : Go G4 H4 (upd G4 _ (.lst (pickL xs l u o))) (upd H4 _ (.lst (pickL xs l u o))) := Go.new gg.gh (I5.hok.fresh (Nat.le_refl _))
  exact q _ _ _ ((g1.trans gg).trans gn) (.lst upd_same ((isl_pick (ix.mono gg.g)).mono gn.g))
end
/-- < of ints, of texts -/
def ltD : D → D → Option D
  | .int i, .int j => some (.bl (decide (i < j)))
  | .str a, .str b => some (.bl (decide (a.cps.toList < b.cps.toList)))
  | _, _ => none
def rLtD : R2 := fun x y H Q => rI0 (fun i j => .bl (decide (i < j))) x y H Q ∨ (∃ i j, x = .str i ∧ y = .str j ∧ Q (.bl (decide (i.cps.toList < j.cps.toList))) H)
theorem op_ltD {X : Cx} : OpR X (compareOp .Lt) rLtD := op_lt.or op_lt_str
theorem ro_ltD {K : PySem.W.Frag} : RO K rLtD ltD := fun G H x y d e z Q gh h1 h2 hz q => by
  unfold ltD at hz
  split at hz
  · cases hz
    cases h1.int; cases h2.int
    exact .inl ⟨_, _, rfl, rfl, q _ G H (Go.refl gh) (.bl _)⟩
  · cases hz
    cases h1.str; cases h2.str
    exact .inr ⟨_, _, rfl, rfl, q _ G H (Go.refl gh) (.bl _)⟩
  · cases hz
/-- the tables at the law's start -/
theorem tabs_nil {H : Hp} {cs : List (Addr × Addr)} {T : List (Addr × Str)} (h : ∀ p ∈ cs, H p.2 = some (.tbl #[])) (e : T.map (·.1) = cs.map (·.2)) : LamX.Tabs T H := fun p hp => by
  have hm : p.1 ∈ cs.map (·.2) := by
    rw [← e]
    exact List.mem_map.mpr ⟨p, hp, rfl⟩
  obtain ⟨c, hc, e2⟩ := List.mem_map.mp hm
  refine LamX.TabS.nil ?_
  rw [← e2]
  exact h c hc
end Dl

set_option Elab.async false
set_option linter.all false
set_option maxRecDepth 100000
set_option maxHeartbeats 2000000
/-! Values as data: l.index(x) of plain items. -/
namespace Dl
open PySem PySem.Spec PyProof.Rows L2
variable [TbA]
section
variable {X : Cx} {K : PySem.W.Frag} {o e : Expr} {to te : TE} {mo me : En → Option D} {apos cpos : Pos}
/-- the first place of an equal one -/
def indexD (d e : D) : Option D := match d with
  | .lst ds => (flatD e).bind fun v => (flatL ds).bind fun vs => (vs.findIdx? fun z => eqV z v).bind fun j => some (.int (j : Int))
  | _ => none
theorem de_index (ho : DR X K o to mo) (he : DR X K e te me) (hK : X.K = K := by rfl) (hs : starEach (e :: []) X.env = (false, eval e X.env) :: starEach [] X.env := by rfl)
    (hbase : attributeBase o "index" X.env (eval o X.env) = eval o X.env := by rfl)
    (hfew : ((backTo cpos (starEach (e :: []) X.env)).all (fun x => !x.1) && (backToKw cpos (keywordEach [] X.env)).all (fun x => x.1.isSome) && decide ((e :: ([] : List Expr)).length + ([] : List Keyword).length + (if ([] : List Keyword).isEmpty then 0 else 1) < 30)) = true := by rfl)
    (hline : (apos.endLine == cpos.line) = true := by rfl) (hplain : (backTo cpos (starEach [] X.env)).any (·.1) = false := by rfl) :
    DE X K (.Call (.Attribute o "index" apos) [e] [] cpos) (tBM K "list" (rIndex K) to (tCons te tNil)) (bind2 mo me indexD) := by
  subst hK
  refine ⟨pe_bm PySem.F.plainAttrs_list PySem.F.slot_list_index PySem.F.type_list_index mt_index ho.p (pa_cons he.p pa_nil hs) hbase hfew hline hs hplain, fun H0 env σ H G z Q rp ev q => ?_⟩
  obtain ⟨d, d2, e1, e2, e3⟩ := bind2_some ev
  refine ho.d H0 env σ H G d _ rp e1 fun v G1 H1 g1 i1 => ?_
  unfold indexD at e3
  split at e3
  · obtain ⟨u, e4, e5⟩ := bind_some_of e3
    obtain ⟨us, e6, e7⟩ := bind_some_of e5
    obtain ⟨j, e8, e9⟩ := bind_some_of e7
    cases e9
    have i1' := i1
    obtain ⟨p, vs, rfl, s1, i⟩ := i1'.lst g1.gh
    refine ⟨.inl ⟨rfl, vs, SqL.of s1⟩, ?_⟩
    refine he.d H0 env σ H1 G1 d2 _ (rp.go g1) e2 fun w G2 H2 g2 i2 => ?_
    obtain ⟨p2, vs2, ep, s2, i3⟩ := (i1.go g2).lst g2.gh
    cases ep
    obtain ⟨h1, h2⟩ := flatD_isR i2 e4
    obtain ⟨h3, h4⟩ := flatL_is i3 e6
    subst h1 h3
    obtain ⟨hj, hp, hno⟩ := List.findIdx?_eq_some_iff_getElem.mp e8
    refine ⟨p, vs2, w, j, vs2[j], rfl, rfl, SqL.of s2, h2, h4, List.getElem?_eq_getElem hj, hp, fun m z hm hz => ?_, q _ G2 H2 (g1.trans g2) (.int _)⟩
    obtain ⟨hm2, rfl⟩ := List.getElem?_eq_some_iff.mp hz
    exact Bool.not_eq_true _ ▸ hno m hm
  · cases e3
end
end Dl

set_option Elab.async false
set_option linter.all false
set_option maxRecDepth 100000
set_option maxHeartbeats 2000000
/-! Values as data: is, is not of truth values; x in l where items are data of any depth. -/
namespace Dl
open PySem PySem.Spec PyProof.Rows L2
variable [TbA] {K : PySem.W.Frag} {X : Cx}
def isBD (d e : D) : Option D := match d, e with
  | .bl a, .bl b => some (.bl (decide (a = b)))
  | _, _ => none
def isNotBD (d e : D) : Option D := match d, e with
  | .bl a, .bl b => some (.bl (!decide (a = b)))
  | _, _ => none
theorem ro_isB : RO K rIsB isBD := fun G H x y d e z Q gh h1 h2 hz q => by
  unfold isBD at hz
  split at hz
  · cases hz
    exact ⟨_, _, h1.bl, h2.bl, q _ G H (Go.refl gh) (.bl _)⟩
  · cases hz
theorem ro_notB : RO K rNotB isNotBD := fun G H x y d e z Q gh h1 h2 hz q => by
  unfold isNotBD at hz
  split at hz
  · cases hz
    exact ⟨_, _, h1.bl, h2.bl, q _ G H (Go.refl gh) (.bl _)⟩
  · cases hz
/-- x in l, l of data of any depth -/
def inLD (d e : D) : Option D := match e with
  | .lst es => if shp d = true ∧ shp (.lst es) = true then some (.bl ((pyL es).any fun z => PyData.eqv z d.py)) else none
  | _ => none
def notinLD (d e : D) : Option D := match e with
  | .lst es => if shp d = true ∧ shp (.lst es) = true then some (.bl (!(pyL es).any fun z => PyData.eqv z d.py)) else none
  | _ => none
theorem py_lst (es : List D) : (D.lst es).py = .list (pyL es) := by unfold D.py; rfl
theorem ro_inL : RO K (rInD K) inLD := fun G H x y d e z Q gh h1 h2 hz q => by
  unfold inLD at hz
  split at hz
  · rename_i es
    split at hz
    · rename_i hs
      cases hz
      have h3 := h2.dp gh (SeqAt.canLay_of_shaped hs.2)
      have h4 := hs.2
      unfold shp at h4
      rw [py_lst] at h3 h4
      exact ⟨d.py, pyL es, h1.dp gh (SeqAt.canLay_of_shaped hs.1), h3, hs.1, h4, q _ G H (Go.refl gh) (.bl _)⟩
    · cases hz
  · cases hz
theorem ro_notinL : RO K (rNotInD K) notinLD := fun G H x y d e z Q gh h1 h2 hz q => by
  unfold notinLD at hz
  split at hz
  · rename_i es
    split at hz
    · rename_i hs
      cases hz
      have h3 := h2.dp gh (SeqAt.canLay_of_shaped hs.2)
      have h4 := hs.2
      unfold shp at h4
      rw [py_lst] at h3 h4
      exact ⟨d.py, pyL es, h1.dp gh (SeqAt.canLay_of_shaped hs.1), h3, hs.1, h4, q _ G H (Go.refl gh) (.bl _)⟩
    · cases hz
  · cases hz
theorem units65 {A : Around} {k : Nat} (hr : RoomG k A) : A.units + 65 < cLine := by have := hr.un; omega
theorem op_inLK (hu : X.A.units + 65 < cLine) (hK : X.K = K) : OpR X (compareOp .In) (rInD K) := by subst hK; exact op_inD hu
theorem op_notinLK (hu : X.A.units + 65 < cLine) (hK : X.K = K) : OpR X (compareOp .NotIn) (rNotInD K) := by subst hK; exact op_notInD hu
end Dl

set_option Elab.async false
set_option linter.all false
set_option maxRecDepth 100000
set_option maxHeartbeats 2000000
/-! enumerate(zip(a, b)) of two tuples. -/
namespace EZ
open PySem PySem.Spec PyProof.Rows RZ
section
variable {prog : Program} {w : World} {A : Around} {E : Value → Shared → Prop} {s : Shared} {z TI TO i1 i2 l1 l2 e : Addr}
/-- the zip object: what it keeps of the tuple given out, and whether that is known -/
abbrev ZF (h : Heap) (z TI TO : Addr) (v0 : Value) (f : Bool) : Prop := h.get? z = some { cls := .type "zip", dict := none, data := .fields #[v0, .bool f, .bool false, .ref TI, .ref TO], slots := #[] }
structure ZAt (z TI TO i1 i2 l1 l2 : Addr) (k : Nat) (h : Heap) : Prop where
  obj : IsZip h z TI TO .none ∨ ∃ (T : Addr) (f : Bool), IsZipHeld h z TI TO T f
  own : ∃ x y, IsPair h TO x y
  ti : IsPair h TI (.ref i1) (.ref i2)
  a : h.IsTupleIter i1 l1 k
  b : h.IsTupleIter i2 l2 k
theorem ZAt.ty {k : Nat} (h : ZAt z TI TO i1 i2 l1 l2 k s.heap) : s.TypeIs (.ref z) "zip" := by
  rcases h.obj with q | ⟨_, _, q⟩ <;> exact ⟨_, q, rfl⟩
theorem ZAt.there {k : Nat} {h : Heap} (Z : ZAt z TI TO i1 i2 l1 l2 k h) : ∃ o : Obj, h.get? z = some o ∧ ∀ v, o.data ≠ .cell v := by
  rcases Z.obj with q | ⟨_, _, q⟩ <;> exact ⟨_, q, fun v u => nomatch u⟩
theorem nextOf_zip {Q : Value → Shared → Prop} (ty : s.TypeIs (.ref z) "zip") (run : ∀ A' : Around, A'.handled = A.handled → wpAny (model prog w) A' (Builtin.«zip.__next__» ⟨[.ref z], []⟩) (fun fin s' => ∃ v, fin = .done (.ret v) ∧ Q v s') E s) : wpAny (model prog w) A (Builtin.SmallTypes.nextOf (.ref z)) Q E s := by
  delta Builtin.SmallTypes.nextOf
  exact wpAny_bind (wpAny_callSpecial?_slot (name := Str.ofString "__next__") ty F.slot_zip_next
    (wpAny_call_entry F.slot_zip_next ty F.entry_zip_next (wpAny_mono (run _ (by rfl)) (fun fin s' ⟨v, ev, q⟩ => ⟨v, ev, wpAny_pure q⟩) fun _ _ q => q) (F.args_zip_next_1 _)))
/-- the next pair while the last one is kept -/
theorem held_item {T : Addr} {f : Bool} {oT : Obj} {k1 k2 : Nat} {xs ys : Array Value} {x y : Value} {Q : Value → Shared → Prop} (D : ZipApart z TI TO i1 i2 l1 l2) (hz : IsZipHeld s.heap z TI TO T f) (hT : s.heap.get? T = some oT) (hTI : IsPair s.heap TI (.ref i1) (.ref i2))
    (h1 : s.heap.IsTupleIter i1 l1 k1) (h2 : s.heap.IsTupleIter i2 l2 k2) (t1 : s.heap.IsTuple l1 xs) (t2 : s.heap.IsTuple l2 ys) (hx : xs[k1]? = some x) (hy : ys[k2]? = some y)
    (told : ∀ h', IsZipHeld h' z TI TO T true → h'.IsTupleIter i1 l1 (k1 + 1) → h'.IsTupleIter i2 l2 (k2 + 1) → IsPair h' s.heap.objs.size x y → h'.objs.size = s.heap.objs.size + 1 → (∀ c o, c ≠ z → c ≠ i1 → c ≠ i2 → s.heap.get? c = some o → h'.get? c = some o) → Q (.ref s.heap.objs.size) { s with heap := h' }) : wpAny (model prog w) A (Builtin.«zip.__next__» ⟨[.ref z], []⟩) (fun fin s' => ∃ v, fin = .done (.ret v) ∧ Q v s') E s := by
  refine wpAny_bind (m := field (.ref z) 2) (wpAny_field hz rfl (x := .bool false) rfl (wpAny_bind (wpAny_field hz rfl (x := .ref TI) rfl (wpAny_bind (wpAny_seqItems hTI rfl ?_)))))
  refine wpAny_bind (m := Builtin.SmallTypes.ownedTupleIsFree (.ref z)) (wpAny_tupleHeld_zip hz hT fun g z1 b1 => ?_)
  simp only [if_false, Bool.false_eq_true]
  refine wpAny_bind ?_
  rw [← Array.forIn_toList]
  simp only [List.forIn_nil, List.forIn_cons]
  refine wpAny_bind (wpAny_bind (wpAny_holding (wpAny_bind (m := Builtin.SmallTypes.nextOf (.ref i1)) (nextOf_tuple_item (s := { s with heap := g }) (h1.extBut b1.extBut D.i1z) (t1.extBut b1.extBut D.l1z) hx fun g2 a2 b2 => wpAny_pure (wpAny_pure ?_)))))
  refine wpAny_bind (wpAny_bind (wpAny_holding (wpAny_bind (m := Builtin.SmallTypes.nextOf (.ref i2)) (nextOf_tuple_item (s := { s with heap := g2 }) ((h2.extBut b1.extBut D.i2z).extBut b2.extBut D.i12.symm) ((t2.extBut b1.extBut D.l2z).extBut b2.extBut D.l2i1) hy fun g3 a3 b3 => wpAny_pure (wpAny_pure (wpAny_pure ?_))))))
  refine wpAny_bind (m := newTuple [x, y]) (wpAny_newTuple (wpAny_pure ⟨_, rfl, ?_⟩))
  have size : g3.objs.size = s.heap.objs.size := ((b3.1).trans b2.1).trans b1.1
  have rest : ∀ c o, c ≠ z → c ≠ i1 → c ≠ i2 → s.heap.get? c = some o → g3.get? c = some o := fun c o n1 n2 n3 q => b3.extBut c o n3 (b2.extBut c o n2 (b1.extBut c o n1 q))
  have new : IsPair (g3.push { cls := .type "tuple", data := .seq #[x, y] }) g3.objs.size x y := Heap.get?_push_size _ rfl
  have more : (g3.push { cls := .type "tuple", data := .seq #[x, y] }).objs.size = g3.objs.size + 1 := Heap.size_push ..
  show Q (.ref g3.objs.size) _
  rw [size] at new more ⊢
  exact told _ (Heap.get?_push_of_some _ (b3.extBut _ _ D.i2z.symm (b2.extBut _ _ D.i1z.symm z1))) ((a2.extBut b3.extBut D.i12).at fun o q => Heap.get?_push_of_some _ q) (a3.at fun o q => Heap.get?_push_of_some _ q) new more fun c o n1 n2 n3 q => Heap.get?_push_of_some _ (rest c o n1 n2 n3 q)
theorem held_end {T : Addr} {f : Bool} {oT : Obj} {k1 k2 : Nat} {xs ys : Array Value} {Q : Fin → Shared → Prop} (hh : A.handled = none) (D : ZipApart z TI TO i1 i2 l1 l2) (hz : IsZipHeld s.heap z TI TO T f) (hT : s.heap.get? T = some oT) (hTI : IsPair s.heap TI (.ref i1) (.ref i2))
    (h1 : s.heap.IsTupleIter i1 l1 k1) (h2 : s.heap.IsTupleIter i2 l2 k2) (t1 : s.heap.IsTuple l1 xs) (t2 : s.heap.IsTuple l2 ys) (stop : xs[k1]? = none ∨ ys[k2]? = none)
    (told : ∀ h' ex, (∀ c o, c ≠ z → c ≠ TO → c ≠ i1 → c ≠ i2 → s.heap.get? c = some o → h'.get? c = some o) → (∃ o, h'.get? ex = some o ∧ o.cls = .type "StopIteration") → E (.ref ex) { s with heap := h' }) : wpAny (model prog w) A (Builtin.«zip.__next__» ⟨[.ref z], []⟩) Q E s := by
  refine wpAny_bind (m := field (.ref z) 2) (wpAny_field hz rfl (x := .bool false) rfl (wpAny_bind (wpAny_field hz rfl (x := .ref TI) rfl (wpAny_bind (wpAny_seqItems hTI rfl ?_)))))
  refine wpAny_bind (m := Builtin.SmallTypes.ownedTupleIsFree (.ref z)) (wpAny_tupleHeld_zip hz hT fun g z1 b1 => ?_)
  simp only [if_false, Bool.false_eq_true]
  refine wpAny_bind ?_
  rw [← Array.forIn_toList]
  simp only [List.forIn_nil, List.forIn_cons]
  refine wpAny_bind <| wpAny_bind <| wpAny_holding ?_
  cases hx : xs[k1]? with
  | none => exact wpAny_bind (m := Builtin.SmallTypes.nextOf (.ref i1)) (nextOf_tuple_end (s := { s with heap := g }) hh (h1.extBut b1.extBut D.i1z) (t1.extBut b1.extBut D.l1z) hx fun g2 ex b2 q => told g2 ex (fun c o n1 _ n3 _ u => b2 c o n3 (b1.extBut c o n1 u)) q)
  | some x =>
    have hy : ys[k2]? = none := stop.resolve_left fun n => nomatch hx.symm.trans n
    refine wpAny_bind (m := Builtin.SmallTypes.nextOf (.ref i1)) (nextOf_tuple_item (s := { s with heap := g }) (h1.extBut b1.extBut D.i1z) (t1.extBut b1.extBut D.l1z) hx fun g2 a2 b2 => wpAny_pure (wpAny_pure ?_))
    exact wpAny_bind (wpAny_bind (wpAny_holding (wpAny_bind (m := Builtin.SmallTypes.nextOf (.ref i2)) (nextOf_tuple_end (s := { s with heap := g2 }) hh ((h2.extBut b1.extBut D.i2z).extBut b2.extBut D.i12.symm) ((t2.extBut b1.extBut D.l2z).extBut b2.extBut D.l2i1) hy fun g3 ex b3 q =>
      told g3 ex (fun c o n1 _ n3 n4 u => b3 c o n4 (b2.extBut c o n3 (b1.extBut c o n1 u))) q))))
/-- the next pair while none is kept -/
theorem free_item {v0 : Value} {f : Bool} {u v : Value} {k1 k2 : Nat} {xs ys : Array Value} {x y : Value} {Q : Value → Shared → Prop} (D : ZipApart z TI TO i1 i2 l1 l2) (hz : ZF s.heap z TI TO v0 f) (free : ∀ Q : Bool → Shared → Prop, Q true s → wpAny (model prog w) A (Builtin.SmallTypes.ownedTupleIsFree (.ref z)) Q E s)
    (hTI : IsPair s.heap TI (.ref i1) (.ref i2)) (hTO : IsPair s.heap TO u v) (h1 : s.heap.IsTupleIter i1 l1 k1) (h2 : s.heap.IsTupleIter i2 l2 k2) (t1 : s.heap.IsTuple l1 xs) (t2 : s.heap.IsTuple l2 ys) (hx : xs[k1]? = some x) (hy : ys[k2]? = some y)
    (told : ∀ h', IsZipHeld h' z TI TO s.heap.objs.size false → IsPair h' TO x y → h'.IsTupleIter i1 l1 (k1 + 1) → h'.IsTupleIter i2 l2 (k2 + 1) → IsPair h' s.heap.objs.size x y → h'.objs.size = s.heap.objs.size + 1 → (∀ c o, c ≠ z → c ≠ TO → c ≠ i1 → c ≠ i2 → s.heap.get? c = some o → h'.get? c = some o) → Q (.ref s.heap.objs.size) { s with heap := h' }) : wpAny (model prog w) A (Builtin.«zip.__next__» ⟨[.ref z], []⟩) (fun fin s' => ∃ v, fin = .done (.ret v) ∧ Q v s') E s := by
  refine wpAny_bind (m := field (.ref z) 2) (wpAny_field hz rfl (x := .bool false) rfl (wpAny_bind (wpAny_field hz rfl (x := .ref TI) rfl (wpAny_bind (wpAny_seqItems hTI rfl ?_)))))
  refine wpAny_bind (m := Builtin.SmallTypes.ownedTupleIsFree (.ref z)) (free _ ?_)
  simp only [if_true]
  refine wpAny_bind (wpAny_rule (wpAny_bind (wpAny_field hz rfl (x := .ref TO) rfl (wpAny_bind (wpAny_setField_rec hz (by simp) fun g z1 b1 => ?_)))))
  have z1 : ZF g z TI TO .ellipsis f := z1
  refine wpAny_bind ?_
  simp only [List.forIn_nil, List.forIn_cons, List.zipIdx_nil, List.zipIdx_cons]
  refine wpAny_bind (wpAny_bind (wpAny_onRaise (wpAny_bind (m := Builtin.SmallTypes.nextOf (.ref i1)) (nextOf_tuple_item (s := { s with heap := g }) (h1.extBut b1.extBut D.i1z) (t1.extBut b1.extBut D.l1z) hx fun g2 a2 b2 => wpAny_pure ?_))))
  have p2 : IsPair g2 TO u v := b2.extBut _ _ D.TOi1 (b1.extBut _ _ D.TOz hTO)
  refine wpAny_bind (wpAny_seqItems p2 rfl (wpAny_bind (wpAny_updateSeq_pair p2 fun g3 p3 b3 => wpAny_bind (wpAny_letGo (wpAny_pure ?_)))))
  have p3 : IsPair g3 TO x v := p3
  refine wpAny_bind (wpAny_bind (wpAny_onRaise (wpAny_bind (m := Builtin.SmallTypes.nextOf (.ref i2)) (nextOf_tuple_item (s := { s with heap := g3 }) (((h2.extBut b1.extBut D.i2z).extBut b2.extBut D.i12.symm).extBut b3.extBut D.TOi2.symm) (((t2.extBut b1.extBut D.l2z).extBut b2.extBut D.l2i1).extBut b3.extBut D.l2TO) hy fun g4 a4 b4 => wpAny_pure ?_))))
  have p4 : IsPair g4 TO x v := b4.extBut _ _ D.TOi2 p3
  refine wpAny_bind (wpAny_seqItems p4 rfl (wpAny_bind (wpAny_updateSeq_pair p4 fun g5 p5 b5 => wpAny_bind (wpAny_letGo (wpAny_pure (wpAny_pure ?_))))))
  have p5 : IsPair g5 TO x y := p5
  refine wpAny_bind (wpAny_seqItems p5 rfl (wpAny_bind (wpAny_newTuple ?_)))
  have size : g5.objs.size = s.heap.objs.size := by rw [b5.1, b4.1, b3.1, b2.1, b1.1]
  have z5 : ZF g5 z TI TO .ellipsis f := b5.extBut _ _ D.TOz.symm (b4.extBut _ _ D.i2z.symm (b3.extBut _ _ D.TOz.symm (b2.extBut _ _ D.i1z.symm z1)))
  have rest : ∀ c o, c ≠ z → c ≠ TO → c ≠ i1 → c ≠ i2 → s.heap.get? c = some o → g5.get? c = some o := fun c o n1 n2 n3 n4 q => b5.extBut c o n2 (b4.extBut c o n4 (b3.extBut c o n2 (b2.extBut c o n3 (b1.extBut c o n1 q))))
  have zl : z < g5.objs.size := Heap.lt_size z5
  have z6 : ZF (g5.push { cls := .type "tuple", data := .seq #[x, y] }) z TI TO .ellipsis f := Heap.get?_push_of_some _ z5
  refine wpAny_bind (m := Builtin.SmallTypes.ownedTupleHandOut (.ref z) (.ref g5.objs.size)) ?_
  delta Builtin.SmallTypes.ownedTupleHandOut
  refine wpAny_bind (wpAny_setField_rec z6 (by simp) fun g7 z7 b7 => ?_)
  have z7 : ZF g7 z TI TO (rawInt g5.objs.size) f := z7
  refine wpAny_setField_rec z7 (by simp) fun g8 z8 b8 => wpAny_pure ⟨_, rfl, ?_⟩
  have z8 : ZF g8 z TI TO (rawInt g5.objs.size) false := z8
  have up : ∀ c o, c ≠ z → g5.get? c = some o → g8.get? c = some o := fun c o n q => b8.extBut c o n (b7.extBut c o n (Heap.get?_push_of_some _ q))
  have new : IsPair g8 g5.objs.size x y := b8.extBut _ _ (Nat.ne_of_gt zl) (b7.extBut _ _ (Nat.ne_of_gt zl) (Heap.get?_push_size _ rfl))
  have more : g8.objs.size = g5.objs.size + 1 := by rw [b8.1, b7.1, Heap.size_push]
  show Q (.ref g5.objs.size) _
  rw [size] at z8 new more ⊢
  exact told g8 z8 (up _ _ D.TOz p5) ((((a2.extBut b3.extBut D.TOi1.symm).extBut b4.extBut D.i12).extBut b5.extBut D.TOi1.symm).at fun o q => up _ o D.i1z q) ((a4.extBut b5.extBut D.TOi2.symm).at fun o q => up _ o D.i2z q) new more fun c o n1 n2 n3 n4 q => up c o n1 (rest c o n1 n2 n3 n4 q)
theorem free_end {v0 : Value} {f : Bool} {u v : Value} {k1 k2 : Nat} {xs ys : Array Value} {Q : Fin → Shared → Prop} (hh : A.handled = none) (D : ZipApart z TI TO i1 i2 l1 l2) (hz : ZF s.heap z TI TO v0 f) (free : ∀ Q : Bool → Shared → Prop, Q true s → wpAny (model prog w) A (Builtin.SmallTypes.ownedTupleIsFree (.ref z)) Q E s)
    (hTI : IsPair s.heap TI (.ref i1) (.ref i2)) (hTO : IsPair s.heap TO u v) (h1 : s.heap.IsTupleIter i1 l1 k1) (h2 : s.heap.IsTupleIter i2 l2 k2) (t1 : s.heap.IsTuple l1 xs) (t2 : s.heap.IsTuple l2 ys) (stop : xs[k1]? = none ∨ ys[k2]? = none)
    (told : ∀ h' ex, (∀ c o, c ≠ z → c ≠ TO → c ≠ i1 → c ≠ i2 → s.heap.get? c = some o → h'.get? c = some o) → (∃ o, h'.get? ex = some o ∧ o.cls = .type "StopIteration") → E (.ref ex) { s with heap := h' }) : wpAny (model prog w) A (Builtin.«zip.__next__» ⟨[.ref z], []⟩) Q E s := by
  refine wpAny_bind (m := field (.ref z) 2) (wpAny_field hz rfl (x := .bool false) rfl (wpAny_bind (wpAny_field hz rfl (x := .ref TI) rfl (wpAny_bind (wpAny_seqItems hTI rfl ?_)))))
  refine wpAny_bind (m := Builtin.SmallTypes.ownedTupleIsFree (.ref z)) (free _ ?_)
  simp only [if_true]
  refine wpAny_bind (wpAny_rule (wpAny_bind (wpAny_field hz rfl (x := .ref TO) rfl (wpAny_bind (wpAny_setField_rec hz (by simp) fun g z1 b1 => ?_)))))
  have z1 : ZF g z TI TO .ellipsis f := z1
  refine wpAny_bind ?_
  simp only [List.forIn_nil, List.forIn_cons, List.zipIdx_nil, List.zipIdx_cons]
  have other : ∀ {h : Heap} {ex : Addr} {o : Obj}, ZF h z TI TO .ellipsis f → h.get? ex = some o → o.cls = .type "StopIteration" → ex ≠ z := fun {h ex o} q e c n => by
    subst n
    rw [q] at e
    cases e
    simp at c
  refine wpAny_bind <| wpAny_bind <| wpAny_onRaise ?_
  cases hx : xs[k1]? with
  | none =>
    refine wpAny_bind (m := Builtin.SmallTypes.nextOf (.ref i1)) (nextOf_tuple_end (s := { s with heap := g }) hh (h1.extBut b1.extBut D.i1z) (t1.extBut b1.extBut D.l1z) hx fun g2 ex b2 ⟨o, eo, co⟩ => ?_)
    have z2 : ZF g2 z TI TO .ellipsis f := b2 _ _ D.i1z.symm z1
    exact wpAny_setField_rec z2 (by simp) fun g3 _ b3 => told g3 ex (fun c o n1 _ n3 _ q => b3.extBut c o n1 (b2 c o n3 (b1.extBut c o n1 q))) ⟨o, b3.extBut _ _ (other z2 eo co) eo, co⟩
  | some x =>
    have hy : ys[k2]? = none := stop.resolve_left fun n => nomatch hx.symm.trans n
    refine wpAny_bind (m := Builtin.SmallTypes.nextOf (.ref i1)) (nextOf_tuple_item (s := { s with heap := g }) (h1.extBut b1.extBut D.i1z) (t1.extBut b1.extBut D.l1z) hx fun g2 a2 b2 => wpAny_pure ?_)
    have p2 : IsPair g2 TO u v := b2.extBut _ _ D.TOi1 (b1.extBut _ _ D.TOz hTO)
    refine wpAny_bind (wpAny_seqItems p2 rfl (wpAny_bind (wpAny_updateSeq_pair p2 fun g3 p3 b3 => wpAny_bind (wpAny_letGo (wpAny_pure ?_)))))
    refine wpAny_bind (wpAny_bind (wpAny_onRaise (wpAny_bind (m := Builtin.SmallTypes.nextOf (.ref i2)) (nextOf_tuple_end (s := { s with heap := g3 }) hh (((h2.extBut b1.extBut D.i2z).extBut b2.extBut D.i12.symm).extBut b3.extBut D.TOi2.symm) (((t2.extBut b1.extBut D.l2z).extBut b2.extBut D.l2i1).extBut b3.extBut D.l2TO) hy fun g4 ex b4 ⟨o, eo, co⟩ => ?_))))
    have z4 : ZF g4 z TI TO .ellipsis f := b4 _ _ D.i2z.symm (b3.extBut _ _ D.TOz.symm (b2.extBut _ _ D.i1z.symm z1))
    exact wpAny_setField_rec z4 (by simp) fun g5 _ b5 => told g5 ex (fun c o n1 n2 n3 n4 q => b5.extBut c o n1 (b4 c o n4 (b3.extBut c o n2 (b2.extBut c o n3 (b1.extBut c o n1 q))))) ⟨o, b5.extBut _ _ (other z4 eo co) eo, co⟩
theorem free_none (hz : IsZip s.heap z TI TO .none) (Q : Bool → Shared → Prop) (q : Q true s) : wpAny (model prog w) A (Builtin.SmallTypes.ownedTupleIsFree (.ref z)) Q E s := by
  delta Builtin.SmallTypes.ownedTupleIsFree
  exact wpAny_bind (wpAny_field hz rfl (x := .none) rfl (wpAny_pure q))
theorem gone {a : Addr} {Q : Option Obj → Shared → Prop} (d : s.heap.get? a = none) (q : Q none s) : wpAny (model prog w) A (loadIfAlive a) Q E s := by
  have k : Q (s.heap.get? a) s := d.symm ▸ q
  exact fun _ _ _ => k
theorem free_dead {T : Addr} {f : Bool} (hz : IsZipHeld s.heap z TI TO T f) (dead : s.heap.get? T = none) (Q : Bool → Shared → Prop) (q : Q true s) : wpAny (model prog w) A (Builtin.SmallTypes.ownedTupleIsFree (.ref z)) Q E s := by
  delta Builtin.SmallTypes.ownedTupleIsFree
  refine wpAny_bind <| wpAny_field hz rfl (x := rawInt T) rfl ?_
  refine wpAny_bind (m := loadIfAlive T) (gone dead ?_)
  simp only [if_true, Option.isNone_none]
  exact wpAny_pure q
/-- a pair drawn -/
theorem z_item {k : Nat} {xs ys : Array Value} {x y : Value} {Q : Value → Shared → Prop} (D : ZipApart z TI TO i1 i2 l1 l2) (Z : ZAt z TI TO i1 i2 l1 l2 k s.heap) (t1 : s.heap.IsTuple l1 xs) (t2 : s.heap.IsTuple l2 ys) (hx : xs[k]? = some x) (hy : ys[k]? = some y)
    (told : ∀ h', ZAt z TI TO i1 i2 l1 l2 (k + 1) h' → IsPair h' s.heap.objs.size x y → h'.objs.size = s.heap.objs.size + 1 → (∀ c o, c ≠ z → c ≠ TO → c ≠ i1 → c ≠ i2 → s.heap.get? c = some o → h'.get? c = some o) → Q (.ref s.heap.objs.size) { s with heap := h' }) : wpAny (model prog w) A (Builtin.SmallTypes.nextOf (.ref z)) Q E s := by
  obtain ⟨u, v, hTO⟩ := Z.own
  refine nextOf_zip Z.ty fun A' _ => ?_
  have free : ∀ {v0 : Value} {f : Bool}, ZF s.heap z TI TO v0 f → (∀ Q : Bool → Shared → Prop, Q true s → wpAny (model prog w) A' (Builtin.SmallTypes.ownedTupleIsFree (.ref z)) Q E s) → wpAny (model prog w) A' (Builtin.«zip.__next__» ⟨[.ref z], []⟩) (fun fin s' => ∃ v, fin = .done (.ret v) ∧ Q v s') E s := fun hz fr =>
    free_item D hz fr Z.ti hTO Z.a Z.b t1 t2 hx hy fun h' c1 c2 c3 c4 c5 c6 c7 => told h' ⟨.inr ⟨_, _, c1⟩, ⟨_, _, c2⟩, c7 _ _ D.TIz D.TITO D.TIi1 D.TIi2 Z.ti, c3, c4⟩ c5 c6 c7
  rcases Z.obj with q | ⟨T, f, q⟩
  · exact free q (free_none q)
  · cases al : s.heap.get? T with
    | none => exact free q (free_dead q al)
    | some o => exact held_item D q al Z.ti Z.a Z.b t1 t2 hx hy fun h' c1 c3 c4 c5 c6 c7 => told h' ⟨.inr ⟨T, true, c1⟩, ⟨u, v, c7 _ _ D.TOz D.TOi1 D.TOi2 hTO⟩, c7 _ _ D.TIz D.TIi1 D.TIi2 Z.ti, c3, c4⟩ c5 c6 fun c o n1 _ n3 n4 => c7 c o n1 n3 n4
theorem z_end {k : Nat} {xs ys : Array Value} {Q : Value → Shared → Prop} (hh : A.handled = none) (D : ZipApart z TI TO i1 i2 l1 l2) (Z : ZAt z TI TO i1 i2 l1 l2 k s.heap) (t1 : s.heap.IsTuple l1 xs) (t2 : s.heap.IsTuple l2 ys) (stop : xs[k]? = none ∨ ys[k]? = none)
    (told : ∀ h' ex, (∀ c o, c ≠ z → c ≠ TO → c ≠ i1 → c ≠ i2 → s.heap.get? c = some o → h'.get? c = some o) → (∃ o, h'.get? ex = some o ∧ o.cls = .type "StopIteration") → E (.ref ex) { s with heap := h' }) : wpAny (model prog w) A (Builtin.SmallTypes.nextOf (.ref z)) Q E s := by
  obtain ⟨u, v, hTO⟩ := Z.own
  refine nextOf_zip Z.ty fun A' same => ?_
  rcases Z.obj with q | ⟨T, f, q⟩
  · exact free_end (same.trans hh) D q (free_none q) Z.ti hTO Z.a Z.b t1 t2 stop told
  · cases al : s.heap.get? T with
    | none => exact free_end (same.trans hh) D q (free_dead q al) Z.ti hTO Z.a Z.b t1 t2 stop told
    | some o => exact held_end (same.trans hh) D q al Z.ti Z.a Z.b t1 t2 stop told
end
end EZ

set_option Elab.async false
set_option linter.all false
set_option maxRecDepth 100000
set_option maxHeartbeats 2000000
/-! enumerate(zip(a, b)) of two tuples: the walk. -/
namespace EZ
open PySem PySem.Spec PyProof.Rows RZ
section
variable {prog : Program} {w : World} {A : Around} {E : Value → Shared → Prop} {s : Shared} {e it : Addr}
/-- enumerate's next pair, whatever it counts -/
theorem count_item {c : Int} {old : Value} {R : Value → Heap → Prop} {Q : Option Value → Shared → Prop} (he : IsEnum s.heap e it c old)
    (nx : ∀ (A' : Around) (E' Q' : Value → Shared → Prop), (∀ x g, R x g → Q' x { s with heap := g }) → wpAny (model prog w) A' (Builtin.SmallTypes.nextOf (.ref it)) Q' E' s) (kp : ∀ x g, R x g → IsEnum g e it c old)
    (told : ∀ x g h', R x g → IsEnumOut h' e it (c + 1) x g.objs.size → IsPair h' g.objs.size (.int c s.toks) x → h'.objs.size = g.objs.size + 1 → (∀ b o, b ≠ e → g.get? b = some o → h'.get? b = some o) → Q (some (.ref g.objs.size)) { s with heap := h', toks := s.toks + 1 }) : wpAny (model prog w) A (pyNext (.ref e)) Q E s := by
  have ty : s.TypeIs (.ref e) "enumerate" := ⟨_, he, rfl⟩
  unfold pyNext
  refine wpAny_bind (wpAny_attempt (wpAny_callSpecial?_slot (name := Str.ofString "__next__") ty F.slot_enumerate_next (wpAny_call_entry F.slot_enumerate_next ty F.entry_enumerate_next ?_ (F.args_enumerate_next_1 _))))
  refine wpAny_bind (m := field (.ref e) 2) (wpAny_field he rfl (x := .ref it) rfl (wpAny_bind (nx _ _ _ fun x g r => ?_)))
  have e1 : IsEnum g e it c old := kp x g r
  show wpAny _ _ (field (.ref e) 3 >>= _) _ _ { s with heap := g }
  refine wpAny_bind (wpAny_field (s := { s with heap := g }) e1 rfl (x := rawInt c) rfl ?_)
  show wpAny _ _ (field (.ref e) 4 >>= _) _ _ { s with heap := g }
  refine wpAny_bind (wpAny_field (s := { s with heap := g }) e1 rfl (x := .none) rfl ?_)
  show wpAny _ _ (mkInt c >>= _) _ _ { s with heap := g }
  refine wpAny_bind (wpAny_mkInt (?_))
  show wpAny _ _ (setField (.ref e) 3 (rawInt (c + 1)) >>= _) _ _ { s with heap := g, toks := s.toks + 1 }
  refine wpAny_bind (wpAny_setField_rec e1 (by simp) fun g2 e2 b2 => ?_)
  have e2 : IsEnum g2 e it (c + 1) old := e2
  show wpAny _ _ (setField (.ref e) 4 .none >>= _) _ _ { s with heap := g2, toks := s.toks + 1 }
  refine wpAny_bind (wpAny_setField_rec e2 (by simp) fun g3 e3 b3 => ?_)
  have e3 : IsEnum g3 e it (c + 1) old := e3
  show wpAny _ _ (newTuple [.int c s.toks, x] >>= _) _ _ { s with heap := g3, toks := s.toks + 1 }
  refine wpAny_bind (m := newTuple _) (wpAny_newTuple ?_)
  have size : g3.objs.size = g.objs.size := b3.1.trans b2.1
  have el : e < g.objs.size := Heap.lt_size e1
  have e4 : IsEnum (g3.push { cls := .type "tuple", data := .seq #[.int c s.toks, x] }) e it (c + 1) old := Heap.get?_push_of_some _ e3
  show wpAny _ _ (Builtin.SmallTypes.ownedTupleIsFree (.ref e) >>= _) _ _ { s with heap := g3.push { cls := .type "tuple", data := .seq #[.int c s.toks, x] }, toks := s.toks + 1 }
  refine wpAny_bind ?_
  delta Builtin.SmallTypes.ownedTupleIsFree
  refine wpAny_bind (wpAny_field e4 rfl (x := .none) rfl (wpAny_pure ?_))
  simp only [if_true]
  refine wpAny_bind (wpAny_rule (wpAny_bind (wpAny_field e4 rfl (x := old) rfl (wpAny_bind (wpAny_setField_rec e4 (by simp) fun g5 e5 b5 => ?_)))))
  have e5 : IsEnum g5 e it (c + 1) x := e5
  refine wpAny_bind (m := Builtin.SmallTypes.ownedTupleHandOut (.ref e) (.ref g3.objs.size)) ?_
  delta Builtin.SmallTypes.ownedTupleHandOut
  refine wpAny_bind (wpAny_setField_rec e5 (by simp) fun g6 e6 b6 => ?_)
  have e6 : IsEnumOut g6 e it (c + 1) x g3.objs.size := e6
  refine wpAny_setField_rec e6 (by simp) fun g7 e7 b7 => wpAny_bind (wpAny_letGo (wpAny_pure ⟨_, rfl, wpAny_pure ?_⟩))
  have e7 : IsEnumOut g7 e it (c + 1) x g3.objs.size := e7
  have up : ∀ b o, b ≠ e → g3.get? b = some o → g7.get? b = some o := fun b o n q => b7.extBut b o n (b6.extBut b o n (b5.extBut b o n (Heap.get?_push_of_some _ q)))
  have new : IsPair g7 g3.objs.size (.int c s.toks) x := b7.extBut _ _ (Nat.ne_of_gt (size ▸ el)) (b6.extBut _ _ (Nat.ne_of_gt (size ▸ el)) (b5.extBut _ _ (Nat.ne_of_gt (size ▸ el)) (Heap.get?_push_size _ rfl)))
  have more : g7.objs.size = g3.objs.size + 1 := by rw [b7.1, b6.1, b5.1, Heap.size_push]
  show Q (some (.ref g3.objs.size)) _
  rw [size] at e7 new more ⊢
  exact told x g g7 r e7 new more fun b o n q => up b o n (b3.extBut b o n (b2.extBut b o n q))
theorem count_end {c : Int} {old : Value} {R : Heap → Prop} {Q : Option Value → Shared → Prop} (hh : A.handled = none) (he : IsEnum s.heap e it c old)
    (nx : ∀ (A' : Around) (E' Q' : Value → Shared → Prop), A'.handled = none → (∀ g ex, R g → (∃ o, g.get? ex = some o ∧ o.cls = .type "StopIteration") → E' (.ref ex) { s with heap := g }) → wpAny (model prog w) A' (Builtin.SmallTypes.nextOf (.ref it)) Q' E' s)
    (told : ∀ g, R g → Q none { s with heap := g }) : wpAny (model prog w) A (pyNext (.ref e)) Q E s := by
  have ty : s.TypeIs (.ref e) "enumerate" := ⟨_, he, rfl⟩
  unfold pyNext
  refine wpAny_bind (wpAny_attempt (wpAny_callSpecial?_slot (name := Str.ofString "__next__") ty F.slot_enumerate_next (wpAny_call_entry F.slot_enumerate_next ty F.entry_enumerate_next ?_ (F.args_enumerate_next_1 _))))
  refine wpAny_bind (m := field (.ref e) 2) (wpAny_field he rfl (x := .ref it) rfl (wpAny_bind (nx _ _ _ hh fun g ex r ⟨o, ho, hc⟩ => ?_)))
  exact wpAny_bind (wpAny_isInstance (T := "StopIteration") (b := true) ⟨o, ho, hc⟩ isSubtype_stop (wpAny_pure (told g r)))
end
set_option maxHeartbeats 1000000 in
theorem meets_count_zip (z TI TO : Addr) :
    Meets (Builtin.«enumerate.__new__» ⟨[.type "enumerate", .ref z], []⟩) (fun _ R s => IsZip s.heap z TI TO .none ∧
      R (.ok (.ret (.ref s.heap.objs.size))) { s with heap := s.heap.push { cls := .type "enumerate", data := .fields #[.none, .bool false, .ref z, rawInt 0, .none, .none] } }) :=
  Meets.of_wp fun prog w A R s given => by
    obtain ⟨hp, ge, dr, tk, os⟩ := s
    obtain ⟨zz, rest⟩ := given
    have is := sub_enumerate
    have own : ∀ {A' : Around} {E : Value → Shared → Prop} {Q : Value → Shared → Prop}, Q (.ref z) ⟨hp, ge, dr, tk, os⟩ → wpAny (model prog w) A' (pyIter (.ref z)) Q E ⟨hp, ge, dr, tk, os⟩ := fun q => wpAny_pyIter_zip zz q
    wp_walk using own
    refine wpAny_stack_any fun _ => wpAny_pure ?_
    split
    · rename_i c _ _ _ _ _
      cases (c == Value.type "enumerate") <;> (wp_walk using own; exact ⟨_, rfl, rest⟩)
    · wp_walk using own
      exact ⟨_, rfl, rest⟩
section
variable {prog : Program} {w : World} {A : Around} {E : Value → Shared → Prop} {s : Shared}
theorem count_zip {z TI TO : Addr} {Q : Value → Shared → Prop} (hz : IsZip s.heap z TI TO .none)
    (told : ∀ h', IsEnum h' s.heap.objs.size z 0 .none → h'.objs.size = s.heap.objs.size + 1 → (∀ b o, s.heap.get? b = some o → h'.get? b = some o) → Q (.ref s.heap.objs.size) { s with heap := h' }) : wpAny (model prog w) A (call (.type "enumerate") [.ref z]) Q E s := by
  refine callType_new F.called_enumerate (by decide) (F.typeCall_enumerate_1 _) (F.newCall_enumerate_1 _) (fun obj => F.args_object_init_2 obj _) F.entry_enumerate_new (meets_count_zip z TI TO) ⟨hz, ?_⟩
  have new : IsEnum (s.heap.push { cls := .type "enumerate", data := .fields #[.none, .bool false, .ref z, rawInt 0, .none, .none] }) s.heap.objs.size z 0 .none := Heap.get?_push_size _ rfl
  exact ⟨⟨_, new, rfl⟩, told _ new (Heap.size_push ..) fun b o q => Heap.get?_push_of_some _ q⟩
end
end EZ

set_option Elab.async false
set_option linter.all false
set_option maxRecDepth 100000
set_option maxHeartbeats 2000000
/-! for i, (x, y) in enumerate(zip(a, b)), a and b tuples. -/
namespace EZ
open PySem PySem.Spec PyProof.Rows RZ L2
/-- each turn lays the pair, and the pair of the count and of it -/
def Itn (K : PySem.W.Frag) (a b : Addr) : It :=
  ⟨fun j H => ∃ (ps qs : List V) (x y : V), SqT K H a ps ∧ SqT K H b qs ∧ ps[j]? = some x ∧ qs[j]? = some y, fun i H v H' => ∃ T1 T2 x y, v = .ref T2 ∧ H T1 = none ∧ upd H T1 (.tup [x, y]) T2 = none ∧ H' = upd (upd H T1 (.tup [x, y])) T2 (.tup [.int (i : Nat), .ref T1]) ∧ (∀ xs, SqT K H a xs → xs[i]? = some x) ∧ ∀ ys, SqT K H b ys → ys[i]? = some y,
    fun j H => ∃ ps qs : List V, SqT K H a ps ∧ SqT K H b qs ∧ (ps.length ≤ j ∨ qs.length ≤ j)⟩
theorem six {P : Addr → Prop} {e z TI TO i1 i2 : Addr} (h1 : P e) (h2 : P z) (h3 : P TI) (h4 : P TO) (h5 : P i1) (h6 : P i2) : ∀ b ∈ [e, z, TI, TO, i1, i2], P b := fun b hb => by
  have q : b = e ∨ b = z ∨ b = TI ∨ b = TO ∨ b = i1 ∨ b = i2 := by simpa using hb
  rcases q with q | q | q | q | q | q <;> (rw [q]; assumption)
theorem turn_count {P : Program} {w : World} {K : PySem.W.Frag} {elts : List Expr} {kk : Nat} {tpos : Pos} {a b e z TI TO i1 i2 : Addr} (D : ZipApart z TI TO i1 i2 a b) (ne : e ≠ z ∧ e ≠ TI ∧ e ≠ TO ∧ e ≠ i1 ∧ e ≠ i2) :
    Turn P w K (.Tuple elts kk tpos) (Itn K a b) [e, z, TI, TO, i1, i2] e (fun i h => (∃ old, IsEnum h e z ((i : Nat) : Int) old) ∧ ZAt z TI TO i1 i2 a b i h) where
  mem := by simp
  obj := fun i h st => by
    obtain ⟨⟨old, he⟩, Z⟩ := st
    obtain ⟨x, y, hTO⟩ := Z.own
    obtain ⟨o1, p1, _, d1⟩ := id Z.a
    obtain ⟨o2, p2, _, d2⟩ := id Z.b
    exact six ⟨_, he, fun v q => nomatch q⟩ Z.there ⟨_, Z.ti, fun v q => nomatch q⟩ ⟨_, hTO, fun v q => nomatch q⟩ ⟨o1, p1, fun v q => by rw [d1] at q; cases q⟩ ⟨o2, p2, fun v q => by rw [d2] at q; cases q⟩
  keep := fun i h h' st k => by
    obtain ⟨⟨old, he⟩, Z⟩ := st
    obtain ⟨x, y, hTO⟩ := Z.own
    refine ⟨⟨old, k e (by simp) _ he⟩, ⟨?_, ⟨x, y, k TO (by simp) _ hTO⟩, k TI (by simp) _ Z.ti, Z.a.at fun o q => k i1 (by simp) o q, Z.b.at fun o q => k i2 (by simp) o q⟩⟩
    rcases Z.obj with q | ⟨T, f, q⟩
    · exact .inl (k z (by simp) _ q)
    · exact .inr ⟨T, f, k z (by simp) _ q⟩
  item := by
    intro X eP ew hK hc i pins s σ H E I hf st way
    subst eP ew hK
    obtain ⟨⟨old, he⟩, Z⟩ := st
    obtain ⟨xs, ys, x, y, inA, inB, hx, hy⟩ := way
    obtain ⟨va, oa, p, _⟩ := I.tuple inA
    obtain ⟨vb, ob, p2, _⟩ := I.tuple inB
    obtain ⟨u, hu, qa⟩ := oa.get hx
    obtain ⟨u2, hu2, qb⟩ := ob.get hy
    obtain ⟨n1, n2, n3, n4, n5⟩ := ne
    obtain ⟨tx, ty, hTO⟩ := Z.own
    obtain ⟨oz, pz, _⟩ := Z.there
    obtain ⟨o1, p1, _⟩ := id Z.a
    obtain ⟨o2, p4, _⟩ := id Z.b
    have lt : ∀ b ∈ [e, z, TI, TO, i1, i2], b < s.heap.objs.size := six (Heap.lt_size he) (Heap.lt_size pz) (Heap.lt_size Z.ti) (Heap.lt_size hTO) (Heap.lt_size p1) (Heap.lt_size p4)
    refine count_item (R := fun v g => v = .ref s.heap.objs.size ∧ ZAt z TI TO i1 i2 a b (i + 1) g ∧ IsPair g s.heap.objs.size u u2 ∧ g.objs.size = s.heap.objs.size + 1 ∧ (∀ c o, c ≠ z → c ≠ TO → c ≠ i1 → c ≠ i2 → s.heap.get? c = some o → g.get? c = some o)) he
      (fun A' E' Q' t => z_item D Z (show s.heap.IsTuple a va.toArray from p) (show s.heap.IsTuple b vb.toArray from p2) (x := u) (y := u2) (by simpa using hu) (by simpa using hu2) fun h' a1 a2 a3 a4 => t _ h' ⟨rfl, a1, a2, a3, a4⟩)
      (fun v g r => r.2.2.2.2 _ _ n1 n3 n4 n5 he) fun v g h' r ho hp hs kp => ?_
    obtain ⟨ev, Z1, hT, gs, gk⟩ := r
    subst ev
    refine ⟨_, rfl, wpAny_letOwnedTupleGo_enum (s := { s with heap := h', toks := s.toks + 1 }) ho fun h2 he2 sb => ?_⟩
    have f1 : H s.heap.objs.size = none := I.hok.fresh (Nat.le_refl _)
    have I1 : Inv X pins σ (upd H s.heap.objs.size (.tup [x, y])) { s with heap := g, toks := s.toks } :=
      I.turnedNew (ch := [e, z, TI, TO, i1, i2]) (fun c o hb q => gk c o (fun q' => hb (by simp [q'])) (fun q' => hb (by simp [q'])) (fun q' => hb (by simp [q'])) (fun q' => hb (by simp [q'])) q) hf (Nat.le_refl _) ⟨by show 2 ≤ sizeLine; decide, [u, u2], .cons qa (.cons qb .nil), ⟨_, hT, rfl, _, rfl⟩⟩
    have f2 : upd H s.heap.objs.size (.tup [x, y]) g.objs.size = none := I1.hok.fresh (Nat.le_refl _)
    have hf1 : ∀ c ∈ [e, z, TI, TO, i1, i2], FpOk X pins (upd H s.heap.objs.size (.tup [x, y])) c := fun c hc' => by
      obtain ⟨q0, q1⟩ := hf c hc'
      refine ⟨?_, q1⟩
      rw [upd_ne (Nat.ne_of_lt (lt c hc'))]
      exact q0
    have gl : e < g.objs.size := gs ▸ Nat.lt_succ_of_lt (lt e (by simp))
    have up : ∀ c o, c ≠ e → g.get? c = some o → h2.get? c = some o := fun c o n q => (sb.2 c n).trans (kp c o n q)
    have I2 : Inv X pins σ (upd (upd H s.heap.objs.size (.tup [x, y])) g.objs.size (.tup [.int (i : Nat), .ref s.heap.objs.size])) { s with heap := h2, toks := s.toks + 1 } :=
      I1.turnedNew (ch := [e, z, TI, TO, i1, i2]) (fun c o hb q => up c o (fun q' => hb (by simp [q'])) q) hf1 (Nat.le_refl _)
        ⟨by show 2 ≤ sizeLine; decide, [.int i s.toks, .ref s.heap.objs.size], .cons ⟨_, rfl⟩ (.cons rfl .nil), ⟨_, (sb.2 _ (Nat.ne_of_gt gl)).trans hp, rfl, _, rfl⟩⟩
    refine ⟨.ref g.objs.size, _, I2, rfl, ⟨s.heap.objs.size, g.objs.size, x, y, rfl, f1, f2, rfl, fun l hl => by rw [I.tuple_inj hl inA]; exact hx, fun l hl => by rw [I.tuple_inj hl inB]; exact hy⟩, ⟨⟨.ref s.heap.objs.size, ?_⟩, ?_⟩, fun c hc' => ?_⟩
    · rw [show ((i + 1 : Nat) : Int) = (i : Int) + 1 by omega]
      exact he2
    · obtain ⟨x1, y1, hTO1⟩ := Z1.own
      refine ⟨?_, ⟨x1, y1, up _ _ n3.symm hTO1⟩, up _ _ n2.symm Z1.ti, Z1.a.at fun o q => up _ o n4.symm q, Z1.b.at fun o q => up _ o n5.symm q⟩
      rcases Z1.obj with q | ⟨T, f, q⟩
      · exact .inl (up _ _ n1.symm q)
      · exact .inr ⟨T, f, up _ _ n1.symm q⟩
    · rw [upd_ne (Nat.ne_of_lt (gs ▸ Nat.lt_succ_of_lt (lt c hc')))]
      exact (hf1 c hc').1
  done := by
    intro X eP ew hK hc i pins s σ H E I hf st way
    subst eP ew hK
    obtain ⟨⟨old, he⟩, Z⟩ := st
    obtain ⟨xs, ys, inA, inB, stop⟩ := way
    obtain ⟨va, oa, p, _⟩ := I.tuple inA
    obtain ⟨vb, ob, p2, _⟩ := I.tuple inB
    have l1 := oa.length
    have l2 := ob.length
    have q : va.toArray[i]? = none ∨ vb.toArray[i]? = none := by
      rcases stop with q | q
      · exact .inl (by simp; omega)
      · exact .inr (by simp; omega)
    exact count_end (R := fun g => ∀ c o, c ≠ z → c ≠ TO → c ≠ i1 → c ≠ i2 → s.heap.get? c = some o → g.get? c = some o) (I.ok.hd hc) he
      (fun A' E' Q' hh t => z_end hh D Z (show s.heap.IsTuple a va.toArray from p) (show s.heap.IsTuple b vb.toArray from p2) q fun h' ex k o => t h' ex k o)
      fun g k => ⟨rfl, I.turnedL (t' := s.toks) (ch := [e, z, TI, TO, i1, i2]) (fun c o hb r => k c o (fun q' => hb (by simp [q'])) (fun q' => hb (by simp [q'])) (fun q' => hb (by simp [q'])) (fun q' => hb (by simp [q'])) r) hf⟩
  self := fun A i s Q E st h => wpAny_pyIter_enum st.1.choose_spec h
def iCount (K : PySem.W.Frag) (ta : TA) : TI := fun σ H R => ta σ H fun vs H1 => ∃ a b xs ys, vs = [.ref a, .ref b] ∧ SqT K H1 a xs ∧ SqT K H1 b ys ∧ R (Itn K a b) H1
theorem pi_count {X : Cx} {e1 e2 : Expr} {ta : TA} {p p2 pos pos2 tpos : Pos} {elts : List Expr} {kk : Nat} (hg : Gl X "zip") (hm : X.mg "zip" = none) (kg : Gl X "enumerate") (km : X.mg "enumerate" = none) (ha : PA X [e1, e2] ta)
    (hs : starEach [e1, e2] X.env = (false, eval e1 X.env) :: starEach [e2] X.env := by rfl) (hpl : (backTo pos2 (starEach [e2] X.env)).any (·.1) = false := by rfl)
    (ks : starEach [Expr.Call (.Name "zip" p2) [e1, e2] [] pos2] X.env = [(false, eval (.Call (.Name "zip" p2) [e1, e2] [] pos2) X.env)] := by rfl) :
    PI X (.Tuple elts kk tpos) (.Call (.Name "enumerate" p) [.Call (.Name "zip" p2) [e1, e2] [] pos2] [] pos) (iCount X.K ta) := by
  refine ⟨fun pins s σ H R I way => ?_⟩
  refine Call_ (ld_blt I kg km boot_enumerate (PyProof.Rows.callWith_type1 ?_ ks rfl))
  rw [ks]
  refine Calls.spliced_cons ?_
  refine Call_ (ld_blt I hg hm PyProof.Rows.boot_zip (PyProof.Rows.callWith_type1 (thn (ha.run pos2 pins s σ H _ I way) fun us s1 ⟨vs, H1, I1, r1, q1⟩ => ?_) hs hpl))
  obtain ⟨a, b, xs, ys, ex, inA, inB, q⟩ := q1
  subst ex
  cases r1 with
  | cons r rr =>
    cases rr with
    | cons r' rr =>
      cases rr
      cases r
      cases r'
      obtain ⟨va, oa, p1, _⟩ := I1.tuple inA
      obtain ⟨vb, ob, p3, _⟩ := I1.tuple inB
      have lowA : a < s1.heap.objs.size := p1.lt
      have lowB : b < s1.heap.objs.size := p3.lt
      refine call_zipT (show s1.heap.IsTuple a va.toArray from p1) (show s1.heap.IsTuple b vb.toArray from p3) fun h' hz hTI hTO h1 h2 hsz hk => ?_
      refine Calls.spliced_nil ?_
      refine count_zip (s := { s1 with heap := h' }) hz fun g he gs gk => wpAny_pyIter_enum (s := { s1 with heap := g }) he ?_
      have I2 : Inv X pins σ H1 { s1 with heap := g } := I1.kept (t' := s1.toks) fun c o q => gk c o (hk c o q)
      have en : h'.objs.size = s1.heap.objs.size + 5 := hsz
      refine ⟨h'.objs.size, [h'.objs.size, s1.heap.objs.size + 4, s1.heap.objs.size + 2, s1.heap.objs.size + 3, s1.heap.objs.size, s1.heap.objs.size + 1], _, _, H1, rfl, I2,
        turn_count (PySem.W.ktu_apart s1.heap.objs.size a b lowA lowB) (by rw [en]; refine ⟨?_, ?_, ?_, ?_, ?_⟩ <;> (refine PySem.W.neN ?_; omega)), ⟨⟨.none, he⟩, ⟨.inl (gk _ _ hz), ⟨_, _, gk _ _ hTO⟩, gk _ _ hTI, h1.at fun o q => gk _ o q, h2.at fun o q => gk _ o q⟩⟩, ?_, q⟩
      have far : ∀ k : Nat, FpOk X pins H1 (s1.heap.objs.size + k) := fun k => I1.fpOk (Nat.le_add_right _ _) (I1.hok.fresh (Nat.le_add_right _ _))
      rw [en]
      exact six (far 5) (far 4) (far 2) (far 3) (far 0) (far 1)
end EZ
namespace Dl
open PySem PySem.Spec PyProof.Rows RZ L2 EZ
variable [TbA]
def countD : Nat → List D → List D → List D
  | n, x :: xs, y :: ys => .tup [.int n, .tup [x, y]] :: countD (n + 1) xs ys
  | _, _, _ => []
theorem count_at : ∀ (ds es : List D) (n i : Nat), (countD n ds es)[i]? = (match ds[i]?, es[i]? with | some x, some y => some (.tup [.int ((n + i : Nat) : Int), .tup [x, y]]) | _, _ => none)
  | [], es, n, i => by simp [countD]
  | x :: ds, [], n, i => by simp only [countD, List.getElem?_nil]; split <;> simp_all
  | x :: ds, y :: es, n, 0 => by simp [countD]
  | x :: ds, y :: es, n, i + 1 => by
    have h := count_at ds es (n + 1) i
    simp only [countD, List.getElem?_cons_succ]
    rw [h, show n + 1 + i = n + (i + 1) by omega]
theorem count_len : ∀ (ds es : List D) (n : Nat), (countD n ds es).length = min ds.length es.length
  | [], es, n => by simp [countD]
  | x :: ds, [], n => by simp [countD]
  | x :: ds, y :: es, n => by simp [countD, count_len ds es (n + 1), Nat.succ_min_succ]
theorem src_count {K : PySem.W.Frag} {G : Hp} {a b : Addr} {xs ys : List V} {ds es : List D} {B : Hp} (h : SqT K B a xs) (h' : SqT K B b ys) (i : IsL K G xs ds) (i' : IsL K G ys es) : Src K (Itn K a b) (countD 0 ds es) B G := by
  refine ⟨fun j H v H' => ∃ T1 T2 x y, v = .ref T2 ∧ H T1 = none ∧ upd H T1 (.tup [x, y]) T2 = none ∧ H' = upd (upd H T1 (.tup [x, y])) T2 (.tup [.int (j : Nat), .ref T1]) ∧ xs[j]? = some x ∧ ys[j]? = some y, ?_, fun j H v H' d G' e s1 s2 y => ?_⟩
  · rw [count_len, ← i.len, ← i'.len]
    refine ⟨fun j H hj q => ?_, fun H q => ⟨xs, ys, same_t q h, same_t q h', by omega⟩, fun j H v H' hj q y => ?_⟩
    · have h1 : j < xs.length := by omega
      have h2 : j < ys.length := by omega
      exact ⟨xs, ys, xs[j], ys[j], same_t q h, same_t q h', by simp [h1], by simp [h2]⟩
    · obtain ⟨T1, T2, x, z, a1, a2, a3, a4, a5, a6⟩ := y
      exact ⟨T1, T2, x, z, a1, a2, a3, a4, a5 xs (same_t q h), a6 ys (same_t q h')⟩
  · obtain ⟨T1, T2, u, v, rfl, n1, n2, rfl, e1, e2⟩ := y
    obtain ⟨d1, h1, k1⟩ := i.getv e1
    obtain ⟨d2, h2, k2⟩ := i'.getv e2
    rw [count_at, h1, h2] at e
    cases e
    obtain ⟨g, p⟩ := go_new_tup (vs := [u, v]) (ds := [d1, d2]) s2 n1 (.cons (k1.mono s1) (.cons (k2.mono s1) .nil))
    obtain ⟨g2, p2⟩ := go_new_tup (vs := [.int (j : Nat), .ref T1]) (ds := [.int (j : Nat), .tup [d1, d2]]) g.gh n2 (.cons (.int _) (.cons p .nil))
    refine ⟨_, g.trans g2, ?_⟩
    rw [Nat.zero_add]
    exact p2
def countM (ms : En → Option (List D)) (env : En) : Option (List D) := match ms env with
  | some [.tup ds, .tup es] => some (countD 0 ds es)
  | _ => none
theorem di0_count {X : Cx} {K : PySem.W.Frag} {e1 e2 : Expr} {ta : TA} {p p2 pos pos2 tpos : Pos} {elts : List Expr} {kk : Nat} {ms : En → Option (List D)} (hg : Gl X "zip") (hm : X.mg "zip" = none) (kg : Gl X "enumerate") (km : X.mg "enumerate" = none) (ha : DA X K [e1, e2] ta ms) (hK : X.K = K := by rfl)
    (hs : starEach [e1, e2] X.env = (false, eval e1 X.env) :: starEach [e2] X.env := by rfl) (hpl : (backTo pos2 (starEach [e2] X.env)).any (·.1) = false := by rfl)
    (ks : starEach [Expr.Call (.Name "zip" p2) [e1, e2] [] pos2] X.env = [(false, eval (.Call (.Name "zip" p2) [e1, e2] [] pos2) X.env)] := by rfl) :
    DI0 X K (.Tuple elts kk tpos) (.Call (.Name "enumerate" p) [.Call (.Name "zip" p2) [e1, e2] [] pos2] [] pos) (iCount K ta) (countM ms) := by
  subst hK
  refine ⟨pi_count hg hm kg km ha.p hs hpl ks, fun H0 env σ H G ds R r e q => ?_⟩
  unfold countM at e
  split at e
  · rename_i d1 d2 e1
    cases e
    refine ha.d H0 env σ H G _ _ r e1 fun vs G1 H1 g1 i1 => ?_
    cases i1 with
    | cons a b =>
      cases b with
      | cons a2 b =>
        cases b
        cases a with
        | tup s1 j1 =>
          cases a2 with
          | tup s2 j2 => exact ⟨_, _, _, _, rfl, same_t g1.gh s1, same_t g1.gh s2, q _ G1 H1 g1 (src_count (sqT_noT s1) (sqT_noT s2) j1 j2)⟩
  · cases e
end Dl

set_option Elab.async false
set_option linter.all false
set_option maxRecDepth 100000
set_option maxHeartbeats 2000000
/-! Values as data: repr, 1 << k. -/
namespace Dl
open PySem PySem.Spec PyProof.Rows L2
variable [TbA] {K : PySem.W.Frag} {X : Cx}
def reprOk (d : PyData) : Prop := d.canLay0 = true ∧ d.showable = true ∧ d.depth ≤ 50 ∧ d.shown.length ≤ 100000
instance (d : PyData) : Decidable (reprOk d) := by unfold reprOk; infer_instance
def reprD : List D → Option D
  | [d] => if reprOk d.py then some (.str d.py.shown) else none
  | _ => none
def rReprD (K : PySem.W.Frag) : List V → Hp → VK → Prop := fun vs H Q => ∃ v d, vs = [v] ∧ Dp K H v d ∧ reprOk d ∧ Q (.str d.shown) H
theorem cr_reprD (hu : X.A.units + 64 < cLine) (hg : X.A.guards = some []) : CallR X (.builtin "repr") (rReprD X.K) := by
  rintro pins s σ H vs us Q I r ⟨v, d, rfl, hd, ⟨ok1, ok2, ok3, ok4⟩, q⟩
  obtain ⟨u, rfl, ru⟩ := vals1 r
  obtain ⟨as, hr⟩ := Dp.reads I d v u hd ru
  have hz := sz5 ok4
  have fin : ∀ (t : Tok) (h' : Heap) (tk : Nat), (∀ b o, s.heap.get? b = some o → h'.get? b = some o) → EP X pins σ Q (.str d.shown t) { s with heap := h', toks := tk } := fun t h' tk k => ⟨.str d.shown, H, I.kept k, ⟨_, rfl⟩, q⟩
  cases hr with
  | none => exact P.repr_of_none (fin s.toks s.heap (s.toks + 1) fun _ _ e => e)
  | bool b => exact P.repr_of_bool (fin s.toks s.heap (s.toks + 1) fun _ _ e => e)
  | int i t => exact P.repr_of_int (of_decide_eq_true ok2) (fin s.toks s.heap (s.toks + 1) fun _ _ e => e)
  | str x t => exact P.repr_of_str (fin s.toks s.heap (s.toks + 1) fun _ _ e => e) hz
  | list a b c e => exact repr_of_reads' (Reads.list a b c e) ok2 (PyData.noDict_hsm (PyData.hasDict_of_canLay _ ok1)) hg (by omega) (fun _ _ e => e) (fun h' u tk k => fin u h' tk k) hz
  | tuple a b c e => exact repr_of_reads' (Reads.tuple a b c e) ok2 (PyData.noDict_hsm (PyData.hasDict_of_canLay _ ok1)) hg (by omega) (fun _ _ e => e) (fun h' u tk k => fin u h' tk k) hz
  | dict => unfold PyData.canLay0 at ok1; cases ok1
theorem call_reprK (hu : X.A.units + 64 < cLine) (hg : X.A.guards = some []) (hK : X.K = K) : CallR X (.builtin "repr") (rReprD K) := by subst hK; exact cr_reprD hu hg
theorem rc_repr : RCl K (rReprD K) reprD := fun G H vs ds z Q gh h hz q => by
  unfold reprD at hz
  split at hz
  · split at hz
    · rename_i ok
      cases hz
      obtain ⟨v, rfl, hv⟩ := h.one
      exact ⟨v, _, rfl, hv.dp gh ok.1, ok, q _ G H (Go.refl gh) (.str _)⟩
    · cases hz
  · cases hz
end Dl

set_option Elab.async false
set_option linter.all false
set_option maxRecDepth 100000
set_option maxHeartbeats 2000000
/-! Values as data: comprehensions of two; 1 << k. -/
namespace Dl
open PySem PySem.Spec PyProof.Rows L2
variable [TbA]
/-- a store that makes no own slot -/
def OwnK (js : List Nat) (bnd : D → En → Option En) : Prop := ∀ d env env' i s, bnd d env = some env' → env'[i]? = some (some s) → s.isOwn = true → env[i]? = some (some s) ∧ i ∉ js
theorem ownK_name (i : Nat) : OwnK [i] (bndN i) := fun d env env' k s e h o => by
  cases e
  by_cases hk : k = i
  · subst hk
    have hl : k < env.length := by
      have := (List.getElem?_eq_some_iff.mp h).1
      rwa [List.length_set] at this
    rw [List.getElem?_set_self hl] at h
    cases h
    cases o
  · rw [List.getElem?_set_ne (Ne.symm hk)] at h
    exact ⟨h, by simpa using hk⟩
def comp2M (bnd : D → En → Option En) (tst : En → Option Bool) (vs1 : List Nat) (mi1 : En → Option (List D)) (bnd1 : D → En → Option En) (tst1 : En → Option Bool) (elt : En → Option D) (env : En) : List D → Option (List D)
  | [] => some []
  | d :: ds => (bnd d env).bind fun e1 => (tst e1).bind fun b => if b = true then (mi1 e1).bind fun es => (compM bnd1 tst1 elt (wipeE e1 vs1) es).bind fun r1 => (comp2M bnd tst vs1 mi1 bnd1 tst1 elt env ds).bind fun r => some (r1 ++ r) else comp2M bnd tst vs1 mi1 bnd1 tst1 elt env ds
def lc2M (vs vs1 : List Nat) (mi : En → Option (List D)) (bnd : D → En → Option En) (tst : En → Option Bool) (mi1 : En → Option (List D)) (bnd1 : D → En → Option En) (tst1 : En → Option Bool) (elt : En → Option D) (env : En) : Option (List D) :=
  (mi env).bind fun ds => (comp2M bnd tst vs1 mi1 bnd1 tst1 elt (wipeE env vs) ds).bind fun r => if r.length ≤ 100000 then some r else none
section
variable {X : Cx} {K : PySem.W.Frag} {elt tg iter tg1 iter1 : Expr} {ifs ifs1 : List Expr} {scope : Scope} {own : List (Str × Nat)} {pos : Pos} {wi wi1 : TI} {g g1 : TG} {tt tt1 : TT} {te : TE} {js js1 : List Nat}
theorem Rp.over {H0 G1 H1 G3 H3 G' H' : Hp} {env env1 : En} {σ σ1 : L2.St} {bnd : D → En → Option En} {d : D} (r : Rp K H0 G1 env σ H1) (a : Go G1 H1 G' H') (r3 : Rp K H0 G3 env1 σ1 H3) (s3 : Same G3 G') (hb : OwnK js bnd) (e : bnd d env = some env1) (hk : ∀ k, k ∉ js → σ1[k]? = σ[k]?) : Rp K H0 G' env1 σ1 H' := by
  have r' := r.go a
  refine ⟨r'.gh, r'.tb, r'.gn, r3.len, fun i s h => ?_, fun i j s t v n h1 h2 o1 o2 h3 => ?_⟩
  · by_cases o : s.isOwn = true
    · obtain ⟨h', n⟩ := hb _ _ _ _ _ e h o
      obtain ⟨v, e1, e2⟩ := r'.sl i s h'
      exact ⟨v, (hk i n).trans e1, e2⟩
    · obtain ⟨v, e1, e2⟩ := r3.sl i s h
      cases s with
      | val d => exact ⟨v, e1, Is.mono s3 e2⟩
      | own ds => exact absurd rfl o
      | ownd ks ds => exact absurd rfl o
      | owni p c xs ds => exact absurd rfl o
  · obtain ⟨a1, n1⟩ := hb _ _ _ _ _ e h1 o1
    obtain ⟨a2, n2⟩ := hb _ _ _ _ _ e h2 o2
    rw [hk i n1] at h3
    rw [hk j n2]
    exact r'.dis i j s t v n a1 a2 o1 o2 h3
theorem tf_lc2 {vs vs1 : List Nat} {mi mi1 : En → Option (List D)} {bnd bnd1 : D → En → Option En} {tst tst1 : En → Option Bool} {me : En → Option D} (hi : TI1 K wi mi) (hg : TGd K g js bnd) (ht : TB K tt tst) (hi1 : TI0 K wi1 mi1) (hg1 : TGd K g1 js1 bnd1) (ht1 : TB K tt1 tst1) (he : TD K te me) (hj : ∀ j ∈ js, j ∈ vs) (hj1 : ∀ j ∈ js1, j ∈ vs1) (hb : OwnK js bnd) :
    TF K (tLc2 wi g tt wi1 g1 tt1 te vs vs1) (lc2M vs vs1 mi bnd tst mi1 bnd1 tst1 me) := fun H0 env σ H G total Q r e q => by
  obtain ⟨ds, e1, e2⟩ := bind_some_of e
  obtain ⟨tot, e3, e4⟩ := bind_some_of e2
  split at e4
  case isFalse => cases e4
  rename_i hz
  cases e4
  refine hi H0 env σ H G ds _ r e1 fun J G1 H1 g1 s1 => fun A hA => ?_
  obtain ⟨Y, w, y⟩ := s1.ex
  have nA : G1 A = none := g1.gh.free hA
  refine ⟨fun i m H' => m = ds.length - i ∧ i ≤ ds.length ∧ ∃ G' acc as rs, Go G1 H1 G' H' ∧ G' A = none ∧ H' A = some (.lst acc) ∧ IsL K G' acc as ∧ comp2M bnd tst vs1 mi1 bnd1 tst1 me (wipeE env vs) (ds.drop i) = some rs ∧ as ++ rs = total,
    ⟨ds.length, by simp, Nat.zero_le _, G1, [], [], total, (Go.refl g1.gh).fresh hA, nA, upd_same, .nil, by simpa using e3, rfl⟩, ?_⟩
  rintro i m H' ⟨rfl, hi', G', acc, as, rs, gg, nA', eA, ia, ec, et⟩
  have st := gg.same
  by_cases hlt : i < ds.length
  · refine .inr ⟨w.goes i H' hlt st, fun H2 => ∃ G' acc as rs, Go G1 H1 G' H2 ∧ G' A = none ∧ H2 A = some (.lst acc) ∧ IsL K G' acc as ∧ comp2M bnd tst vs1 mi1 bnd1 tst1 me (wipeE env vs) (ds.drop (i + 1)) = some rs ∧ as ++ rs = total, fun H2 p => ⟨ds.length - (i + 1), by omega, rfl, hlt, p⟩, fun x H2 hy0 => ?_⟩
    have hy := w.yields i H' x H2 hlt st hy0
    rw [List.drop_eq_getElem_cons hlt] at ec
    obtain ⟨env1, a1, a2⟩ := bind_some_of ec
    obtain ⟨b, a3, a4⟩ := bind_some_of a2
    obtain ⟨G2, g2, ix⟩ := y i H' x H2 ds[i] G' (List.getElem?_eq_getElem hlt) gg.g gg.gh hy
    have rw1 : Rp K H0 G1 (wipeE env vs) (wipe σ vs) H1 := (wipe_ofs vs r).go g1
    have r2 : Rp K H0 G2 (wipeE env vs) (wipe σ vs) H2 := rw1.go (gg.trans g2)
    refine hg H0 _ _ H2 G2 x _ env1 _ r2 ix a1 fun σ2 r3 l3 k3 => ⟨wipe_same hj l3 k3, ?_⟩
    refine ht H0 env1 σ2 H2 G2 b _ r3 a3 fun G3 H3 g3 => ?_
    have gt : Go G1 H1 G3 H3 := (gg.trans g2).trans g3
    obtain ⟨nA3, eA3⟩ := (g2.trans g3).out A _ nA' eA lst_nt
    cases b with
    | false =>
      have a5 := (if_neg (c := false = true) Bool.false_ne_true).symm.trans a4
      exact iteF ⟨G3, acc, as, rs, gt, nA3, eA3, ia.mono (g2.trans g3).g, a5, et⟩
    | true =>
      have a5 := (if_pos (c := true = true) rfl).symm.trans a4
      obtain ⟨es, a6, a7⟩ := bind_some_of a5
      obtain ⟨r1, a8, a9⟩ := bind_some_of a7
      obtain ⟨rs', a10, a11⟩ := bind_some_of a9
      cases a11
      refine iteT (hi1 H0 env1 σ2 H3 G3 es _ (r3.go g3) a6 fun J1 G4 H4 g4 s4 => ?_)
      obtain ⟨Y1, w1, y1⟩ := s4.ex
      have r4 : Rp K H0 G4 env1 σ2 H4 := (r3.go g3).go g4
      obtain ⟨nA4, eA4⟩ := g4.out A _ nA3 eA3 lst_nt
      refine ⟨fun j m H5 => m = es.length - j ∧ j ≤ es.length ∧ ∃ G5 acc as rs1, Go G1 H1 G5 H5 ∧ Same G4 G5 ∧ G5 A = none ∧ H5 A = some (.lst acc) ∧ IsL K G5 acc as ∧ compM bnd1 tst1 me (wipeE env1 vs1) (es.drop j) = some rs1 ∧ as ++ (rs1 ++ rs') = total,
        ⟨es.length, by simp, Nat.zero_le _, G4, acc, as, r1, gt.trans g4, Same.refl _, nA4, eA4, ia.mono ((g2.trans g3).trans g4).g, by simpa using a8, et⟩, ?_⟩
      rintro j m H5 ⟨rfl, hj', G5, acc, as, rs1, gg5, sm, nA5, eA5, ia5, ec5, et5⟩
      have st5 : Same (noT G4) H5 := noT_le (sm.trans gg5.gh)
      by_cases hl5 : j < es.length
      · refine .inr ⟨w1.goes j H5 hl5 st5, fun H6 => ∃ G6 acc as rs1, Go G1 H1 G6 H6 ∧ Same G4 G6 ∧ G6 A = none ∧ H6 A = some (.lst acc) ∧ IsL K G6 acc as ∧ compM bnd1 tst1 me (wipeE env1 vs1) (es.drop (j + 1)) = some rs1 ∧ as ++ (rs1 ++ rs') = total, fun H6 p => ⟨es.length - (j + 1), by omega, rfl, hl5, p⟩, fun x1 H6 hy1 => ?_⟩
        have hy1 := w1.yields j H5 x1 H6 hl5 st5 hy1
        rw [List.drop_eq_getElem_cons hl5] at ec5
        obtain ⟨env2, b1, b2⟩ := bind_some_of ec5
        obtain ⟨c, b3, b4⟩ := bind_some_of b2
        obtain ⟨G6, g6, ix1⟩ := y1 j H5 x1 H6 es[j] G5 (List.getElem?_eq_getElem hl5) sm gg5.gh hy1
        have r6 : Rp K H0 G6 (wipeE env1 vs1) (wipe σ2 vs1) H6 := wipe_ofs vs1 (rw1.over (gg5.trans g6) r4 (sm.trans g6.g) hb a1 k3)
        refine hg1 H0 _ _ H6 G6 x1 _ env2 _ r6 ix1 b1 fun σ3 r7 l7 k7 => ⟨wipe_same hj1 l7 k7, ?_⟩
        refine ht1 H0 env2 σ3 H6 G6 c _ r7 b3 fun G7 H7 g7 => ?_
        have gt7 : Go G1 H1 G7 H7 := (gg5.trans g6).trans g7
        obtain ⟨nA7, eA7⟩ := (g6.trans g7).out A _ nA5 eA5 lst_nt
        cases c with
        | false =>
          have b5 := (if_neg (c := false = true) Bool.false_ne_true).symm.trans b4
          exact iteF ⟨G7, acc, as, rs1, gt7, (sm.trans g6.g).trans g7.g, nA7, eA7, ia5.mono (g6.trans g7).g, b5, et5⟩
        | true =>
          have b5 := (if_pos (c := true = true) rfl).symm.trans b4
          obtain ⟨yd, b6, b7⟩ := bind_some_of b5
          obtain ⟨rs2, b8, b9⟩ := bind_some_of b7
          cases b9
          refine iteT (he H0 env2 σ3 H7 G7 yd _ (r7.go g7) b6 fun v G8 H8 g8 i8 => ?_)
          obtain ⟨nA8, eA8⟩ := g8.out A _ nA7 eA7 lst_nt
          have il : acc.length = as.length := ia5.len
          refine ⟨acc, eA8, ?_, G8, acc ++ [v], as ++ [yd], rs2, (gt7.trans g8).mut nA8 hA eA8 lst_pl, ((sm.trans g6.g).trans g7.g).trans g8.g, nA8, upd_same, (ia5.mono ((g6.trans g7).trans g8).g).append (.cons i8 .nil), b8, by rw [← et5]; simp⟩
          have lt : acc.length < 100000 := by
            rw [← et5] at hz
            simp at hz
            omega
          exact Nat.lt_of_lt_of_le lt (by decide)
      · have ej : j = es.length := by omega
        subst ej
        rw [List.drop_length] at ec5
        cases ec5
        exact .inl ⟨w1.stops H5 st5, G5, acc, as, rs', gg5, nA5, eA5, ia5, a10, et5⟩
  · have ei : i = ds.length := by omega
    subst ei
    rw [List.drop_length] at ec
    cases ec
    rw [List.append_nil] at et
    subst et
    exact .inl ⟨w.stops H' st, q A acc G' H' (g1.trans gg) (g1.free hA) nA' eA ia⟩
theorem dlc2 {mi mi1 : En → Option (List D)} {bnd bnd1 : D → En → Option En} {tst tst1 : En → Option Bool} {me : En → Option D} (hc : X.calm = true) (hN : X.N.Nodup) (hi : DI1 X K tg iter wi mi) (ok : BlkOk X.N X.env.scope scope own)
    (hg : ∀ (s : Shared) (H : Hp) (C : Addr) (cl : List (Str × Addr)) (fp : List Addr), DG (X.blk s H scope (compEnvC scope cl C X.env) fp) K tg g js bnd) (ht : ∀ (s : Shared) (H : Hp) (C : Addr) (cl : List (Str × Addr)) (fp : List Addr), DTs (X.blk s H scope (compEnvC scope cl C X.env) fp) K ifs tt tst)
    (hi1 : ∀ (s : Shared) (H : Hp) (C : Addr) (cl : List (Str × Addr)) (fp : List Addr), DI0 (X.blk s H scope (compEnvC scope cl C X.env) fp) K tg1 iter1 wi1 mi1)
    (hg1 : ∀ (s : Shared) (H : Hp) (C : Addr) (cl : List (Str × Addr)) (fp : List Addr), DG (X.blk s H scope (compEnvC scope cl C X.env) fp) K tg1 g1 js1 bnd1) (ht1 : ∀ (s : Shared) (H : Hp) (C : Addr) (cl : List (Str × Addr)) (fp : List Addr), DTs (X.blk s H scope (compEnvC scope cl C X.env) fp) K ifs1 tt1 tst1)
    (he : ∀ (s : Shared) (H : Hp) (C : Addr) (cl : List (Str × Addr)) (fp : List Addr), DE (X.blk s H scope (compEnvC scope cl C X.env) fp) K elt te me) (hb : OwnK js bnd) (hj : js.all (fun j => (own.map (·.2)).contains j) = true) (hj1 : js1.all (fun j => (own.map (·.2)).contains j) = true) (h0 : Shared)
    (hs : ∀ x, foldedSetIterable iter X.env x = pure x := by intro _; rfl) (hs1 : ∀ env x, foldedSetIterable iter1 env x = pure x := by intro _ _; rfl) :
    DLc X K (.ListComp elt [⟨tg, iter, ifs, 0⟩, ⟨tg1, iter1, ifs1, 0⟩] scope pos) (tLc2 wi g tt wi1 g1 tt1 te (own.map (·.2)) js1) (lc2M (own.map (·.2)) js1 mi bnd tst mi1 bnd1 tst1 me) := by
  have k : ∀ {js : List Nat}, js.all (fun j => (own.map (·.2)).contains j) = true → ∀ j ∈ js, j ∈ own.map (·.2) := fun h j hm => by
    have := List.all_eq_true.mp h j hm
    simpa using this
  exact ⟨⟨pe_lc2 hc hN hi.p ok (k hj1) (fun s H C cl fp => (hg s H C cl fp).p) (fun s H C cl fp => (ht s H C cl fp).p) (fun s H C cl fp => (hi1 s H C cl fp).p) (fun s H C cl fp => (hg1 s H C cl fp).p) (fun s H C cl fp => (ht1 s H C cl fp).p) (fun s H C cl fp => (he s H C cl fp).p) hs hs1,
    tf_lc2 hi.d (hg h0 (fun _ => none) 0 [] []).d (ht h0 (fun _ => none) 0 [] []).d (hi1 h0 (fun _ => none) 0 [] []).d (hg1 h0 (fun _ => none) 0 [] []).d (ht1 h0 (fun _ => none) 0 [] []).d (he h0 (fun _ => none) 0 [] []).d (k hj) (fun _ h => h) hb⟩,
    ⟨fun i y py spos hi' hy hsw => ps_setLc2 hc hN hi' hy hsw hi.p ok (k hj1) (fun s H C cl fp => (hg s H C cl fp).p) (fun s H C cl fp => (ht s H C cl fp).p) (fun s H C cl fp => (hi1 s H C cl fp).p) (fun s H C cl fp => (hg1 s H C cl fp).p) (fun s H C cl fp => (ht1 s H C cl fp).p) (fun s H C cl fp => (he s H C cl fp).p) hs hs1⟩⟩
end
section
variable {K : PySem.W.Frag}
def shlD (d e : D) : Option D := match d, e with
  | .int i, .int k => if i = 1 ∧ 0 ≤ k ∧ k ≤ 100000 then some (.int (2 ^ k.toNat)) else none
  | _, _ => none
theorem ro_shl : RO K (fun x y H Q => ∃ k : Nat, x = .int 1 ∧ y = .int (k : Int) ∧ k ≤ 134217727 ∧ Q (.int (2 ^ k)) H) shlD := fun G H x y d e z Q gh h1 h2 hz q => by
  unfold shlD at hz
  split at hz
  · rename_i i k
    split at hz
    · rename_i c
      cases hz
      obtain ⟨rfl, c1, c2⟩ := c
      refine ⟨k.toNat, h1.int, ?_, by omega, q _ G H (Go.refl gh) (.int _)⟩
      rw [h2.int, Int.toNat_of_nonneg c1]
    · cases hz
  · cases hz
end
end Dl

set_option Elab.async false
set_option linter.all false
set_option maxRecDepth 100000
set_option maxHeartbeats 2000000
/-! for x in reversed(range(n)). -/
namespace Dl
open PySem PySem.Spec PyProof.Rows L2
variable [TbA]
def revD (n : Nat) : List D := (List.range n).reverse.map fun (i : Nat) => D.int (i : Int)
theorem revD_len (n : Nat) : (revD n).length = n := by unfold revD; simp
theorem revD_at {n j : Nat} (h : j < n) : (revD n)[j]? = some (.int ((n - 1 - j : Nat) : Int)) := by
  unfold revD
  rw [List.getElem?_map, List.getElem?_reverse (by simpa using h), List.length_range, List.getElem?_range (by omega)]
  rfl
def revM1 (m : En → Option D) (env : En) : Option (List D) := match m env with
  | some (.int j) => if 0 ≤ j ∧ j ≤ 1000000 then some (revD j.toNat) else none
  | _ => none
section
variable {X : Cx} {K : PySem.W.Frag} {tg : Expr} {p p2 pos pos2 : Pos}
theorem src_rev {B G : Hp} {n : Nat} {lo : Int} (hl : lo = (n : Int) - 1) : Src K (Itc lo (-1) n) (revD n) B G := by
  refine ⟨YFn fun (i : Nat) => .int (lo + (i : Nat) * (-1)), ?_, fun j H x H' d G' e s1 s2 y => ?_⟩
  · rw [revD_len]
    exact walk_rangeC.mono (fun _ _ => trivial) (fun _ _ _ _ _ _ z => z)
  · obtain ⟨e1, e2⟩ := y
    subst e1 e2
    have hj : j < n := by
      have := (List.getElem?_eq_some_iff.mp e).1
      rwa [revD_len] at this
    rw [revD_at hj] at e
    cases e
    refine ⟨G', Go.refl s2, ?_⟩
    have : lo + (j : Nat) * (-1) = ((n - 1 - j : Nat) : Int) := by omega
    show Is K G' (V.int (lo + (j : Nat) * (-1))) _
    rw [this]
    exact .int _
theorem di0_rev {a : Expr} {ta : TE} {m : En → Option D} (hg : Gl X "range") (hm : X.mg "range" = none) (kg : Gl X "reversed") (km : X.mg "reversed" = none) (ha : DE X K a ta m) (hs : starEach [a] X.env = (false, eval a X.env) :: starEach [] X.env := by rfl)
    (ks : starEach [Expr.Call (.Name "range" p2) [a] [] pos2] X.env = (false, eval (.Call (.Name "range" p2) [a] [] pos2) X.env) :: starEach [] X.env := by rfl) :
    DI0 X K tg (.Call (.Name "reversed" p) [.Call (.Name "range" p2) [a] [] pos2] [] pos) (iRevR (tRg1 ta)) (revM1 m) := by
  refine ⟨pi_revR kg km (prg_1 hg hm ha.p hs) ks, fun H0 env σ H G ds R r e q => ?_⟩
  unfold revM1 at e
  split at e
  · rename_i j e1
    split at e
    · rename_i hj
      cases e
      refine ha.d H0 env σ H G _ _ r e1 fun v G1 H1 g1 i1 => ?_
      cases i1
      have h62 := p62
      refine ⟨j, rfl, by omega, by omega, by omega, by omega, ?_⟩
      have e2 : (j - 0).toNat = j.toNat := by omega
      rw [e2]
      exact q _ G1 H1 g1 (src_rev (by omega))
    · cases e
  · cases e
end
end Dl

set_option Elab.async false
set_option linter.all false
set_option maxRecDepth 100000
set_option maxHeartbeats 1000000
namespace My
open PySem PySem.Spec PyProof.Rows L2 Dl
def topS (i : Nat) : Stmt := PySem.Challenge.pw_twowaysigns_k05_own_turnings_whole.main.body.getD i (.Pass ⟨0, 0, 0, 0⟩)
abbrev deadM : En → Option Out := fun _ => none

/-! ### _consists_of -/
abbrev s_consists_of : Stmt := topS 7
abbrev n_consists_of : List Str := ["text", "allowed", "character"]
theorem sc_consists_of : FnScope n_consists_of ["text", "allowed"] (defScope s_consists_of) := ⟨rfl, rfl, rfl, by decide +kernel, rfl, by decide +kernel, by decide +kernel⟩
def l1_consists_of : En → Option Out := (ifM (boolM (bind2 (nameV 2) (nameV 1) notinD)) (retF (cB false)) nextM)
def m_consists_of : En → Option Out :=
    (seqM (forM (itemsA (nameV 0)) (bndN 2) l1_consists_of)
    (retF (cB true)))
def f_consists_of : List D → Option D := bodyM 2 3 m_consists_of
section
variable [TbA] {P : Program} {w : World} {K : PySem.W.Frag} {mg : Str → Option Value} {base : Heap} {fa : Addr} {fd : FuncData}
theorem ok_consists_of (F : Fun K "_consists_of" "_consists_of" s_consists_of fa fd) : FnG P w K mg base CX0 1 fa fd ["text", "allowed"] (spD K f_consists_of) :=
  fn_ok (k := 0) F sc_consists_of fun cdv A outer s0 H E hr =>
    (dss_cons (ds_for PassesOwn.never rfl (di0_seq (de_name 0)) (dg_name 2 sc_consists_of.nd) (dss_one (ds_if (dt_notin (hu_ofG hr) (dr_of (de_name 2)) (dr_of (de_name 1)) rfl)
    (dss_one (ds_ret de_bl))
    dss_nil)))
    (dss_one (ds_ret de_bl)))
end

/-! ### is_symbol_name -/
abbrev s_is_symbol_name : Stmt := topS 6
abbrev n_is_symbol_name : List Str := ["text"]
theorem sc_is_symbol_name : FnScope n_is_symbol_name ["text"] (defScope s_is_symbol_name) := ⟨rfl, rfl, rfl, by decide +kernel, rfl, by decide +kernel, by decide +kernel⟩
def m_is_symbol_name : En → Option Out :=
    (retF (andV (chainM (cI 1) (callM lenD (consM (nameV 0) nilM)) (cI 8) (cmpD fun i j => decide (i ≤ j)) (cmpD fun i j => decide (i ≤ j))) (andV (bind2 (bind2 (nameV 0) (cI 0) ixD) (cS "abcdefghijklmnopqrstuvwxyz") inD) (callM f_consists_of (consM (slM (nameV 0) (partM (cI 1)) noP) (consM (bind2 (cS "abcdefghijklmnopqrstuvwxyz") (cS "0123456789") addD) nilM))))))
def f_is_symbol_name : List D → Option D := bodyM 1 1 m_is_symbol_name
section
variable [TbA] {P : Program} {w : World} {K : PySem.W.Frag} {mg : Str → Option Value} {base : Heap} {fa : Addr} {fd : FuncData}
theorem ok_is_symbol_name (F : Fun K "is_symbol_name" "is_symbol_name" s_is_symbol_name fa fd) (F_consists_of : DF P w K mg base "_consists_of" 1 ["text", "allowed"] f_consists_of) (z_len : mg "len" = none) {t_DIGITS : Tok} (g_DIGITS : mg "DIGITS" = some (.str "0123456789" t_DIGITS)) {t_SMALL_LETTERS : Tok} (g_SMALL_LETTERS : mg "SMALL_LETTERS" = some (.str "abcdefghijklmnopqrstuvwxyz" t_SMALL_LETTERS)) : FnG P w K mg base CX0 2 fa fd ["text"] (spD K f_is_symbol_name) :=
  fn_ok (k := 1) F sc_is_symbol_name fun cdv A outer s0 H E hr =>
    (dss_one (ds_ret (de_and (de_chain op_le (ro_cmp fun i j => decide (i ≤ j)) op_le (ro_cmp fun i j => decide (i ≤ j)) (dr_of de_int) (de_callB (call_lenA rfl) rc_len (by rfl) z_len PySem.boot_len (dar_cons (dr_of (de_name 0)) dar_nil)) (dr_of de_int)) (de_and (de_in (hu_ofG hr) (dr_of (de_ix (hu_ofG hr) (dr_of (de_name 0)) (dr_of de_int))) (dr_of (de_glob (v := .str "abcdefghijklmnopqrstuvwxyz") (d := .str "abcdefghijklmnopqrstuvwxyz") (by rfl) g_SMALL_LETTERS ⟨_, rfl⟩ (fun _ => .str _))) rfl) (de_one (de_call F_consists_of hr (by rfl) (da_cons (de_slice (dr_of (de_name 0)) (do_some (dr_of de_int)) do_none) (da_cons (de_op (op_addA rfl) ro_add (dr_of (de_glob (v := .str "abcdefghijklmnopqrstuvwxyz") (d := .str "abcdefghijklmnopqrstuvwxyz") (by rfl) g_SMALL_LETTERS ⟨_, rfl⟩ (fun _ => .str _))) (dr_of (de_glob (v := .str "0123456789") (d := .str "0123456789") (by rfl) g_DIGITS ⟨_, rfl⟩ (fun _ => .str _)))) da_nil)) (by omega)))))))
end

/-! ### _arguments_backwards -/
abbrev s_arguments_backwards : Stmt := topS 11
abbrev n_arguments_backwards : List Str := ["place", "part", "index"]
theorem sc_arguments_backwards : FnScope n_arguments_backwards ["place", "part"] (defScope s_arguments_backwards) := ⟨rfl, rfl, rfl, by decide +kernel, rfl, by decide +kernel, by decide +kernel⟩
def m_arguments_backwards : En → Option Out :=
    (seqM (ifM (boolM (unM (isiD "str") (nameV 1))) (retF (lstM nilM)) nextM)
    (retF (asLst (lcM [2] (revM1 (bind2 (callM lenD (consM (nameV 1) nilM)) (cI 1) subD)) (bndN 2) yesM (tupM (consM (bind2 (nameV 0) (tupM (consM (nameV 2) nilM)) addD) (consM (bind2 (nameV 1) (bind2 (nameV 2) (cI 1) addD) ixD) nilM)))))))
def f_arguments_backwards : List D → Option D := bodyM 2 3 m_arguments_backwards
section
variable [TbA] {P : Program} {w : World} {K : PySem.W.Frag} {mg : Str → Option Value} {base : Heap} {fa : Addr} {fd : FuncData}
theorem ok_arguments_backwards (F : Fun K "_arguments_backwards" "_arguments_backwards" s_arguments_backwards fa fd) (z_isinstance : mg "isinstance" = none) (z_len : mg "len" = none) (z_range : mg "range" = none) (z_reversed : mg "reversed" = none) (z_str : mg "str" = none) : FnG P w K mg base CX0 1 fa fd ["place", "part"] (spD K f_arguments_backwards) :=
  fn_ok (k := 0) F sc_arguments_backwards fun cdv A outer s0 H E hr =>
    (dss_cons (ds_if (dt_val (de_isi (T := "str") (Tn := "str") (dr_of (de_name 1)) (by rfl) z_isinstance (by rfl) z_str boot_str))
    (dss_one (ds_ret (de_lst da_nil)))
    dss_nil)
    (dss_one (ds_ret (DF1.e (DLc.toDF1 (dlc (own := [("index", 2)]) rfl sc_arguments_backwards.nd (DI0.to1 (di0_rev (by rfl) z_range (by rfl) z_reversed (de_op op_sub ro_sub (dr_of (de_callB (call_lenA rfl) rc_len (by rfl) z_len PySem.boot_len (dar_cons (dr_of (de_name 1)) dar_nil))) (dr_of de_int)))) (blkOk_by (own := [("index", 2)]) (N := n_arguments_backwards) (sc := defScope s_arguments_backwards) (by decide +kernel)) (fun _ _ _ _ _ => (dg_name 2 sc_arguments_backwards.nd)) (fun _ _ _ _ _ => dts_nil) (fun _ _ _ _ _ => (de_tup (da_cons (de_op (op_addA rfl) ro_add (dr_of (de_name 0)) (dr_of (de_tup (da_cons (de_name 2) da_nil)))) (da_cons (de_ix (hu_ofG hr) (dr_of (de_name 1)) (dr_of (de_op (op_addA rfl) ro_add (dr_of (de_name 2)) (dr_of de_int)))) da_nil)))) (by rfl) s0))))))
end

/-! ### parts_with_places -/
abbrev s_parts_with_places : Stmt := topS 9
abbrev n_parts_with_places : List Str := ["term", "found", "waiting", "place", "part"]
theorem sc_parts_with_places : FnScope n_parts_with_places ["term"] (defScope s_parts_with_places) := ⟨rfl, rfl, rfl, by decide +kernel, rfl, by decide +kernel, by decide +kernel⟩
def l1_parts_with_places : En → Option Out := (seqM (popM 2 (bndT 2 (bndC (bndN 3) (bndC (bndN 4) bndNil))))
    (seqM (appM 1 (tupM (consM (nameV 3) (consM (nameV 4) nilM))))
    (extM 2 (callM f_arguments_backwards (consM (nameV 3) (consM (nameV 4) nilM))))))
def m_parts_with_places : En → Option Out :=
    (seqM (setOwnM 1 (lstF nilM))
    (seqM (setOwnM 2 (lstF (consM (tupM (consM (tupM nilM) (consM (nameV 0) nilM))) nilM)))
    (seqM (whileM (truM (nameR 2)) l1_parts_with_places 100000)
    (retF (callM tupleD (consM (nameR 1) nilM))))))
def f_parts_with_places : List D → Option D := bodyM 1 5 m_parts_with_places
section
variable [TbA] {P : Program} {w : World} {K : PySem.W.Frag} {mg : Str → Option Value} {base : Heap} {fa : Addr} {fd : FuncData}
theorem ok_parts_with_places (F : Fun K "parts_with_places" "parts_with_places" s_parts_with_places fa fd) (F_arguments_backwards : DF P w K mg base "_arguments_backwards" 1 ["place", "part"] f_arguments_backwards) (z_tuple : mg "tuple" = none) : FnG P w K mg base CX0 2 fa fd ["term"] (spD K f_parts_with_places) :=
  fn_ok (k := 1) F sc_parts_with_places fun cdv A outer s0 H E hr =>
    (dss_cons (ds_setOwn 1 (df_lst da_nil) sc_parts_with_places.nd)
    (dss_cons (ds_setOwn 2 (df_lst (da_cons (de_tup (da_cons (de_tup da_nil) (da_cons (de_name 0) da_nil))) da_nil)) sc_parts_with_places.nd)
    (dss_cons (ds_while 100000 PassesOwn.never (dt_tru (dr_name 2)) (dss_cons (ds_pop 2 (dg_tup rfl (dgs_cons (dg_name 3 sc_parts_with_places.nd) (dgs_cons (dg_name 4 sc_parts_with_places.nd) dgs_nil))))
    (dss_cons (ds_append 1 (de_tup (da_cons (de_name 3) (da_cons (de_name 4) da_nil))))
    (dss_one (ds_extend 2 (de_call F_arguments_backwards hr (by rfl) (da_cons (de_name 3) (da_cons (de_name 4) da_nil)) (by omega)))))))
    (dss_one (ds_ret (de_callTy (call_tupleK rfl) rc_tuple (by rfl) z_tuple boot_tuple (dar_cons (dr_name 1) dar_nil)))))))
end

/-! ### Signature.rank -/
abbrev s_Signature_rank : Stmt := inClass (topS 27) 2
abbrev n_Signature_rank : List Str := ["self", "name"]
theorem sc_Signature_rank : FnScope n_Signature_rank ["self", "name"] (defScope s_Signature_rank) := ⟨rfl, rfl, rfl, by decide +kernel, rfl, by decide +kernel, by decide +kernel⟩
def m_Signature_rank (cSignature : Addr) : En → Option Out :=
    (retF (bind2 (fldM [cSignature] "_ranks" (nameV 0)) (nameV 1) get1D))
def f_Signature_rank (cSignature : Addr) : List D → Option D := bodyM 2 2 (m_Signature_rank cSignature)
section
variable [TbA] {P : Program} {w : World} {K : PySem.W.Frag} {mg : Str → Option Value} {base : Heap} {fa : Addr} {fd : FuncData}
theorem ok_Signature_rank {cSignature : Addr} (F : Fun K "rank" "Signature.rank" s_Signature_rank fa fd) (A_Signature_ranks : FldC K [cSignature] "_ranks") : FnG P w K mg base CX0 1 fa fd ["self", "name"] (spD K (f_Signature_rank cSignature)) :=
  fn_ok (k := 0) F sc_Signature_rank fun cdv A outer s0 H E hr =>
    (dss_one (ds_ret (de_get1 (hu_ofG hr) (dr_of (de_fld A_Signature_ranks (de_name 0))) (dr_of (de_name 1)) ⟨rfl, rfl, rfl, rfl⟩)))
end

/-! ### sign_order -/
abbrev s_sign_order : Stmt := topS 10
abbrev n_sign_order : List Str := ["signature", "term"]
theorem sc_sign_order : FnScope n_sign_order ["signature", "term"] (defScope s_sign_order) := ⟨rfl, rfl, rfl, by decide +kernel, rfl, by decide +kernel, by decide +kernel⟩
def m_sign_order (cSignature : Addr) : En → Option Out :=
    (seqM (ifM (boolM (unM (isiD "str") (nameV 1))) (retF (callM catD (consM (cS "0") (consM (unM fmt02D (callM lenD (consM (nameV 1) nilM))) (consM (unM fmtD (nameV 1)) nilM))))) nextM)
    (retF (callM catD (consM (cS "1") (consM (unM fmt02D (methM cSignature "rank" (f_Signature_rank cSignature) (nameV 0) (consM (bind2 (nameV 1) (cI 0) ixD) nilM))) nilM)))))
def f_sign_order (cSignature : Addr) : List D → Option D := bodyM 2 2 (m_sign_order cSignature)
section
variable [TbA] {P : Program} {w : World} {K : PySem.W.Frag} {mg : Str → Option Value} {base : Heap} {fa : Addr} {fd : FuncData}
theorem ok_sign_order {cSignature : Addr} (F : Fun K "sign_order" "sign_order" s_sign_order fa fd) (M_Signature_rank : DMt P w K mg base cSignature "rank" 1 ["self", "name"] (f_Signature_rank cSignature)) (z_isinstance : mg "isinstance" = none) (z_len : mg "len" = none) (z_str : mg "str" = none) (z_digits : NoDg K) : FnG P w K mg base CX0 2 fa fd ["signature", "term"] (spD K (f_sign_order cSignature)) :=
  fn_ok (k := 1) F sc_sign_order fun cdv A outer s0 H E hr =>
    (dss_cons (ds_if (dt_val (de_isi (T := "str") (Tn := "str") (dr_of (de_name 1)) (by rfl) z_isinstance (by rfl) z_str boot_str))
    (dss_one (ds_ret (de_joined (dj_cons de_str (dj_cons (de_fmt02 z_digits (de_callB (call_lenA rfl) rc_len (by rfl) z_len PySem.boot_len (dar_cons (dr_of (de_name 1)) dar_nil))) (dj_cons (de_fmt (de_name 1)) dj_nil))))))
    dss_nil)
    (dss_one (ds_ret (de_joined (dj_cons de_str (dj_cons (de_fmt02 z_digits (de_meth M_Signature_rank hr (de_name 0) (da_cons (de_ix (hu_ofG hr) (dr_of (de_name 1)) (dr_of de_int)) da_nil) (by omega))) dj_nil))))))
end

/-! ### Signature.is_two_way -/
abbrev s_Signature_is_two_way : Stmt := inClass (topS 27) 3
abbrev n_Signature_is_two_way : List Str := ["self", "name", "rank"]
theorem sc_Signature_is_two_way : FnScope n_Signature_is_two_way ["self", "name"] (defScope s_Signature_is_two_way) := ⟨rfl, rfl, rfl, by decide +kernel, rfl, by decide +kernel, by decide +kernel⟩
def m_Signature_is_two_way (cSignature : Addr) : En → Option Out :=
    (seqM (setM 2 (bind2 (fldM [cSignature] "_ranks" (nameV 0)) (nameV 1) get1D))
    (retF (andV (bind2 (nameV 2) cN isNotND) (bind2 (bind2 (fldM [cSignature] "symbols" (nameV 0)) (nameV 2) ixD) (cI 2) ixD))))
def f_Signature_is_two_way (cSignature : Addr) : List D → Option D := bodyM 2 3 (m_Signature_is_two_way cSignature)
section
variable [TbA] {P : Program} {w : World} {K : PySem.W.Frag} {mg : Str → Option Value} {base : Heap} {fa : Addr} {fd : FuncData}
theorem ok_Signature_is_two_way {cSignature : Addr} (F : Fun K "is_two_way" "Signature.is_two_way" s_Signature_is_two_way fa fd) (A_Signature_ranks : FldC K [cSignature] "_ranks") (A_Signature_symbols : FldC K [cSignature] "symbols") : FnG P w K mg base CX0 1 fa fd ["self", "name"] (spD K (f_Signature_is_two_way cSignature)) :=
  fn_ok (k := 0) F sc_Signature_is_two_way fun cdv A outer s0 H E hr =>
    (dss_cons (ds_set 2 (de_get1 (hu_ofG hr) (dr_of (de_fld A_Signature_ranks (de_name 0))) (dr_of (de_name 1)) ⟨rfl, rfl, rfl, rfl⟩) sc_Signature_is_two_way.nd)
    (dss_one (ds_ret (de_and (de_cmp op_notN ro_notN (dr_of (de_name 2)) (dr_of de_non) (nomark _)) (de_one (de_ix (hu_ofG hr) (dr_of (de_ix (hu_ofG hr) (dr_of (de_fld A_Signature_symbols (de_name 0))) (dr_of (de_name 2)))) (dr_of de_int)))))))
end

/-! ### keyed_writing -/
abbrev s_keyed_writing : Stmt := topS 18
abbrev n_keyed_writing : List Str := ["signature", "term", "key", "keyed", "argument", "argument_key", "_", "written"]
theorem sc_keyed_writing : FnScope n_keyed_writing ["signature", "term"] (defScope s_keyed_writing) := ⟨rfl, rfl, rfl, by decide +kernel, rfl, by decide +kernel, by decide +kernel⟩
def m_keyed_writing (cSignature : Addr) (self : List D → Option D) : En → Option Out :=
    (seqM (setM 2 (callM (f_sign_order cSignature) (consM (nameV 0) (consM (nameV 1) nilM))))
    (seqM (ifM (boolM (unM (isiD "str") (nameV 1))) (retF (tupM (consM (nameV 2) (consM (nameV 1) nilM)))) nextM)
    (seqM (setM 3 (asLst (lcM [4] (itemsA (slM (nameV 1) (partM (cI 1)) noP)) (bndN 4) yesM (callM self (consM (nameV 0) (consM (nameV 4) nilM))))))
    (seqM (ifM (boolM (methM cSignature "is_two_way" (f_Signature_is_two_way cSignature) (nameV 0) (consM (bind2 (nameV 1) (cI 0) ixD) nilM))) (setM 3 (asLst (sortKM (nameV 3) (bind2 (nameV 8) (cI 0) ixD)))) nextM)
    (seqM (setM 2 (bind2 (nameV 2) (bind2 (cS "") (asLst (lcM [5, 6] (itemsA (nameV 3)) (bndT 2 (bndC (bndN 5) (bndC (bndN 6) bndNil))) yesM (nameV 5))) joinD) addD))
    (retF (tupM (consM (nameV 2) (consM (bind2 (tupM (consM (bind2 (nameV 1) (cI 0) ixD) nilM)) (callM tupleD (consM (asLst (lcM [6, 7] (itemsA (nameV 3)) (bndT 2 (bndC (bndN 6) (bndC (bndN 7) bndNil))) yesM (nameV 7))) nilM)) addD) nilM)))))))))
def f_keyed_writing_ (cSignature : Addr) : Nat → List D → Option D
  | 0 => fun _ => none
  | n + 1 => bodyM 2 8 (m_keyed_writing cSignature (f_keyed_writing_ cSignature n))
def f_keyed_writing (cSignature : Addr) : List D → Option D := f_keyed_writing_ cSignature 64
section
variable [TbA] {P : Program} {w : World} {K : PySem.W.Frag} {mg : Str → Option Value} {base : Heap} {fa : Addr} {fd : FuncData}
theorem ok1_keyed_writing {self : List D → Option D} {k : Nat} (hk : 3 ≤ k) {cSignature : Addr} (F : Fun K "keyed_writing" "keyed_writing" s_keyed_writing fa fd) (F_sign_order : DF P w K mg base "sign_order" 2 ["signature", "term"] (f_sign_order cSignature)) (M_Signature_is_two_way : DMt P w K mg base cSignature "is_two_way" 1 ["self", "name"] (f_Signature_is_two_way cSignature)) (z_isinstance : mg "isinstance" = none) (z_sorted : mg "sorted" = none) (z_str : mg "str" = none) (z_tuple : mg "tuple" = none) {cA cP : Addr} (T_keyed_writing : LamT base mg cA cP "keyed_writing") (hC : fd.code = .ref cA) (F_keyed_writing : DF P w K mg base "keyed_writing" k ["signature", "term"] self) : FnG P w K mg base CX0 (k + 1) fa fd ["signature", "term"] (spD K (bodyM 2 8 (m_keyed_writing cSignature self))) :=
  fn_okC F hC sc_keyed_writing fun A outer s0 H E hr =>
    (dss_cons (ds_set 2 (de_call F_sign_order hr (by rfl) (da_cons (de_name 0) (da_cons (de_name 1) da_nil)) (by omega)) sc_keyed_writing.nd)
    (dss_cons (ds_if (dt_val (de_isi (T := "str") (Tn := "str") (dr_of (de_name 1)) (by rfl) z_isinstance (by rfl) z_str boot_str))
    (dss_one (ds_ret (de_tup (da_cons (de_name 2) (da_cons (de_name 1) da_nil)))))
    dss_nil)
    (dss_cons (ds_setLc 3 (dlc (own := [("argument", 4)]) rfl sc_keyed_writing.nd (di1_seq (dr_of (de_slice (dr_of (de_name 1)) (do_some (dr_of de_int)) do_none))) (blkOk_by (own := [("argument", 4)]) (N := n_keyed_writing) (sc := defScope s_keyed_writing) (by decide +kernel)) (fun _ _ _ _ _ => (dg_name 4 sc_keyed_writing.nd)) (fun _ _ _ _ _ => dts_nil) (fun _ _ _ _ _ => (de_call F_keyed_writing hr (by rfl) (da_cons (de_name 0) (da_cons (de_name 4) da_nil)) (by omega))) (by rfl) s0))
    (dss_cons (ds_if (dt_val (de_meth M_Signature_is_two_way hr (de_name 0) (da_cons (de_ix (hu_ofG hr) (dr_of (de_name 1)) (dr_of de_int)) da_nil) (by omega)))
    (dss_one (ds_set 3 (DF1.e (df_sortKey (k := 0) (N' := ["signature", "term", "key", "keyed", "argument", "argument_key", "_", "written", "pair"]) T_keyed_writing (by rfl) z_sorted (dr_of (de_name 3)) hr (show lamN n_keyed_writing "pair" = _ from by decide +kernel) (lam1_by (show lam1B (defScope s_keyed_writing) _ "pair" = true from by decide +kernel)) (fun _ _ _ _ _ hr => (de_ix (hu_ofG hr) (dr_of (de_name 8)) (dr_of de_int))) (by omega))) sc_keyed_writing.nd))
    dss_nil)
    (dss_cons (ds_set 2 (de_op (op_addA rfl) ro_add (dr_of (de_name 2)) (dr_of (de_join de_str (dr_of (DF1.e (DLc.toDF1 (dlc (own := [("argument_key", 5), ("_", 6)]) rfl sc_keyed_writing.nd (di1_seq (dr_of (de_name 3))) (blkOk_by (own := [("argument_key", 5), ("_", 6)]) (N := n_keyed_writing) (sc := defScope s_keyed_writing) (by decide +kernel)) (fun _ _ _ _ _ => (dg_tup rfl (dgs_cons (dg_name 5 sc_keyed_writing.nd) (dgs_cons (dg_name 6 sc_keyed_writing.nd) dgs_nil)))) (fun _ _ _ _ _ => dts_nil) (fun _ _ _ _ _ => (de_name 5)) (by rfl) s0))))))) sc_keyed_writing.nd)
    (dss_one (ds_ret (de_tup (da_cons (de_name 2) (da_cons (de_op (op_addA rfl) ro_add (dr_of (de_tup (da_cons (de_ix (hu_ofG hr) (dr_of (de_name 1)) (dr_of de_int)) da_nil))) (dr_of (de_callTy (call_tupleK rfl) rc_tuple (by rfl) z_tuple boot_tuple (dar_cons (dr_of (DF1.e (DLc.toDF1 (dlc (own := [("_", 6), ("written", 7)]) rfl sc_keyed_writing.nd (di1_seq (dr_of (de_name 3))) (blkOk_by (own := [("_", 6), ("written", 7)]) (N := n_keyed_writing) (sc := defScope s_keyed_writing) (by decide +kernel)) (fun _ _ _ _ _ => (dg_tup rfl (dgs_cons (dg_name 6 sc_keyed_writing.nd) (dgs_cons (dg_name 7 sc_keyed_writing.nd) dgs_nil)))) (fun _ _ _ _ _ => dts_nil) (fun _ _ _ _ _ => (de_name 7)) (by rfl) s0)))) dar_nil)))) da_nil))))))))))
theorem ok2_keyed_writing {cSignature : Addr} (F : Fun K "keyed_writing" "keyed_writing" s_keyed_writing fa fd) (F_sign_order : DF P w K mg base "sign_order" 2 ["signature", "term"] (f_sign_order cSignature)) (M_Signature_is_two_way : DMt P w K mg base cSignature "is_two_way" 1 ["self", "name"] (f_Signature_is_two_way cSignature)) (z_isinstance : mg "isinstance" = none) (z_sorted : mg "sorted" = none) (z_str : mg "str" = none) (z_tuple : mg "tuple" = none) {cA cP : Addr} (T_keyed_writing : LamT base mg cA cP "keyed_writing") (hC : fd.code = .ref cA) (hm : mg "keyed_writing" = some (.ref fa)) (hb : Binds K fd ["signature", "term"] []) : ∀ n : Nat, FnG P w K mg base CX0 (3 + n) fa fd ["signature", "term"] (spD K (f_keyed_writing_ cSignature n))
  | 0 => fn_zero
  | n + 1 => ok1_keyed_writing (Nat.le_add_right _ _) F F_sign_order M_Signature_is_two_way z_isinstance z_sorted z_str z_tuple T_keyed_writing hC ⟨fa, fd, hm, F.kp, hb, ok2_keyed_writing F F_sign_order M_Signature_is_two_way z_isinstance z_sorted z_str z_tuple T_keyed_writing hC hm hb n⟩
end

/-! ### likeness -/
abbrev s_likeness : Stmt := topS 14
abbrev n_likeness : List Str := ["signature", "term", "key", "_"]
theorem sc_likeness : FnScope n_likeness ["signature", "term"] (defScope s_likeness) := ⟨rfl, rfl, rfl, by decide +kernel, rfl, by decide +kernel, by decide +kernel⟩
def m_likeness (cSignature : Addr) : En → Option Out :=
    (seqM (asgM (callM (f_keyed_writing cSignature) (consM (nameV 0) (consM (nameV 1) nilM))) (bndT 2 (bndC (bndN 2) (bndC (bndN 3) bndNil))))
    (retF (nameV 2)))
def f_likeness (cSignature : Addr) : List D → Option D := bodyM 2 4 (m_likeness cSignature)
section
variable [TbA] {P : Program} {w : World} {K : PySem.W.Frag} {mg : Str → Option Value} {base : Heap} {fa : Addr} {fd : FuncData}
theorem ok_likeness {cSignature : Addr} (F : Fun K "likeness" "likeness" s_likeness fa fd) (F_keyed_writing : DF P w K mg base "keyed_writing" 67 ["signature", "term"] (f_keyed_writing cSignature)) : FnG P w K mg base CX0 68 fa fd ["signature", "term"] (spD K (f_likeness cSignature)) :=
  fn_ok (k := 67) F sc_likeness fun cdv A outer s0 H E hr =>
    (dss_cons (ds_asg (dg_tup rfl (dgs_cons (dg_name 2 sc_likeness.nd) (dgs_cons (dg_name 3 sc_likeness.nd) dgs_nil))) (de_call F_keyed_writing hr (by rfl) (da_cons (de_name 0) (da_cons (de_name 1) da_nil)) (by omega)))
    (dss_one (ds_ret (de_name 2))))
end

/-! ### are_alike -/
abbrev s_are_alike : Stmt := topS 13
abbrev n_are_alike : List Str := ["signature", "one", "two"]
theorem sc_are_alike : FnScope n_are_alike ["signature", "one", "two"] (defScope s_are_alike) := ⟨rfl, rfl, rfl, by decide +kernel, rfl, by decide +kernel, by decide +kernel⟩
def m_are_alike (cSignature : Addr) : En → Option Out :=
    (retF (orV (bind2 (nameV 1) (nameV 2) eqD) (bind2 (callM (f_likeness cSignature) (consM (nameV 0) (consM (nameV 1) nilM))) (callM (f_likeness cSignature) (consM (nameV 0) (consM (nameV 2) nilM))) eqD)))
def f_are_alike (cSignature : Addr) : List D → Option D := bodyM 3 3 (m_are_alike cSignature)
section
variable [TbA] {P : Program} {w : World} {K : PySem.W.Frag} {mg : Str → Option Value} {base : Heap} {fa : Addr} {fd : FuncData}
theorem ok_are_alike {cSignature : Addr} (F : Fun K "are_alike" "are_alike" s_are_alike fa fd) (F_likeness : DF P w K mg base "likeness" 68 ["signature", "term"] (f_likeness cSignature)) : FnG P w K mg base CX0 69 fa fd ["signature", "one", "two"] (spD K (f_are_alike cSignature)) :=
  fn_ok (k := 68) F sc_are_alike fun cdv A outer s0 H E hr =>
    (dss_one (ds_ret (de_or (de_cmp (op_eqK hr.units rfl) ro_eq (dr_of (de_name 1)) (dr_of (de_name 2)) (nomark _)) (de_one (de_cmp (op_eqK hr.units rfl) ro_eq (dr_of (de_call F_likeness hr (by rfl) (da_cons (de_name 0) (da_cons (de_name 1) da_nil)) (by omega))) (dr_of (de_call F_likeness hr (by rfl) (da_cons (de_name 0) (da_cons (de_name 2) da_nil)) (by omega))) (nomark _))))))
end

/-! ### is_two_way_part -/
abbrev s_is_two_way_part : Stmt := topS 17
abbrev n_is_two_way_part : List Str := ["signature", "part"]
theorem sc_is_two_way_part : FnScope n_is_two_way_part ["signature", "part"] (defScope s_is_two_way_part) := ⟨rfl, rfl, rfl, by decide +kernel, rfl, by decide +kernel, by decide +kernel⟩
def m_is_two_way_part (cSignature : Addr) : En → Option Out :=
    (retF (andV (notV (unM (isiD "str") (nameV 1))) (methM cSignature "is_two_way" (f_Signature_is_two_way cSignature) (nameV 0) (consM (bind2 (nameV 1) (cI 0) ixD) nilM))))
def f_is_two_way_part (cSignature : Addr) : List D → Option D := bodyM 2 2 (m_is_two_way_part cSignature)
section
variable [TbA] {P : Program} {w : World} {K : PySem.W.Frag} {mg : Str → Option Value} {base : Heap} {fa : Addr} {fd : FuncData}
theorem ok_is_two_way_part {cSignature : Addr} (F : Fun K "is_two_way_part" "is_two_way_part" s_is_two_way_part fa fd) (M_Signature_is_two_way : DMt P w K mg base cSignature "is_two_way" 1 ["self", "name"] (f_Signature_is_two_way cSignature)) (z_isinstance : mg "isinstance" = none) (z_str : mg "str" = none) : FnG P w K mg base CX0 2 fa fd ["signature", "part"] (spD K (f_is_two_way_part cSignature)) :=
  fn_ok (k := 1) F sc_is_two_way_part fun cdv A outer s0 H E hr =>
    (dss_one (ds_ret (de_and (de_not (de_isi (T := "str") (Tn := "str") (dr_of (de_name 1)) (by rfl) z_isinstance (by rfl) z_str boot_str)) (de_one (de_meth M_Signature_is_two_way hr (de_name 0) (da_cons (de_ix (hu_ofG hr) (dr_of (de_name 1)) (dr_of de_int)) da_nil) (by omega))))))
end

/-! ### two_way_places -/
abbrev s_two_way_places : Stmt := topS 15
abbrev n_two_way_places : List Str := ["signature", "term", "place", "part"]
theorem sc_two_way_places : FnScope n_two_way_places ["signature", "term"] (defScope s_two_way_places) := ⟨rfl, rfl, rfl, by decide +kernel, rfl, by decide +kernel, by decide +kernel⟩
def m_two_way_places (cSignature : Addr) : En → Option Out :=
    (retF (callM tupleD (consM (asLst (lcM [2, 3] (itemsA (callM f_parts_with_places (consM (nameV 1) nilM))) (bndT 2 (bndC (bndN 2) (bndC (bndN 3) bndNil))) (boolM (callM (f_is_two_way_part cSignature) (consM (nameV 0) (consM (nameV 3) nilM)))) (nameV 2))) nilM)))
def f_two_way_places (cSignature : Addr) : List D → Option D := bodyM 2 4 (m_two_way_places cSignature)
section
variable [TbA] {P : Program} {w : World} {K : PySem.W.Frag} {mg : Str → Option Value} {base : Heap} {fa : Addr} {fd : FuncData}
theorem ok_two_way_places {cSignature : Addr} (F : Fun K "two_way_places" "two_way_places" s_two_way_places fa fd) (F_parts_with_places : DF P w K mg base "parts_with_places" 2 ["term"] f_parts_with_places) (F_is_two_way_part : DF P w K mg base "is_two_way_part" 2 ["signature", "part"] (f_is_two_way_part cSignature)) (z_tuple : mg "tuple" = none) : FnG P w K mg base CX0 3 fa fd ["signature", "term"] (spD K (f_two_way_places cSignature)) :=
  fn_ok (k := 2) F sc_two_way_places fun cdv A outer s0 H E hr =>
    (dss_one (ds_ret (de_callTy (call_tupleK rfl) rc_tuple (by rfl) z_tuple boot_tuple (dar_cons (dr_of (DF1.e (DLc.toDF1 (dlc (own := [("place", 2), ("part", 3)]) rfl sc_two_way_places.nd (di1_seq (dr_of (de_call F_parts_with_places hr (by rfl) (da_cons (de_name 1) da_nil) (by omega)))) (blkOk_by (own := [("place", 2), ("part", 3)]) (N := n_two_way_places) (sc := defScope s_two_way_places) (by decide +kernel)) (fun _ _ _ _ _ => (dg_tup rfl (dgs_cons (dg_name 2 sc_two_way_places.nd) (dgs_cons (dg_name 3 sc_two_way_places.nd) dgs_nil)))) (fun _ _ _ _ _ => (dts_one (dt_val (de_call F_is_two_way_part hr (by rfl) (da_cons (de_name 0) (da_cons (de_name 3) da_nil)) (by omega))))) (fun _ _ _ _ _ => (de_name 2)) (by rfl) s0)))) dar_nil))))
end

/-! ### _is_even_part -/
abbrev s_is_even_part : Stmt := topS 19
abbrev n_is_even_part : List Str := ["signature", "part"]
theorem sc_is_even_part : FnScope n_is_even_part ["signature", "part"] (defScope s_is_even_part) := ⟨rfl, rfl, rfl, by decide +kernel, rfl, by decide +kernel, by decide +kernel⟩
def m_is_even_part (cSignature : Addr) : En → Option Out :=
    (retF (andV (callM (f_is_two_way_part cSignature) (consM (nameV 0) (consM (nameV 1) nilM))) (callM (f_are_alike cSignature) (consM (nameV 0) (consM (bind2 (nameV 1) (cI 1) ixD) (consM (bind2 (nameV 1) (cI 2) ixD) nilM))))))
def f_is_even_part (cSignature : Addr) : List D → Option D := bodyM 2 2 (m_is_even_part cSignature)
section
variable [TbA] {P : Program} {w : World} {K : PySem.W.Frag} {mg : Str → Option Value} {base : Heap} {fa : Addr} {fd : FuncData}
theorem ok_is_even_part {cSignature : Addr} (F : Fun K "_is_even_part" "_is_even_part" s_is_even_part fa fd) (F_are_alike : DF P w K mg base "are_alike" 69 ["signature", "one", "two"] (f_are_alike cSignature)) (F_is_two_way_part : DF P w K mg base "is_two_way_part" 2 ["signature", "part"] (f_is_two_way_part cSignature)) : FnG P w K mg base CX0 70 fa fd ["signature", "part"] (spD K (f_is_even_part cSignature)) :=
  fn_ok (k := 69) F sc_is_even_part fun cdv A outer s0 H E hr =>
    (dss_one (ds_ret (de_and (de_call F_is_two_way_part hr (by rfl) (da_cons (de_name 0) (da_cons (de_name 1) da_nil)) (by omega)) (de_one (de_call F_are_alike hr (by rfl) (da_cons (de_name 0) (da_cons (de_ix (hu_ofG hr) (dr_of (de_name 1)) (dr_of de_int)) (da_cons (de_ix (hu_ofG hr) (dr_of (de_name 1)) (dr_of de_int)) da_nil))) (by omega))))))
end

/-! ### even_places -/
abbrev s_even_places : Stmt := topS 16
abbrev n_even_places : List Str := ["signature", "term", "place", "part"]
theorem sc_even_places : FnScope n_even_places ["signature", "term"] (defScope s_even_places) := ⟨rfl, rfl, rfl, by decide +kernel, rfl, by decide +kernel, by decide +kernel⟩
def m_even_places (cSignature : Addr) : En → Option Out :=
    (retF (callM tupleD (consM (asLst (lcM [2, 3] (itemsA (callM f_parts_with_places (consM (nameV 1) nilM))) (bndT 2 (bndC (bndN 2) (bndC (bndN 3) bndNil))) (boolM (callM (f_is_even_part cSignature) (consM (nameV 0) (consM (nameV 3) nilM)))) (nameV 2))) nilM)))
def f_even_places (cSignature : Addr) : List D → Option D := bodyM 2 4 (m_even_places cSignature)
section
variable [TbA] {P : Program} {w : World} {K : PySem.W.Frag} {mg : Str → Option Value} {base : Heap} {fa : Addr} {fd : FuncData}
theorem ok_even_places {cSignature : Addr} (F : Fun K "even_places" "even_places" s_even_places fa fd) (F_parts_with_places : DF P w K mg base "parts_with_places" 2 ["term"] f_parts_with_places) (F_is_even_part : DF P w K mg base "_is_even_part" 70 ["signature", "part"] (f_is_even_part cSignature)) (z_tuple : mg "tuple" = none) : FnG P w K mg base CX0 71 fa fd ["signature", "term"] (spD K (f_even_places cSignature)) :=
  fn_ok (k := 70) F sc_even_places fun cdv A outer s0 H E hr =>
    (dss_one (ds_ret (de_callTy (call_tupleK rfl) rc_tuple (by rfl) z_tuple boot_tuple (dar_cons (dr_of (DF1.e (DLc.toDF1 (dlc (own := [("place", 2), ("part", 3)]) rfl sc_even_places.nd (di1_seq (dr_of (de_call F_parts_with_places hr (by rfl) (da_cons (de_name 1) da_nil) (by omega)))) (blkOk_by (own := [("place", 2), ("part", 3)]) (N := n_even_places) (sc := defScope s_even_places) (by decide +kernel)) (fun _ _ _ _ _ => (dg_tup rfl (dgs_cons (dg_name 2 sc_even_places.nd) (dgs_cons (dg_name 3 sc_even_places.nd) dgs_nil)))) (fun _ _ _ _ _ => (dts_one (dt_val (de_call F_is_even_part hr (by rfl) (da_cons (de_name 0) (da_cons (de_name 3) da_nil)) (by omega))))) (fun _ _ _ _ _ => (de_name 2)) (by rfl) s0)))) dar_nil))))
end

/-! ### count_turnings -/
abbrev s_count_turnings : Stmt := topS 21
abbrev n_count_turnings : List Str := ["signature", "term"]
theorem sc_count_turnings : FnScope n_count_turnings ["signature", "term"] (defScope s_count_turnings) := ⟨rfl, rfl, rfl, by decide +kernel, rfl, by decide +kernel, by decide +kernel⟩
def m_count_turnings (cSignature : Addr) : En → Option Out :=
    (retF (bind2 (cI 1) (bind2 (callM lenD (consM (callM (f_two_way_places cSignature) (consM (nameV 0) (consM (nameV 1) nilM))) nilM)) (callM lenD (consM (callM (f_even_places cSignature) (consM (nameV 0) (consM (nameV 1) nilM))) nilM)) subD) shlD))
def f_count_turnings (cSignature : Addr) : List D → Option D := bodyM 2 2 (m_count_turnings cSignature)
section
variable [TbA] {P : Program} {w : World} {K : PySem.W.Frag} {mg : Str → Option Value} {base : Heap} {fa : Addr} {fd : FuncData}
theorem ok_count_turnings {cSignature : Addr} (F : Fun K "count_turnings" "count_turnings" s_count_turnings fa fd) (F_two_way_places : DF P w K mg base "two_way_places" 3 ["signature", "term"] (f_two_way_places cSignature)) (F_even_places : DF P w K mg base "even_places" 71 ["signature", "term"] (f_even_places cSignature)) (z_len : mg "len" = none) : FnG P w K mg base CX0 72 fa fd ["signature", "term"] (spD K (f_count_turnings cSignature)) :=
  fn_ok (k := 71) F sc_count_turnings fun cdv A outer s0 H E hr =>
    (dss_one (ds_ret (de_op op_oneShl ro_shl (dr_of de_int) (dr_of (de_op op_sub ro_sub (dr_of (de_callB (call_lenA rfl) rc_len (by rfl) z_len PySem.boot_len (dar_cons (dr_of (de_call F_two_way_places hr (by rfl) (da_cons (de_name 0) (da_cons (de_name 1) da_nil)) (by omega))) dar_nil))) (dr_of (de_callB (call_lenA rfl) rc_len (by rfl) z_len PySem.boot_len (dar_cons (dr_of (de_call F_even_places hr (by rfl) (da_cons (de_name 0) (da_cons (de_name 1) da_nil)) (by omega))) dar_nil))))))))
end

/-! ### _below -/
abbrev s_below : Stmt := topS 25
abbrev n_below : List Str := ["index", "places", "place"]
theorem sc_below : FnScope n_below ["index", "places"] (defScope s_below) := ⟨rfl, rfl, rfl, by decide +kernel, rfl, by decide +kernel, by decide +kernel⟩
def m_below : En → Option Out :=
    (retF (callM tupleD (consM (asLst (lcM [2] (itemsA (nameV 1)) (bndN 2) yesM (bind2 (tupM (consM (nameV 0) nilM)) (nameV 2) addD))) nilM)))
def f_below : List D → Option D := bodyM 2 3 m_below
section
variable [TbA] {P : Program} {w : World} {K : PySem.W.Frag} {mg : Str → Option Value} {base : Heap} {fa : Addr} {fd : FuncData}
theorem ok_below (F : Fun K "_below" "_below" s_below fa fd) (z_tuple : mg "tuple" = none) : FnG P w K mg base CX0 1 fa fd ["index", "places"] (spD K f_below) :=
  fn_ok (k := 0) F sc_below fun cdv A outer s0 H E hr =>
    (dss_one (ds_ret (de_callTy (call_tupleK rfl) rc_tuple (by rfl) z_tuple boot_tuple (dar_cons (dr_of (DF1.e (DLc.toDF1 (dlc (own := [("place", 2)]) rfl sc_below.nd (di1_seq (dr_of (de_name 1))) (blkOk_by (own := [("place", 2)]) (N := n_below) (sc := defScope s_below) (by decide +kernel)) (fun _ _ _ _ _ => (dg_name 2 sc_below.nd)) (fun _ _ _ _ _ => dts_nil) (fun _ _ _ _ _ => (de_op (op_addA rfl) ro_add (dr_of (de_tup (da_cons (de_name 0) da_nil))) (dr_of (de_name 2)))) (by rfl) s0)))) dar_nil))))
end

/-! ### _exchanges_of_arguments -/
abbrev s_exchanges_of_arguments : Stmt := topS 24
abbrev n_exchanges_of_arguments : List Str := ["signature", "ones", "twos", "rows", "index", "below", "one", "two", "row", "places"]
theorem sc_exchanges_of_arguments : FnScope n_exchanges_of_arguments ["signature", "ones", "twos"] (defScope s_exchanges_of_arguments) := ⟨rfl, rfl, rfl, by decide +kernel, rfl, by decide +kernel, by decide +kernel⟩
def l1_exchanges_of_arguments (cSignature : Addr) (self : List D → Option D) : En → Option Out := (seqM (setM 5 (callM self (consM (nameV 0) (consM (nameV 6) (consM (nameV 7) nilM)))))
    (setM 3 (asLst (lc2M [8, 9] [9] (itemsA (nameV 3)) (bndN 8) yesM (itemsA (nameV 5)) (bndN 9) yesM (bind2 (nameV 8) (callM f_below (consM (nameV 4) (consM (nameV 9) nilM))) addD)))))
def m_exchanges_of_arguments (cSignature : Addr) (self : List D → Option D) : En → Option Out :=
    (seqM (setM 3 (lstM (consM (tupM nilM) nilM)))
    (seqM (forM (countM (consM (nameV 1) (consM (nameV 2) nilM))) (bndT 2 (bndC (bndN 4) (bndC (bndT 2 (bndC (bndN 6) (bndC (bndN 7) bndNil))) bndNil))) (l1_exchanges_of_arguments cSignature self))
    (retF (nameV 3))))
def f_exchanges_of_arguments (cSignature : Addr) (self : List D → Option D) : List D → Option D := bodyM 3 10 (m_exchanges_of_arguments cSignature self)
section
variable [TbA] {P : Program} {w : World} {K : PySem.W.Frag} {mg : Str → Option Value} {base : Heap} {fa : Addr} {fd : FuncData}
theorem okh_exchanges_of_arguments {self : List D → Option D} {k : Nat} (hk : 1 ≤ k) {cSignature : Addr} (F : Fun K "_exchanges_of_arguments" "_exchanges_of_arguments" s_exchanges_of_arguments fa fd) (F_below : DF P w K mg base "_below" 1 ["index", "places"] f_below) (z_enumerate : mg "enumerate" = none) (z_zip : mg "zip" = none) (F_exchanges : DF P w K mg base "_exchanges" k ["signature", "one", "two"] self) : FnG P w K mg base CX0 (k + 1) fa fd ["signature", "ones", "twos"] (spD K (f_exchanges_of_arguments cSignature self)) :=
  fn_ok F sc_exchanges_of_arguments fun cdv A outer s0 H E hr =>
    (dss_cons (ds_set 3 (de_lst (da_cons (de_tup da_nil) da_nil)) sc_exchanges_of_arguments.nd)
    (dss_cons (ds_for PassesOwn.never rfl (di0_count (by rfl) z_zip (by rfl) z_enumerate (da_cons (de_name 1) (da_cons (de_name 2) da_nil))) (dg_tup rfl (dgs_cons (dg_name 4 sc_exchanges_of_arguments.nd) (dgs_cons (dg_tup rfl (dgs_cons (dg_name 6 sc_exchanges_of_arguments.nd) (dgs_cons (dg_name 7 sc_exchanges_of_arguments.nd) dgs_nil))) dgs_nil))) (dss_cons (ds_set 5 (de_call F_exchanges hr (by rfl) (da_cons (de_name 0) (da_cons (de_name 6) (da_cons (de_name 7) da_nil))) (by omega)) sc_exchanges_of_arguments.nd)
    (dss_one (ds_setLc 3 (dlc2 (own := [("row", 8), ("places", 9)]) rfl sc_exchanges_of_arguments.nd (di1_seq (dr_of (de_name 3))) (blkOk_by (own := [("row", 8), ("places", 9)]) (N := n_exchanges_of_arguments) (sc := defScope s_exchanges_of_arguments) (by decide +kernel)) (fun _ _ _ _ _ => (dg_name 8 sc_exchanges_of_arguments.nd)) (fun _ _ _ _ _ => dts_nil) (fun _ _ _ _ _ => (di0_seq (de_name 5))) (fun _ _ _ _ _ => (dg_name 9 sc_exchanges_of_arguments.nd)) (fun _ _ _ _ _ => dts_nil) (fun _ _ _ _ _ => (de_op (op_addA rfl) ro_add (dr_of (de_name 8)) (dr_of (de_call F_below hr (by rfl) (da_cons (de_name 4) (da_cons (de_name 9) da_nil)) (by omega))))) (ownK_name _) (by rfl) (by rfl) s0)))))
    (dss_one (ds_ret (de_name 3)))))
end

/-! ### _exchanges -/
abbrev s_exchanges : Stmt := topS 23
abbrev n_exchanges : List Str := ["signature", "one", "two", "found", "crossed", "places"]
theorem sc_exchanges : FnScope n_exchanges ["signature", "one", "two"] (defScope s_exchanges) := ⟨rfl, rfl, rfl, by decide +kernel, rfl, by decide +kernel, by decide +kernel⟩
def m_exchanges (cSignature : Addr) (self : List D → Option D) : En → Option Out :=
    (seqM (ifM (orM (boolM (unM (isiD "str") (nameV 1))) (boolM (unM (isiD "str") (nameV 2)))) (retF (ifV (boolM (bind2 (nameV 1) (nameV 2) eqD)) (lstM (consM (tupM nilM) nilM)) (lstM nilM))) nextM)
    (seqM (ifM (boolM (bind2 (bind2 (nameV 1) (cI 0) ixD) (bind2 (nameV 2) (cI 0) ixD) neD)) (retF (lstM nilM)) nextM)
    (seqM (setM 3 (callM (f_exchanges_of_arguments cSignature self) (consM (nameV 0) (consM (slM (nameV 1) (partM (cI 1)) noP) (consM (slM (nameV 2) (partM (cI 1)) noP) nilM)))))
    (seqM (ifM (boolM (methM cSignature "is_two_way" (f_Signature_is_two_way cSignature) (nameV 0) (consM (bind2 (nameV 1) (cI 0) ixD) nilM))) (seqM (setM 4 (callM (f_exchanges_of_arguments cSignature self) (consM (nameV 0) (consM (slM (nameV 1) (partM (cI 1)) noP) (consM (unM backTD (nameV 2)) nilM)))))
    (setM 3 (bind2 (nameV 3) (asLst (lcM [5] (itemsA (nameV 4)) (bndN 5) yesM (bind2 (tupM (consM (tupM nilM) nilM)) (nameV 5) addD))) addD))) nextM)
    (retF (nameV 3))))))
def f_exchanges_ (cSignature : Addr) : Nat → List D → Option D
  | 0 => fun _ => none
  | n + 1 => bodyM 3 6 (m_exchanges cSignature (f_exchanges_ cSignature n))
def f_exchanges (cSignature : Addr) : List D → Option D := f_exchanges_ cSignature 64
section
variable [TbA] {P : Program} {w : World} {K : PySem.W.Frag} {mg : Str → Option Value} {base : Heap} {fa : Addr} {fd : FuncData}
theorem ok1_exchanges {self : List D → Option D} {k : Nat} (hk : 2 ≤ k) {cSignature : Addr} (F : Fun K "_exchanges" "_exchanges" s_exchanges fa fd) (M_Signature_is_two_way : DMt P w K mg base cSignature "is_two_way" 1 ["self", "name"] (f_Signature_is_two_way cSignature)) (z_isinstance : mg "isinstance" = none) (z_str : mg "str" = none) (F_exchanges_of_arguments : DF P w K mg base "_exchanges_of_arguments" (k + 1) ["signature", "ones", "twos"] (f_exchanges_of_arguments cSignature self)) (F_exchanges : DF P w K mg base "_exchanges" k ["signature", "one", "two"] self) : FnG P w K mg base CX0 (k + 2) fa fd ["signature", "one", "two"] (spD K (bodyM 3 6 (m_exchanges cSignature self))) :=
  fn_ok F sc_exchanges fun cdv A outer s0 H E hr =>
    (dss_cons (ds_if (dt_w (dw_or (dt_val (de_isi (T := "str") (Tn := "str") (dr_of (de_name 1)) (by rfl) z_isinstance (by rfl) z_str boot_str)) (dw_or1 (dt_val (de_isi (T := "str") (Tn := "str") (dr_of (de_name 2)) (by rfl) z_isinstance (by rfl) z_str boot_str)))))
    (dss_one (ds_ret (de_if (dt_cmp (op_eqK hr.units rfl) ro_eq (dr_of (de_name 1)) (dr_of (de_name 2)) (nomark _)) (de_lst (da_cons (de_tup da_nil) da_nil)) (de_lst da_nil))))
    dss_nil)
    (dss_cons (ds_if (dt_cmp (op_neK hr.units rfl) ro_ne (dr_of (de_ix (hu_ofG hr) (dr_of (de_name 1)) (dr_of de_int))) (dr_of (de_ix (hu_ofG hr) (dr_of (de_name 2)) (dr_of de_int))) (nomark _))
    (dss_one (ds_ret (de_lst da_nil)))
    dss_nil)
    (dss_cons (ds_set 3 (de_call F_exchanges_of_arguments hr (by rfl) (da_cons (de_name 0) (da_cons (de_slice (dr_of (de_name 1)) (do_some (dr_of de_int)) do_none) (da_cons (de_slice (dr_of (de_name 2)) (do_some (dr_of de_int)) do_none) da_nil))) (by omega)) sc_exchanges.nd)
    (dss_cons (ds_if (dt_val (de_meth M_Signature_is_two_way hr (de_name 0) (da_cons (de_ix (hu_ofG hr) (dr_of (de_name 1)) (dr_of de_int)) da_nil) (by omega)))
    (dss_cons (ds_set 4 (de_call F_exchanges_of_arguments hr (by rfl) (da_cons (de_name 0) (da_cons (de_slice (dr_of (de_name 1)) (do_some (dr_of de_int)) do_none) (da_cons (de_backT (dr_of (de_name 2))) da_nil))) (by omega)) sc_exchanges.nd)
    (dss_one (ds_set 3 (de_op (op_addA rfl) ro_add (dr_of (de_name 3)) (dr_of (DF1.e (DLc.toDF1 (dlc (own := [("places", 5)]) rfl sc_exchanges.nd (di1_seq (dr_of (de_name 4))) (blkOk_by (own := [("places", 5)]) (N := n_exchanges) (sc := defScope s_exchanges) (by decide +kernel)) (fun _ _ _ _ _ => (dg_name 5 sc_exchanges.nd)) (fun _ _ _ _ _ => dts_nil) (fun _ _ _ _ _ => (de_op (op_addA rfl) ro_add (dr_of (de_tup (da_cons (de_tup da_nil) da_nil))) (dr_of (de_name 5)))) (by rfl) s0))))) sc_exchanges.nd)))
    dss_nil)
    (dss_one (ds_ret (de_name 3)))))))
theorem ok2_exchanges {cSignature : Addr} (F : Fun K "_exchanges" "_exchanges" s_exchanges fa fd) (M_Signature_is_two_way : DMt P w K mg base cSignature "is_two_way" 1 ["self", "name"] (f_Signature_is_two_way cSignature)) (z_isinstance : mg "isinstance" = none) (z_str : mg "str" = none) (F_below : DF P w K mg base "_below" 1 ["index", "places"] f_below) (z_enumerate : mg "enumerate" = none) (z_zip : mg "zip" = none) {fb : Addr} {fdb : FuncData} (Fb : Fun K "_exchanges_of_arguments" "_exchanges_of_arguments" s_exchanges_of_arguments fb fdb) (hmb : mg "_exchanges_of_arguments" = some (.ref fb)) (hbb : Binds K fdb ["signature", "ones", "twos"] []) (hm : mg "_exchanges" = some (.ref fa)) (hb : Binds K fd ["signature", "one", "two"] []) : ∀ n : Nat, FnG P w K mg base CX0 (2 + 2 * n) fa fd ["signature", "one", "two"] (spD K (f_exchanges_ cSignature n))
  | 0 => fn_zero
  | n + 1 => have z := ok2_exchanges F M_Signature_is_two_way z_isinstance z_str F_below z_enumerate z_zip Fb hmb hbb hm hb n; ok1_exchanges (Nat.le_add_right _ _) F M_Signature_is_two_way z_isinstance z_str ⟨fb, fdb, hmb, Fb.kp, hbb, okh_exchanges_of_arguments (by omega) Fb F_below z_enumerate z_zip ⟨fa, fd, hm, F.kp, hb, z⟩⟩ ⟨fa, fd, hm, F.kp, hb, z⟩
end

/-! ### own_turnings -/
abbrev s_own_turnings : Stmt := topS 22
abbrev n_own_turnings : List Str := ["signature", "term", "counted", "places", "_"]
theorem sc_own_turnings : FnScope n_own_turnings ["signature", "term"] (defScope s_own_turnings) := ⟨rfl, rfl, rfl, by decide +kernel, rfl, by decide +kernel, by decide +kernel⟩
def m_own_turnings (cSignature : Addr) : En → Option Out :=
    (seqM (setM 2 (asLst (sortF (consM (asLst (lcM [3] (itemsA (callM (f_exchanges cSignature) (consM (nameV 0) (consM (nameV 1) (consM (nameV 1) nilM))))) (bndN 3) yesM (tupM (consM (callM lenD (consM (nameV 3) nilM)) (consM (nameV 3) nilM))))) nilM))))
    (retF (callM tupleD (consM (asLst (lcM [4, 3] (itemsA (nameV 2)) (bndT 2 (bndC (bndN 4) (bndC (bndN 3) bndNil))) yesM (nameV 3))) nilM))))
def f_own_turnings (cSignature : Addr) : List D → Option D := bodyM 2 5 (m_own_turnings cSignature)
section
variable [TbA] {P : Program} {w : World} {K : PySem.W.Frag} {mg : Str → Option Value} {base : Heap} {fa : Addr} {fd : FuncData}
theorem ok_own_turnings {cSignature : Addr} (F : Fun K "own_turnings" "own_turnings" s_own_turnings fa fd) (F_exchanges : DF P w K mg base "_exchanges" 130 ["signature", "one", "two"] (f_exchanges cSignature)) (z_len : mg "len" = none) (z_sorted : mg "sorted" = none) (z_tuple : mg "tuple" = none) : FnG P w K mg base CX0 131 fa fd ["signature", "term"] (spD K (f_own_turnings cSignature)) :=
  fn_ok (k := 130) F sc_own_turnings fun cdv A outer s0 H E hr =>
    (dss_cons (ds_set 2 (DF1.e (df_sorted hr.units (by rfl) z_sorted (dar_cons (dr_of (DF1.e (DLc.toDF1 (dlc (own := [("places", 3)]) rfl sc_own_turnings.nd (di1_seq (dr_of (de_call F_exchanges hr (by rfl) (da_cons (de_name 0) (da_cons (de_name 1) (da_cons (de_name 1) da_nil))) (by omega)))) (blkOk_by (own := [("places", 3)]) (N := n_own_turnings) (sc := defScope s_own_turnings) (by decide +kernel)) (fun _ _ _ _ _ => (dg_name 3 sc_own_turnings.nd)) (fun _ _ _ _ _ => dts_nil) (fun _ _ _ _ _ => (de_tup (da_cons (de_callB (call_lenA rfl) rc_len (by rfl) z_len PySem.boot_len (dar_cons (dr_of (de_name 3)) dar_nil)) (da_cons (de_name 3) da_nil)))) (by rfl) s0)))) dar_nil))) sc_own_turnings.nd)
    (dss_one (ds_ret (de_callTy (call_tupleK rfl) rc_tuple (by rfl) z_tuple boot_tuple (dar_cons (dr_of (DF1.e (DLc.toDF1 (dlc (own := [("_", 4), ("places", 3)]) rfl sc_own_turnings.nd (di1_seq (dr_of (de_name 2))) (blkOk_by (own := [("_", 4), ("places", 3)]) (N := n_own_turnings) (sc := defScope s_own_turnings) (by decide +kernel)) (fun _ _ _ _ _ => (dg_tup rfl (dgs_cons (dg_name 4 sc_own_turnings.nd) (dgs_cons (dg_name 3 sc_own_turnings.nd) dgs_nil)))) (fun _ _ _ _ _ => dts_nil) (fun _ _ _ _ _ => (de_name 3)) (by rfl) s0)))) dar_nil)))))
end

/-! ### _is_symbol -/
abbrev s_is_symbol : Stmt := topS 28
abbrev n_is_symbol : List Str := ["name", "arity", "two_way"]
theorem sc_is_symbol : FnScope n_is_symbol ["name", "arity", "two_way"] (defScope s_is_symbol) := ⟨rfl, rfl, rfl, by decide +kernel, rfl, by decide +kernel, by decide +kernel⟩
def m_is_symbol : En → Option Out :=
    (retF (andV (callM f_is_symbol_name (consM (nameV 0) nilM)) (andV (chainM (cI 0) (nameV 1) (cI 2) (cmpD fun i j => decide (i ≤ j)) (cmpD fun i j => decide (i ≤ j))) (orV (bind2 (nameV 1) (cI 2) eqD) (notV (nameV 2))))))
def f_is_symbol : List D → Option D := bodyM 3 3 m_is_symbol
section
variable [TbA] {P : Program} {w : World} {K : PySem.W.Frag} {mg : Str → Option Value} {base : Heap} {fa : Addr} {fd : FuncData}
theorem ok_is_symbol (F : Fun K "_is_symbol" "_is_symbol" s_is_symbol fa fd) (F_is_symbol_name : DF P w K mg base "is_symbol_name" 2 ["text"] f_is_symbol_name) : FnG P w K mg base CX0 3 fa fd ["name", "arity", "two_way"] (spD K f_is_symbol) :=
  fn_ok (k := 2) F sc_is_symbol fun cdv A outer s0 H E hr =>
    (dss_one (ds_ret (de_and (de_call F_is_symbol_name hr (by rfl) (da_cons (de_name 0) da_nil) (by omega)) (de_and (de_chain op_le (ro_cmp fun i j => decide (i ≤ j)) op_le (ro_cmp fun i j => decide (i ≤ j)) (dr_of de_int) (de_name 1) (dr_of de_int)) (de_one (de_or (de_cmp (op_eqK hr.units rfl) ro_eq (dr_of (de_name 1)) (dr_of de_int) (nomark _)) (de_one (de_not (de_name 2)))))))))
end

/-! ### Signature.__init__ -/
abbrev s_Signature_init : Stmt := inClass (topS 27) 0
abbrev n_Signature_init : List Str := ["self", "symbols", "ranks", "index", "name", "arity", "two_way"]
theorem sc_Signature_init : FnScope n_Signature_init ["self", "symbols"] (defScope s_Signature_init) := ⟨rfl, rfl, rfl, by decide +kernel, rfl, by decide +kernel, by decide +kernel⟩
def l1_Signature_init (cSignature : Addr) : En → Option Out := (seqM (ifM (orM (boolM (bind2 (nameV 4) (nameR 2) inD)) (notM (boolM (callM f_is_symbol (consM (nameV 4) (consM (nameV 5) (consM (nameV 6) nilM))))))) deadM nextM)
    (dputM 2 (nameV 4) (nameV 3)))
def m_Signature_init (cSignature : Addr) : En → Option Out :=
    (seqM (newDict 2)
    (seqM (forM (enumM (consM (nameV 1) nilM)) (bndT 2 (bndC (bndN 3) (bndC (bndT 3 (bndC (bndN 4) (bndC (bndN 5) (bndC (bndN 6) bndNil)))) bndNil))) (l1_Signature_init cSignature))
    (seqM (setFldM 0 cSignature "symbols" (callM tupleD (consM (nameV 1) nilM)))
    (frzM [2] (setFldM 0 cSignature "_ranks" (nameV 2))))))
noncomputable def f_Signature_init (cSignature : Addr) : List D → Option (List Str × List D) := initM cSignature 2 7 (m_Signature_init cSignature)
section
variable [TbA] {P : Program} {w : World} {K : PySem.W.Frag} {mg : Str → Option Value} {base : Heap} {fa : Addr} {fd : FuncData}
theorem ok_Signature_init {cSignature : Addr} (F : Fun K "__init__" "Signature.__init__" s_Signature_init fa fd) (F_is_symbol : DF P w K mg base "_is_symbol" 3 ["name", "arity", "two_way"] f_is_symbol) (cl_Signature : Cls K cSignature) (no_Signature_ranks : NoAttr K cSignature "_ranks") (no_Signature_symbols : NoAttr K cSignature "symbols") (z_enumerate : mg "enumerate" = none) (z_tuple : mg "tuple" = none) : FnG P w K mg base CX0 4 fa fd ["self", "symbols"] (spI K cSignature (f_Signature_init cSignature)) :=
  init_ok (k := 3) F sc_Signature_init fun cdv A outer s0 H E hr =>
    (dss_cons (ds_setDict 2 sc_Signature_init.nd)
    (dss_cons (ds_for PassesOwn.never rfl (di0_enum (by rfl) z_enumerate (da_cons (de_name 1) da_nil)) (dg_tup rfl (dgs_cons (dg_name 3 sc_Signature_init.nd) (dgs_cons (dg_tup rfl (dgs_cons (dg_name 4 sc_Signature_init.nd) (dgs_cons (dg_name 5 sc_Signature_init.nd) (dgs_cons (dg_name 6 sc_Signature_init.nd) dgs_nil)))) dgs_nil))) (dss_cons (ds_if (dt_w (dw_or (dt_in (hu_ofG hr) (dr_of (de_name 4)) (dr_name 2) rfl) (dw_or1 (dt_not (dt_val (de_call F_is_symbol hr (by rfl) (da_cons (de_name 4) (da_cons (de_name 5) (da_cons (de_name 6) da_nil))) (by omega)))))))
    (dss_one ds_dead)
    dss_nil)
    (dss_one (ds_dput 2 (hu_ofG hr) (de_name 4) (de_name 3)))))
    (dss_cons (ds_setFld 0 cl_Signature no_Signature_symbols (de_callTy (call_tupleK rfl) rc_tuple (by rfl) z_tuple boot_tuple (dar_cons (dr_of (de_name 1)) dar_nil)))
    (dss_one (ds_frz [2] (ds_setFld 0 cl_Signature no_Signature_ranks (de_name 2)))))))
end

/-! ### _law_whole -/
abbrev s_law_whole : Stmt := topS 30
abbrev n_law_whole : List Str := ["value"]
theorem sc_law_whole : FnScope n_law_whole ["value"] (defScope s_law_whole) := ⟨rfl, rfl, rfl, by decide +kernel, rfl, by decide +kernel, by decide +kernel⟩
def m_law_whole : En → Option Out :=
    (retF (andV (unM (isiD "int") (nameV 0)) (notV (unM (isiD "bool") (nameV 0)))))
def f_law_whole : List D → Option D := bodyM 1 1 m_law_whole
section
variable [TbA] {P : Program} {w : World} {K : PySem.W.Frag} {mg : Str → Option Value} {base : Heap} {fa : Addr} {fd : FuncData}
theorem ok_law_whole (F : Fun K "_law_whole" "_law_whole" s_law_whole fa fd) (z_bool : mg "bool" = none) (z_int : mg "int" = none) (z_isinstance : mg "isinstance" = none) : FnG P w K mg base CX0 1 fa fd ["value"] (spD K f_law_whole) :=
  fn_ok (k := 0) F sc_law_whole fun cdv A outer s0 H E hr =>
    (dss_one (ds_ret (de_and (de_isi (T := "int") (Tn := "int") (dr_of (de_name 0)) (by rfl) z_isinstance (by rfl) z_int boot_int) (de_one (de_not (de_isi (T := "bool") (Tn := "bool") (dr_of (de_name 0)) (by rfl) z_isinstance (by rfl) z_bool boot_bool))))))
end

/-! ### _law_cell -/
abbrev s_law_cell : Stmt := topS 31
abbrev n_law_cell : List Str := ["script", "k", "seed", "cell"]
theorem sc_law_cell : FnScope n_law_cell ["script", "k"] (defScope s_law_cell) := ⟨rfl, rfl, rfl, by decide +kernel, rfl, by decide +kernel, by decide +kernel⟩
def l1_law_cell : En → Option Out := (setM 2 (bind2 (callM intD (consM (bind2 (bind2 (nameV 2) (cI 31) mulD) (bind2 (callM intD (consM (nameV 3) nilM)) (cI 1000003) modD) addD) nilM)) (cI 1000003) modD))
def m_law_cell : En → Option Out :=
    (seqM (ifM (boolM (bind2 (nameV 1) (callM lenD (consM (nameV 0) nilM)) (cmpD fun i j => decide (i < j)))) (retF (bind2 (nameV 0) (nameV 1) ixD)) nextM)
    (seqM (setM 2 (cI 17))
    (seqM (forM (itemsA (nameV 0)) (bndN 3) l1_law_cell)
    (retF (bind2 (callM intD (consM (bind2 (bind2 (bind2 (nameV 2) (cI 7) addD) (bind2 (nameV 1) (cI 3) addD) mulD) (cI 69621) mulD) nilM)) (cI 2147483647) modD)))))
def f_law_cell : List D → Option D := bodyM 2 4 m_law_cell
section
variable [TbA] {P : Program} {w : World} {K : PySem.W.Frag} {mg : Str → Option Value} {base : Heap} {fa : Addr} {fd : FuncData}
theorem ok_law_cell (F : Fun K "_law_cell" "_law_cell" s_law_cell fa fd) (z_int : mg "int" = none) (z_len : mg "len" = none) : FnG P w K mg base CX0 1 fa fd ["script", "k"] (spD K f_law_cell) :=
  fn_ok (k := 0) F sc_law_cell fun cdv A outer s0 H E hr =>
    (dss_cons (ds_if (dt_cmp op_lt (ro_cmp fun i j => decide (i < j)) (dr_of (de_name 1)) (dr_of (de_callB (call_lenA rfl) rc_len (by rfl) z_len PySem.boot_len (dar_cons (dr_of (de_name 0)) dar_nil))) (nomark _))
    (dss_one (ds_ret (de_ix (hu_ofG hr) (dr_of (de_name 0)) (dr_of (de_name 1)))))
    dss_nil)
    (dss_cons (ds_set 2 de_int sc_law_cell.nd)
    (dss_cons (ds_for PassesOwn.never rfl (di0_seq (de_name 0)) (dg_name 3 sc_law_cell.nd) (dss_one (ds_set 2 (de_op op_mod ro_mod (dr_of (de_callTy call_int1 rc_int (by rfl) z_int boot_int (dar_cons (dr_of (de_op (op_addA rfl) ro_add (dr_of (de_op op_mulA ro_mul (dr_of (de_name 2)) (dr_of de_int))) (dr_of (de_op op_mod ro_mod (dr_of (de_callTy call_int1 rc_int (by rfl) z_int boot_int (dar_cons (dr_of (de_name 3)) dar_nil))) (dr_of de_int))))) dar_nil))) (dr_of de_int)) sc_law_cell.nd)))
    (dss_one (ds_ret (de_op op_mod ro_mod (dr_of (de_callTy call_int1 rc_int (by rfl) z_int boot_int (dar_cons (dr_of (de_op op_mulA ro_mul (dr_of (de_op op_mulA ro_mul (dr_of (de_op (op_addA rfl) ro_add (dr_of (de_name 2)) (dr_of de_int))) (dr_of (de_op (op_addA rfl) ro_add (dr_of (de_name 1)) (dr_of de_int))))) (dr_of de_int))) dar_nil))) (dr_of de_int)))))))
end

/-! ### _law_digits -/
abbrev s_law_digits : Stmt := topS 32
abbrev n_law_digits : List Str := ["cell", "sizes", "row", "rest", "seed", "k", "size", "twice"]
theorem sc_law_digits : FnScope n_law_digits ["cell", "sizes"] (defScope s_law_digits) := ⟨rfl, rfl, rfl, by decide +kernel, rfl, by decide +kernel, by decide +kernel⟩
def l1_law_digits : En → Option Out := (seqM (appM 2 (bind2 (callM intD (consM (nameV 3) nilM)) (nameV 6) modD))
    (setM 3 (bind2 (callM intD (consM (nameV 3) nilM)) (nameV 6) fdivD)))
def l2_law_digits : En → Option Out := (seqM (setM 4 (bind2 (callM intD (consM (bind2 (bind2 (bind2 (nameV 4) (cI 48271) mulD) (bind2 (cI 974711) (nameV 5) mulD) addD) (cI 12345) addD) nilM)) (cI 2147483647) modD))
    (seqM (setM 7 (bind2 (callM intD (consM (bind2 (nameV 4) (bind2 (bind2 (nameV 4) (cI 65537) fdivD) (cI 3) addD) mulD) nilM)) (cI 2147483629) modD))
    (appM 2 (bind2 (bind2 (nameV 7) (cI 19) fdivD) (bind2 (nameV 1) (nameV 5) ixD) modD))))
def m_law_digits : En → Option Out :=
    (seqM (setOwnM 2 (lstF nilM))
    (seqM (setM 3 (callM intD (consM (nameV 0) nilM)))
    (seqM (ifM (boolM (bind2 (nameV 3) (bind2 (cI 10) (cI 18) powD) (cmpD fun i j => decide (j ≤ i)))) (seqM (setM 3 (bind2 (nameV 3) (bind2 (cI 10) (cI 18) powD) subD))
    (seqM (forM (itemsA (nameV 1)) (bndN 6) l1_law_digits)
    (retF (nameV 2)))) nextM)
    (seqM (setM 4 (bind2 (callM intD (consM (nameV 3) nilM)) (cI 2147483629) modD))
    (seqM (forM (rngM1 (consM (callM lenD (consM (nameV 1) nilM)) nilM)) (bndN 5) l2_law_digits)
    (retF (nameV 2)))))))
def f_law_digits : List D → Option D := bodyM 2 8 m_law_digits
section
variable [TbA] {P : Program} {w : World} {K : PySem.W.Frag} {mg : Str → Option Value} {base : Heap} {fa : Addr} {fd : FuncData}
theorem ok_law_digits (F : Fun K "_law_digits" "_law_digits" s_law_digits fa fd) (z_int : mg "int" = none) (z_len : mg "len" = none) (z_range : mg "range" = none) : FnG P w K mg base CX0 1 fa fd ["cell", "sizes"] (spD K f_law_digits) :=
  fn_ok (k := 0) F sc_law_digits fun cdv A outer s0 H E hr =>
    (dss_cons (ds_setOwn 2 (df_lst da_nil) sc_law_digits.nd)
    (dss_cons (ds_set 3 (de_callTy call_int1 rc_int (by rfl) z_int boot_int (dar_cons (dr_of (de_name 0)) dar_nil)) sc_law_digits.nd)
    (dss_cons (ds_if (dt_cmp op_ge (ro_cmp fun i j => decide (j ≤ i)) (dr_of (de_name 3)) (dr_of (de_op op_pow ro_pow (dr_of de_int) (dr_of de_int))) (nomark _))
    (dss_cons (ds_set 3 (de_op op_sub ro_sub (dr_of (de_name 3)) (dr_of (de_op op_pow ro_pow (dr_of de_int) (dr_of de_int)))) sc_law_digits.nd)
    (dss_cons (ds_for PassesOwn.never rfl (di0_seq (de_name 1)) (dg_name 6 sc_law_digits.nd) (dss_cons (ds_append 2 (de_op op_mod ro_mod (dr_of (de_callTy call_int1 rc_int (by rfl) z_int boot_int (dar_cons (dr_of (de_name 3)) dar_nil))) (dr_of (de_name 6))))
    (dss_one (ds_set 3 (de_op op_fdivW ro_fdiv (dr_of (de_callTy call_int1 rc_int (by rfl) z_int boot_int (dar_cons (dr_of (de_name 3)) dar_nil))) (dr_of (de_name 6))) sc_law_digits.nd))))
    (dss_one (ds_ret (de_name 2)))))
    dss_nil)
    (dss_cons (ds_set 4 (de_op op_mod ro_mod (dr_of (de_callTy call_int1 rc_int (by rfl) z_int boot_int (dar_cons (dr_of (de_name 3)) dar_nil))) (dr_of de_int)) sc_law_digits.nd)
    (dss_cons (ds_for PassesOwn.never rfl (di0_range1 (by rfl) z_range (dar_cons (dr_of (de_callB (call_lenA rfl) rc_len (by rfl) z_len PySem.boot_len (dar_cons (dr_of (de_name 1)) dar_nil))) dar_nil)) (dg_name 5 sc_law_digits.nd) (dss_cons (ds_set 4 (de_op op_mod ro_mod (dr_of (de_callTy call_int1 rc_int (by rfl) z_int boot_int (dar_cons (dr_of (de_op (op_addA rfl) ro_add (dr_of (de_op (op_addA rfl) ro_add (dr_of (de_op op_mulA ro_mul (dr_of (de_name 4)) (dr_of de_int))) (dr_of (de_op op_mulA ro_mul (dr_of de_int) (dr_of (de_name 5)))))) (dr_of de_int))) dar_nil))) (dr_of de_int)) sc_law_digits.nd)
    (dss_cons (ds_set 7 (de_op op_mod ro_mod (dr_of (de_callTy call_int1 rc_int (by rfl) z_int boot_int (dar_cons (dr_of (de_op op_mulA ro_mul (dr_of (de_name 4)) (dr_of (de_op (op_addA rfl) ro_add (dr_of (de_op op_fdivW ro_fdiv (dr_of (de_name 4)) (dr_of de_int))) (dr_of de_int))))) dar_nil))) (dr_of de_int)) sc_law_digits.nd)
    (dss_one (ds_append 2 (de_op op_mod ro_mod (dr_of (de_op op_fdivW ro_fdiv (dr_of (de_name 7)) (dr_of de_int))) (dr_of (de_ix (hu_ofG hr) (dr_of (de_name 1)) (dr_of (de_name 5))))))))))
    (dss_one (ds_ret (de_name 2))))))))
end

/-! ### _law_label -/
abbrev s_law_label : Stmt := topS 33
abbrev n_law_label : List Str := ["number", "signs", "name", "rest", "k"]
theorem sc_law_label : FnScope n_law_label ["number"] (defScope s_law_label) := ⟨rfl, rfl, rfl, by decide +kernel, rfl, by decide +kernel, by decide +kernel⟩
def l1_law_label : En → Option Out := (seqM (setM 2 (bind2 (nameV 2) (bind2 (nameV 1) (bind2 (callM intD (consM (nameV 3) nilM)) (cI 36) modD) ixD) addD))
    (setM 3 (bind2 (callM intD (consM (nameV 3) nilM)) (cI 36) fdivD)))
def m_law_label : En → Option Out :=
    (seqM (setM 1 (cS "abcdefghijklmnopqrstuvwxyz0123456789"))
    (seqM (setM 2 (bind2 (nameV 1) (bind2 (bind2 (callM intD (consM (nameV 0) nilM)) (cI 8) fdivD) (cI 26) modD) ixD))
    (seqM (setM 3 (bind2 (callM intD (consM (nameV 0) nilM)) (cI 208) fdivD))
    (seqM (forM (rngM1 (consM (bind2 (callM intD (consM (nameV 0) nilM)) (cI 8) modD) nilM)) (bndN 4) l1_law_label)
    (retF (nameV 2))))))
def f_law_label : List D → Option D := bodyM 1 5 m_law_label
section
variable [TbA] {P : Program} {w : World} {K : PySem.W.Frag} {mg : Str → Option Value} {base : Heap} {fa : Addr} {fd : FuncData}
theorem ok_law_label (F : Fun K "_law_label" "_law_label" s_law_label fa fd) (z_int : mg "int" = none) (z_range : mg "range" = none) : FnG P w K mg base CX0 1 fa fd ["number"] (spD K f_law_label) :=
  fn_ok (k := 0) F sc_law_label fun cdv A outer s0 H E hr =>
    (dss_cons (ds_set 1 de_str sc_law_label.nd)
    (dss_cons (ds_set 2 (de_ix (hu_ofG hr) (dr_of (de_name 1)) (dr_of (de_op op_mod ro_mod (dr_of (de_op op_fdivW ro_fdiv (dr_of (de_callTy call_int1 rc_int (by rfl) z_int boot_int (dar_cons (dr_of (de_name 0)) dar_nil))) (dr_of de_int))) (dr_of de_int)))) sc_law_label.nd)
    (dss_cons (ds_set 3 (de_op op_fdivW ro_fdiv (dr_of (de_callTy call_int1 rc_int (by rfl) z_int boot_int (dar_cons (dr_of (de_name 0)) dar_nil))) (dr_of de_int)) sc_law_label.nd)
    (dss_cons (ds_for PassesOwn.never rfl (di0_range1 (by rfl) z_range (dar_cons (dr_of (de_op op_mod ro_mod (dr_of (de_callTy call_int1 rc_int (by rfl) z_int boot_int (dar_cons (dr_of (de_name 0)) dar_nil))) (dr_of de_int))) dar_nil)) (dg_name 4 sc_law_label.nd) (dss_cons (ds_set 2 (de_op (op_addA rfl) ro_add (dr_of (de_name 2)) (dr_of (de_ix (hu_ofG hr) (dr_of (de_name 1)) (dr_of (de_op op_mod ro_mod (dr_of (de_callTy call_int1 rc_int (by rfl) z_int boot_int (dar_cons (dr_of (de_name 3)) dar_nil))) (dr_of de_int)))))) sc_law_label.nd)
    (dss_one (ds_set 3 (de_op op_fdivW ro_fdiv (dr_of (de_callTy call_int1 rc_int (by rfl) z_int boot_int (dar_cons (dr_of (de_name 3)) dar_nil))) (dr_of de_int)) sc_law_label.nd))))
    (dss_one (ds_ret (de_name 2)))))))
end

/-! ### _law_labels -/
abbrev s_law_labels : Stmt := topS 34
abbrev n_law_labels : List Str := ["row", "many", "signs", "word", "names", "k", "turn", "at", "sign", "name"]
theorem sc_law_labels : FnScope n_law_labels ["row", "many"] (defScope s_law_labels) := ⟨rfl, rfl, rfl, by decide +kernel, rfl, by decide +kernel, by decide +kernel⟩
def l1_law_labels : En → Option Out := (ifM (boolM (bind2 (nameV 9) (nameR 4) inD)) (setM 9 (bind2 (bind2 (nameV 2) (nameV 6) ixD) (cS "0") addD)) nextM)
def l2_law_labels : En → Option Out := (seqM (ifM (boolM (bind2 (bind2 (nameV 0) (cI 0) ixD) (cI 0) eqD)) (seqM (setM 7 (bind2 (callM intD (consM (bind2 (nameV 0) (cI 1) ixD) nilM)) (bind2 (bind2 (nameV 0) (cI 2) ixD) (cI 1) addD) modD))
    (seqM (setM 8 (bind2 (nameV 2) (bind2 (callM intD (consM (bind2 (bind2 (nameV 0) (cI 4) ixD) (bind2 (nameV 5) (bind2 (lstM (consM (cI 1) (consM (cI 5) (consM (cI 7) (consM (cI 11) nilM))))) (bind2 (nameV 0) (cI 3) ixD) ixD) mulD) addD) nilM)) (bind2 (lstM (consM (cI 36) (consM (cI 26) nilM))) (callM intD (consM (bind2 (nameV 7) (cI 0) eqD) nilM)) ixD) modD) ixD))
    (setM 9 (slM (bind2 (bind2 (slM (nameV 3) noP (partM (nameV 7))) (nameV 8) addD) (slM (nameV 3) (partM (bind2 (nameV 7) (cI 1) addD)) noP) addD) noP (partM (bind2 (bind2 (nameV 0) (cI 2) ixD) (cI 1) addD)))))) (ifM (boolM (bind2 (bind2 (nameV 0) (cI 0) ixD) (cI 1) eqD)) (setM 9 (slM (bind2 (lstM (consM (nameV 3) (consM (bind2 (bind2 (nameV 2) (bind2 (callM intD (consM (bind2 (nameV 0) (cI 4) ixD) nilM)) (cI 26) modD) ixD) (slM (nameV 3) (partM (cI 1)) noP) addD) nilM))) (bind2 (nameV 5) (cI 8) fdivD) ixD) noP (partM (bind2 (bind2 (nameV 5) (cI 8) modD) (cI 1) addD)))) (setM 9 (callM f_law_label (consM (bind2 (nameV 0) (bind2 (cI 6) (nameV 5) addD) ixD) nilM)))))
    (seqM (forM (rngM1 (consM (cI 14) nilM)) (bndN 6) l1_law_labels)
    (appM 4 (nameV 9))))
def m_law_labels : En → Option Out :=
    (seqM (setM 2 (cS "abcdefghijklmnopqrstuvwxyz0123456789"))
    (seqM (setM 3 (callM f_law_label (consM (bind2 (bind2 (callM intD (consM (bind2 (nameV 0) (cI 5) ixD) nilM)) (cI 8) mulD) (cI 7) addD) nilM)))
    (seqM (setOwnM 4 (lstF nilM))
    (seqM (forM (rngM1 (consM (nameV 1) nilM)) (bndN 5) l2_law_labels)
    (seqM (ifM (boolM (bind2 (bind2 (callM intD (consM (bind2 (nameV 0) (cI 3) ixD) nilM)) (cI 2) modD) (cI 1) eqD)) (retF (pkM (nameR 4) noP noP (partM (unM negD (cI 1))))) nextM)
    (retF (nameV 4)))))))
def f_law_labels : List D → Option D := bodyM 2 10 m_law_labels
section
variable [TbA] {P : Program} {w : World} {K : PySem.W.Frag} {mg : Str → Option Value} {base : Heap} {fa : Addr} {fd : FuncData}
theorem ok_law_labels (F : Fun K "_law_labels" "_law_labels" s_law_labels fa fd) (F_law_label : DF P w K mg base "_law_label" 1 ["number"] f_law_label) (z_int : mg "int" = none) (z_range : mg "range" = none) : FnG P w K mg base CX0 2 fa fd ["row", "many"] (spD K f_law_labels) :=
  fn_ok (k := 1) F sc_law_labels fun cdv A outer s0 H E hr =>
    (dss_cons (ds_set 2 de_str sc_law_labels.nd)
    (dss_cons (ds_set 3 (de_call F_law_label hr (by rfl) (da_cons (de_op (op_addA rfl) ro_add (dr_of (de_op op_mulA ro_mul (dr_of (de_callTy call_int1 rc_int (by rfl) z_int boot_int (dar_cons (dr_of (de_ix (hu_ofG hr) (dr_of (de_name 0)) (dr_of de_int))) dar_nil))) (dr_of de_int))) (dr_of de_int)) da_nil) (by omega)) sc_law_labels.nd)
    (dss_cons (ds_setOwn 4 (df_lst da_nil) sc_law_labels.nd)
    (dss_cons (ds_for PassesOwn.never rfl (di0_range1 (by rfl) z_range (dar_cons (dr_of (de_name 1)) dar_nil)) (dg_name 5 sc_law_labels.nd) (dss_cons (ds_if (dt_cmp (op_eqK hr.units rfl) ro_eq (dr_of (de_ix (hu_ofG hr) (dr_of (de_name 0)) (dr_of de_int))) (dr_of de_int) (nomark _))
    (dss_cons (ds_set 7 (de_op op_mod ro_mod (dr_of (de_callTy call_int1 rc_int (by rfl) z_int boot_int (dar_cons (dr_of (de_ix (hu_ofG hr) (dr_of (de_name 0)) (dr_of de_int))) dar_nil))) (dr_of (de_op (op_addA rfl) ro_add (dr_of (de_ix (hu_ofG hr) (dr_of (de_name 0)) (dr_of de_int))) (dr_of de_int)))) sc_law_labels.nd)
    (dss_cons (ds_set 8 (de_ix (hu_ofG hr) (dr_of (de_name 2)) (dr_of (de_op op_mod ro_mod (dr_of (de_callTy call_int1 rc_int (by rfl) z_int boot_int (dar_cons (dr_of (de_op (op_addA rfl) ro_add (dr_of (de_ix (hu_ofG hr) (dr_of (de_name 0)) (dr_of de_int))) (dr_of (de_op op_mulA ro_mul (dr_of (de_name 5)) (dr_of (de_ix (hu_ofG hr) (dr_of (de_lst (da_cons de_int (da_cons de_int (da_cons de_int (da_cons de_int da_nil)))))) (dr_of (de_ix (hu_ofG hr) (dr_of (de_name 0)) (dr_of de_int))))))))) dar_nil))) (dr_of (de_ix (hu_ofG hr) (dr_of (de_lst (da_cons de_int (da_cons de_int da_nil)))) (dr_of (de_callTy call_int1 rc_int (by rfl) z_int boot_int (dar_cons (dr_of (de_cmp (op_eqK hr.units rfl) ro_eq (dr_of (de_name 7)) (dr_of de_int) (nomark _))) dar_nil)))))))) sc_law_labels.nd)
    (dss_one (ds_set 9 (de_slice (dr_of (de_op (op_addA rfl) ro_add (dr_of (de_op (op_addA rfl) ro_add (dr_of (de_slice (dr_of (de_name 3)) do_none (do_some (dr_of (de_name 7))))) (dr_of (de_name 8)))) (dr_of (de_slice (dr_of (de_name 3)) (do_some (dr_of (de_op (op_addA rfl) ro_add (dr_of (de_name 7)) (dr_of de_int)))) do_none)))) do_none (do_some (dr_of (de_op (op_addA rfl) ro_add (dr_of (de_ix (hu_ofG hr) (dr_of (de_name 0)) (dr_of de_int))) (dr_of de_int))))) sc_law_labels.nd))))
    (dss_one (ds_if (dt_cmp (op_eqK hr.units rfl) ro_eq (dr_of (de_ix (hu_ofG hr) (dr_of (de_name 0)) (dr_of de_int))) (dr_of de_int) (nomark _))
    (dss_one (ds_set 9 (de_slice (dr_of (de_ix (hu_ofG hr) (dr_of (de_lst (da_cons (de_name 3) (da_cons (de_op (op_addA rfl) ro_add (dr_of (de_ix (hu_ofG hr) (dr_of (de_name 2)) (dr_of (de_op op_mod ro_mod (dr_of (de_callTy call_int1 rc_int (by rfl) z_int boot_int (dar_cons (dr_of (de_ix (hu_ofG hr) (dr_of (de_name 0)) (dr_of de_int))) dar_nil))) (dr_of de_int))))) (dr_of (de_slice (dr_of (de_name 3)) (do_some (dr_of de_int)) do_none))) da_nil)))) (dr_of (de_op op_fdivW ro_fdiv (dr_of (de_name 5)) (dr_of de_int))))) do_none (do_some (dr_of (de_op (op_addA rfl) ro_add (dr_of (de_op op_mod ro_mod (dr_of (de_name 5)) (dr_of de_int))) (dr_of de_int))))) sc_law_labels.nd))
    (dss_one (ds_set 9 (de_call F_law_label hr (by rfl) (da_cons (de_ix (hu_ofG hr) (dr_of (de_name 0)) (dr_of (de_op (op_addA rfl) ro_add (dr_of de_int) (dr_of (de_name 5))))) da_nil) (by omega)) sc_law_labels.nd)))))
    (dss_cons (ds_for PassesOwn.never rfl (di0_range1 (by rfl) z_range (dar_cons (dr_of de_int) dar_nil)) (dg_name 6 sc_law_labels.nd) (dss_one (ds_if (dt_in (hu_ofG hr) (dr_of (de_name 9)) (dr_name 4) rfl)
    (dss_one (ds_set 9 (de_op (op_addA rfl) ro_add (dr_of (de_ix (hu_ofG hr) (dr_of (de_name 2)) (dr_of (de_name 6)))) (dr_of de_str)) sc_law_labels.nd))
    dss_nil)))
    (dss_one (ds_append 4 (de_name 9))))))
    (dss_cons (ds_if (dt_cmp (op_eqK hr.units rfl) ro_eq (dr_of (de_op op_mod ro_mod (dr_of (de_callTy call_int1 rc_int (by rfl) z_int boot_int (dar_cons (dr_of (de_ix (hu_ofG hr) (dr_of (de_name 0)) (dr_of de_int))) dar_nil))) (dr_of de_int))) (dr_of de_int) (nomark _))
    (dss_one (ds_ret (de_pick (dr_name 4) do_none do_none (do_some (dr_of (de_un un_neg ru_neg (dr_of de_int)))))))
    dss_nil)
    (dss_one (ds_ret (de_name 4))))))))
end

/-! ### _law_symbols -/
abbrev s_law_symbols : Stmt := topS 35
abbrev n_law_symbols : List Str := ["script", "at", "kinds", "row", "many", "names", "symbols", "k", "symbol"]
theorem sc_law_symbols : FnScope n_law_symbols ["script", "at"] (defScope s_law_symbols) := ⟨rfl, rfl, rfl, by decide +kernel, rfl, by decide +kernel, by decide +kernel⟩
def m_law_symbols : En → Option Out :=
    (seqM (setM 2 (lstM (consM (tupM (consM (cI 0) (consM (cB false) nilM))) (consM (tupM (consM (cI 2) (consM (cB true) nilM))) (consM (tupM (consM (cI 1) (consM (cB false) nilM))) (consM (tupM (consM (cI 2) (consM (cB true) nilM))) (consM (tupM (consM (cI 2) (consM (cB false) nilM))) (consM (tupM (consM (cI 0) (consM (cB false) nilM))) (consM (tupM (consM (cI 2) (consM (cB true) nilM))) (consM (tupM (consM (cI 0) (consM (cB false) nilM))) nilM))))))))))
    (seqM (setM 3 (callM f_law_digits (consM (callM f_law_cell (consM (nameV 0) (consM (nameV 1) nilM))) (consM (bind2 (lstM (consM (cI 24) (consM (cI 8) (consM (cI 12) nilM)))) (bind2 (lstM (consM (cI 8) nilM)) (cI 12) mulD) addD) nilM))))
    (seqM (setM 4 (bind2 (lstM (consM (cI 5) (consM (cI 4) (consM (cI 6) (consM (cI 7) (consM (cI 5) (consM (cI 4) (consM (cI 3) (consM (cI 8) (consM (cI 5) (consM (cI 6) (consM (cI 4) (consM (cI 7) (consM (cI 5) (consM (cI 6) (consM (cI 4) (consM (cI 3) (consM (cI 5) (consM (cI 2) (consM (cI 6) (consM (cI 4) (consM (cI 12) (consM (cI 10) (consM (cI 1) (consM (cI 0) nilM))))))))))))))))))))))))) (bind2 (nameV 3) (cI 0) ixD) ixD))
    (seqM (setM 5 (callM f_law_labels (consM (callM f_law_digits (consM (callM f_law_cell (consM (nameV 0) (consM (bind2 (nameV 1) (cI 1) addD) nilM))) (consM (bind2 (lstM (consM (cI 3) (consM (cI 8) (consM (cI 8) (consM (cI 4) (consM (cI 36) nilM)))))) (bind2 (lstM (consM (bind2 (cI 208) (bind2 (cI 36) (cI 7) powD) mulD) nilM)) (cI 13) mulD) addD) nilM))) (consM (nameV 4) nilM))))
    (seqM (setOwnM 6 (lcM [7] (rngM1 (consM (nameV 4) nilM)) (bndN 7) yesM (tupM (consM (bind2 (nameV 5) (nameV 7) ixD) (consM (bind2 (bind2 (nameV 2) (bind2 (nameV 3) (bind2 (cI 3) (nameV 7) addD) ixD) ixD) (cI 0) ixD) (consM (bind2 (bind2 (nameV 2) (bind2 (nameV 3) (bind2 (cI 3) (nameV 7) addD) ixD) ixD) (cI 1) ixD) nilM))))))
    (seqM (ifM (andM (boolM (bind2 (nameV 4) (cI 0) (cmpD fun i j => decide (j < i)))) (andM (boolM (bind2 (bind2 (nameV 3) (cI 1) ixD) (cI 0) (cmpD fun i j => decide (j < i)))) (boolM (bind2 (callM lenD (consM (asLst (lcM [8] (itemsA (nameR 6)) (bndN 8) (boolM (bind2 (nameV 8) (cI 2) ixD)) (nameV 8))) nilM)) (cI 0) eqD)))) (setItM 6 (bind2 (callM intD (consM (bind2 (nameV 3) (cI 2) ixD) nilM)) (nameV 4) modD) (tupM (consM (bind2 (nameV 5) (bind2 (callM intD (consM (bind2 (nameV 3) (cI 2) ixD) nilM)) (nameV 4) modD) ixD) (consM (cI 2) (consM (cB true) nilM))))) nextM)
    (retF (nameV 6))))))))
def f_law_symbols : List D → Option D := bodyM 2 9 m_law_symbols
section
variable [TbA] {P : Program} {w : World} {K : PySem.W.Frag} {mg : Str → Option Value} {base : Heap} {fa : Addr} {fd : FuncData}
theorem ok_law_symbols (F : Fun K "_law_symbols" "_law_symbols" s_law_symbols fa fd) (F_law_cell : DF P w K mg base "_law_cell" 1 ["script", "k"] f_law_cell) (F_law_digits : DF P w K mg base "_law_digits" 1 ["cell", "sizes"] f_law_digits) (F_law_labels : DF P w K mg base "_law_labels" 2 ["row", "many"] f_law_labels) (z_int : mg "int" = none) (z_len : mg "len" = none) (z_range : mg "range" = none) : FnG P w K mg base CX0 3 fa fd ["script", "at"] (spD K f_law_symbols) :=
  fn_ok (k := 2) F sc_law_symbols fun cdv A outer s0 H E hr =>
    (dss_cons (ds_set 2 (de_lst (da_cons (de_tup (da_cons de_int (da_cons de_bl da_nil))) (da_cons (de_tup (da_cons de_int (da_cons de_bl da_nil))) (da_cons (de_tup (da_cons de_int (da_cons de_bl da_nil))) (da_cons (de_tup (da_cons de_int (da_cons de_bl da_nil))) (da_cons (de_tup (da_cons de_int (da_cons de_bl da_nil))) (da_cons (de_tup (da_cons de_int (da_cons de_bl da_nil))) (da_cons (de_tup (da_cons de_int (da_cons de_bl da_nil))) (da_cons (de_tup (da_cons de_int (da_cons de_bl da_nil))) da_nil))))))))) sc_law_symbols.nd)
    (dss_cons (ds_set 3 (de_call F_law_digits hr (by rfl) (da_cons (de_call F_law_cell hr (by rfl) (da_cons (de_name 0) (da_cons (de_name 1) da_nil)) (by omega)) (da_cons (de_op (op_addA rfl) ro_add (dr_of (de_lst (da_cons de_int (da_cons de_int (da_cons de_int da_nil))))) (dr_of (de_op op_mulA ro_mul (dr_of (de_lst (da_cons de_int da_nil))) (dr_of de_int)))) da_nil)) (by omega)) sc_law_symbols.nd)
    (dss_cons (ds_set 4 (de_ix (hu_ofG hr) (dr_of (de_lst (da_cons de_int (da_cons de_int (da_cons de_int (da_cons de_int (da_cons de_int (da_cons de_int (da_cons de_int (da_cons de_int (da_cons de_int (da_cons de_int (da_cons de_int (da_cons de_int (da_cons de_int (da_cons de_int (da_cons de_int (da_cons de_int (da_cons de_int (da_cons de_int (da_cons de_int (da_cons de_int (da_cons de_int (da_cons de_int (da_cons de_int (da_cons de_int da_nil)))))))))))))))))))))))))) (dr_of (de_ix (hu_ofG hr) (dr_of (de_name 3)) (dr_of de_int)))) sc_law_symbols.nd)
    (dss_cons (ds_set 5 (de_call F_law_labels hr (by rfl) (da_cons (de_call F_law_digits hr (by rfl) (da_cons (de_call F_law_cell hr (by rfl) (da_cons (de_name 0) (da_cons (de_op (op_addA rfl) ro_add (dr_of (de_name 1)) (dr_of de_int)) da_nil)) (by omega)) (da_cons (de_op (op_addA rfl) ro_add (dr_of (de_lst (da_cons de_int (da_cons de_int (da_cons de_int (da_cons de_int (da_cons de_int da_nil))))))) (dr_of (de_op op_mulA ro_mul (dr_of (de_lst (da_cons (de_op op_mulA ro_mul (dr_of de_int) (dr_of (de_op op_pow ro_pow (dr_of de_int) (dr_of de_int)))) da_nil))) (dr_of de_int)))) da_nil)) (by omega)) (da_cons (de_name 4) da_nil)) (by omega)) sc_law_symbols.nd)
    (dss_cons (ds_setLcOwn 6 (dlc (own := [("k", 7)]) rfl sc_law_symbols.nd (DI0.to1 (di0_range1 (by rfl) z_range (dar_cons (dr_of (de_name 4)) dar_nil))) (blkOk_by (own := [("k", 7)]) (N := n_law_symbols) (sc := defScope s_law_symbols) (by decide +kernel)) (fun _ _ _ _ _ => (dg_name 7 sc_law_symbols.nd)) (fun _ _ _ _ _ => dts_nil) (fun _ _ _ _ _ => (de_tup (da_cons (de_ix (hu_ofG hr) (dr_of (de_name 5)) (dr_of (de_name 7))) (da_cons (de_ix (hu_ofG hr) (dr_of (de_ix (hu_ofG hr) (dr_of (de_name 2)) (dr_of (de_ix (hu_ofG hr) (dr_of (de_name 3)) (dr_of (de_op (op_addA rfl) ro_add (dr_of de_int) (dr_of (de_name 7)))))))) (dr_of de_int)) (da_cons (de_ix (hu_ofG hr) (dr_of (de_ix (hu_ofG hr) (dr_of (de_name 2)) (dr_of (de_ix (hu_ofG hr) (dr_of (de_name 3)) (dr_of (de_op (op_addA rfl) ro_add (dr_of de_int) (dr_of (de_name 7)))))))) (dr_of de_int)) da_nil))))) (by rfl) s0))
    (dss_cons (ds_if (dt_w (dw_and (dt_cmp op_gt (ro_cmp fun i j => decide (j < i)) (dr_of (de_name 4)) (dr_of de_int) (nomark _)) (dw_and (dt_cmp op_gt (ro_cmp fun i j => decide (j < i)) (dr_of (de_ix (hu_ofG hr) (dr_of (de_name 3)) (dr_of de_int))) (dr_of de_int) (nomark _)) (dw_and1 (dt_cmp (op_eqK hr.units rfl) ro_eq (dr_of (de_callB (call_lenA rfl) rc_len (by rfl) z_len PySem.boot_len (dar_cons (dr_of (DF1.e (DLc.toDF1 (dlc (own := [("symbol", 8)]) rfl sc_law_symbols.nd (di1_seq (dr_name 6)) (blkOk_by (own := [("symbol", 8)]) (N := n_law_symbols) (sc := defScope s_law_symbols) (by decide +kernel)) (fun _ _ _ _ _ => (dg_name 8 sc_law_symbols.nd)) (fun _ _ _ _ _ => (dts_one (dt_val (de_ix (hu_ofG hr) (dr_of (de_name 8)) (dr_of de_int))))) (fun _ _ _ _ _ => (de_name 8)) (by rfl) s0)))) dar_nil))) (dr_of de_int) (nomark _))))))
    (dss_one (ds_setItem 6 (de_op op_mod ro_mod (dr_of (de_callTy call_int1 rc_int (by rfl) z_int boot_int (dar_cons (dr_of (de_ix (hu_ofG hr) (dr_of (de_name 3)) (dr_of de_int))) dar_nil))) (dr_of (de_name 4))) (de_tup (da_cons (de_ix (hu_ofG hr) (dr_of (de_name 5)) (dr_of (de_op op_mod ro_mod (dr_of (de_callTy call_int1 rc_int (by rfl) z_int boot_int (dar_cons (dr_of (de_ix (hu_ofG hr) (dr_of (de_name 3)) (dr_of de_int))) dar_nil))) (dr_of (de_name 4))))) (da_cons de_int (da_cons de_bl da_nil))))))
    dss_nil)
    (dss_one (ds_ret (de_name 6)))))))))
end

/-! ### _law_variables -/
abbrev s_law_variables : Stmt := topS 36
abbrev n_law_variables : List Str := ["cell", "row", "names", "k", "number", "letter", "name", "first"]
theorem sc_law_variables : FnScope n_law_variables ["cell"] (defScope s_law_variables) := ⟨rfl, rfl, rfl, by decide +kernel, rfl, by decide +kernel, by decide +kernel⟩
def l1_law_variables : En → Option Out := (seqM (setM 4 (callM intD (consM (bind2 (nameV 1) (bind2 (cI 2) (nameV 3) addD) ixD) nilM)))
    (seqM (setM 5 (bind2 (cS "ABCDEFGHIJKLMNOPQRSTUVWXYZ") (bind2 (bind2 (nameV 4) (cI 6) fdivD) (cI 26) modD) ixD))
    (seqM (setM 6 (bind2 (nameV 5) (slM (callM strOfD (consM (bind2 (cI 100000) (bind2 (bind2 (nameV 4) (cI 156) fdivD) (cI 100000) modD) addD) nilM)) (partM (cI 1)) (partM (bind2 (bind2 (nameV 4) (cI 6) modD) (cI 1) addD))) addD))
    (seqM (ifM (boolM (bind2 (bind2 (nameV 1) (cI 1) ixD) (cI 1) eqD)) (seqM (setM 7 (bind2 (cS "ABCDEFGHIJKLMNOPQRSTUVWXYZ") (bind2 (bind2 (callM intD (consM (bind2 (nameV 1) (cI 2) ixD) nilM)) (cI 6) fdivD) (cI 26) modD) ixD))
    (setM 6 (bind2 (nameV 7) (bind2 (lstM (consM (cS "") (consM (cS "1") (consM (cS "01") (consM (cS "10") (consM (cS "2") (consM (cS "0") (consM (cS "9") (consM (cS "00001") (consM (cS "11") (consM (cS "001") nilM))))))))))) (bind2 (bind2 (nameV 4) (cI 6) fdivD) (cI 10) modD) ixD) addD))) nextM)
    (appM 2 (nameV 6))))))
def m_law_variables : En → Option Out :=
    (seqM (setM 1 (callM f_law_digits (consM (nameV 0) (consM (bind2 (lstM (consM (cI 8) (consM (cI 2) nilM))) (bind2 (lstM (consM (cI 15600000) nilM)) (cI 8) mulD) addD) nilM))))
    (seqM (setOwnM 2 (lstF nilM))
    (seqM (forM (rngM1 (consM (bind2 (lstM (consM (cI 3) (consM (cI 1) (consM (cI 4) (consM (cI 2) (consM (cI 3) (consM (cI 2) (consM (cI 6) (consM (cI 8) nilM))))))))) (bind2 (nameV 1) (cI 0) ixD) ixD) nilM)) (bndN 3) l1_law_variables)
    (retF (nameV 2)))))
def f_law_variables : List D → Option D := bodyM 1 8 m_law_variables
section
variable [TbA] {P : Program} {w : World} {K : PySem.W.Frag} {mg : Str → Option Value} {base : Heap} {fa : Addr} {fd : FuncData}
theorem ok_law_variables (F : Fun K "_law_variables" "_law_variables" s_law_variables fa fd) (F_law_digits : DF P w K mg base "_law_digits" 1 ["cell", "sizes"] f_law_digits) (z_int : mg "int" = none) (z_range : mg "range" = none) (z_str : mg "str" = none) : FnG P w K mg base CX0 2 fa fd ["cell"] (spD K f_law_variables) :=
  fn_ok (k := 1) F sc_law_variables fun cdv A outer s0 H E hr =>
    (dss_cons (ds_set 1 (de_call F_law_digits hr (by rfl) (da_cons (de_name 0) (da_cons (de_op (op_addA rfl) ro_add (dr_of (de_lst (da_cons de_int (da_cons de_int da_nil)))) (dr_of (de_op op_mulA ro_mul (dr_of (de_lst (da_cons de_int da_nil))) (dr_of de_int)))) da_nil)) (by omega)) sc_law_variables.nd)
    (dss_cons (ds_setOwn 2 (df_lst da_nil) sc_law_variables.nd)
    (dss_cons (ds_for PassesOwn.never rfl (di0_range1 (by rfl) z_range (dar_cons (dr_of (de_ix (hu_ofG hr) (dr_of (de_lst (da_cons de_int (da_cons de_int (da_cons de_int (da_cons de_int (da_cons de_int (da_cons de_int (da_cons de_int (da_cons de_int da_nil)))))))))) (dr_of (de_ix (hu_ofG hr) (dr_of (de_name 1)) (dr_of de_int))))) dar_nil)) (dg_name 3 sc_law_variables.nd) (dss_cons (ds_set 4 (de_callTy call_int1 rc_int (by rfl) z_int boot_int (dar_cons (dr_of (de_ix (hu_ofG hr) (dr_of (de_name 1)) (dr_of (de_op (op_addA rfl) ro_add (dr_of de_int) (dr_of (de_name 3)))))) dar_nil)) sc_law_variables.nd)
    (dss_cons (ds_set 5 (de_ix (hu_ofG hr) (dr_of de_str) (dr_of (de_op op_mod ro_mod (dr_of (de_op op_fdivW ro_fdiv (dr_of (de_name 4)) (dr_of de_int))) (dr_of de_int)))) sc_law_variables.nd)
    (dss_cons (ds_set 6 (de_op (op_addA rfl) ro_add (dr_of (de_name 5)) (dr_of (de_slice (dr_of (de_callTy call_str_int rc_str (by rfl) z_str boot_str (dar_cons (dr_of (de_op (op_addA rfl) ro_add (dr_of de_int) (dr_of (de_op op_mod ro_mod (dr_of (de_op op_fdivW ro_fdiv (dr_of (de_name 4)) (dr_of de_int))) (dr_of de_int))))) dar_nil))) (do_some (dr_of de_int)) (do_some (dr_of (de_op (op_addA rfl) ro_add (dr_of (de_op op_mod ro_mod (dr_of (de_name 4)) (dr_of de_int))) (dr_of de_int))))))) sc_law_variables.nd)
    (dss_cons (ds_if (dt_cmp (op_eqK hr.units rfl) ro_eq (dr_of (de_ix (hu_ofG hr) (dr_of (de_name 1)) (dr_of de_int))) (dr_of de_int) (nomark _))
    (dss_cons (ds_set 7 (de_ix (hu_ofG hr) (dr_of de_str) (dr_of (de_op op_mod ro_mod (dr_of (de_op op_fdivW ro_fdiv (dr_of (de_callTy call_int1 rc_int (by rfl) z_int boot_int (dar_cons (dr_of (de_ix (hu_ofG hr) (dr_of (de_name 1)) (dr_of de_int))) dar_nil))) (dr_of de_int))) (dr_of de_int)))) sc_law_variables.nd)
    (dss_one (ds_set 6 (de_op (op_addA rfl) ro_add (dr_of (de_name 7)) (dr_of (de_ix (hu_ofG hr) (dr_of (de_lst (da_cons de_str (da_cons de_str (da_cons de_str (da_cons de_str (da_cons de_str (da_cons de_str (da_cons de_str (da_cons de_str (da_cons de_str (da_cons de_str da_nil)))))))))))) (dr_of (de_op op_mod ro_mod (dr_of (de_op op_fdivW ro_fdiv (dr_of (de_name 4)) (dr_of de_int))) (dr_of de_int)))))) sc_law_variables.nd)))
    dss_nil)
    (dss_one (ds_append 2 (de_name 6))))))))
    (dss_one (ds_ret (de_name 2))))))
end

/-! ### _law_turned -/
abbrev s_law_turned : Stmt := topS 37
abbrev n_law_turned : List Str := ["two", "writing", "row", "at", "behind", "swap", "parts", "item", "inner"]
theorem sc_law_turned : FnScope n_law_turned ["two", "writing", "row", "at"] (defScope s_law_turned) := ⟨rfl, rfl, rfl, by decide +kernel, rfl, by decide +kernel, by decide +kernel⟩
def l1_law_turned (self : List D → Option D) : En → Option Out := (seqM (setM 8 (callM self (consM (nameV 0) (consM (nameV 7) (consM (nameV 2) (consM (nameV 4) nilM))))))
    (seqM (appM 6 (bind2 (nameV 8) (cI 0) ixD))
    (setM 4 (bind2 (nameV 8) (cI 1) ixD))))
def m_law_turned (self : List D → Option D) : En → Option Out :=
    (seqM (ifM (boolM (unM (isiD "str") (nameV 1))) (retF (lstM (consM (nameV 1) (consM (nameV 3) nilM)))) nextM)
    (seqM (setM 4 (nameV 3))
    (seqM (setM 5 (cB false))
    (seqM (ifM (boolM (bind2 (bind2 (nameV 1) (cI 0) ixD) (nameV 0) inD)) (seqM (setM 5 (andV (bind2 (nameV 4) (callM lenD (consM (nameV 2) nilM)) (cmpD fun i j => decide (i < j))) (bind2 (bind2 (callM intD (consM (bind2 (nameV 2) (nameV 4) ixD) nilM)) (cI 2) modD) (cI 1) eqD)))
    (setM 4 (bind2 (nameV 4) (cI 1) addD))) nextM)
    (seqM (setOwnM 6 (lstF nilM))
    (seqM (forM (itemsA (slM (nameV 1) (partM (cI 1)) noP)) (bndN 7) (l1_law_turned self))
    (seqM (ifM (truM (nameV 5)) (setOwnM 6 (lstF (consM (bind2 (nameR 6) (cI 1) ixD) (consM (bind2 (nameR 6) (cI 0) ixD) nilM)))) nextM)
    (retF (lstM (consM (callM tupleD (consM (bind2 (lstM (consM (bind2 (nameV 1) (cI 0) ixD) nilM)) (nameR 6) addD) nilM)) (consM (nameV 4) nilM)))))))))))
def f_law_turned_ : Nat → List D → Option D
  | 0 => fun _ => none
  | n + 1 => bodyM 4 9 (m_law_turned (f_law_turned_ n))
def f_law_turned : List D → Option D := f_law_turned_ 64
section
variable [TbA] {P : Program} {w : World} {K : PySem.W.Frag} {mg : Str → Option Value} {base : Heap} {fa : Addr} {fd : FuncData}
theorem ok1_law_turned {self : List D → Option D} {k : Nat} (hk : 0 ≤ k) (F : Fun K "_law_turned" "_law_turned" s_law_turned fa fd) (z_int : mg "int" = none) (z_isinstance : mg "isinstance" = none) (z_len : mg "len" = none) (z_str : mg "str" = none) (z_tuple : mg "tuple" = none) (F_law_turned : DF P w K mg base "_law_turned" k ["two", "writing", "row", "at"] self) : FnG P w K mg base CX0 (k + 1) fa fd ["two", "writing", "row", "at"] (spD K (bodyM 4 9 (m_law_turned self))) :=
  fn_ok F sc_law_turned fun cdv A outer s0 H E hr =>
    (dss_cons (ds_if (dt_val (de_isi (T := "str") (Tn := "str") (dr_of (de_name 1)) (by rfl) z_isinstance (by rfl) z_str boot_str))
    (dss_one (ds_ret (de_lst (da_cons (de_name 1) (da_cons (de_name 3) da_nil)))))
    dss_nil)
    (dss_cons (ds_set 4 (de_name 3) sc_law_turned.nd)
    (dss_cons (ds_set 5 de_bl sc_law_turned.nd)
    (dss_cons (ds_if (dt_in (hu_ofG hr) (dr_of (de_ix (hu_ofG hr) (dr_of (de_name 1)) (dr_of de_int))) (dr_of (de_name 0)) rfl)
    (dss_cons (ds_set 5 (de_and (de_cmp op_lt (ro_cmp fun i j => decide (i < j)) (dr_of (de_name 4)) (dr_of (de_callB (call_lenA rfl) rc_len (by rfl) z_len PySem.boot_len (dar_cons (dr_of (de_name 2)) dar_nil))) (nomark _)) (de_one (de_cmp (op_eqK hr.units rfl) ro_eq (dr_of (de_op op_mod ro_mod (dr_of (de_callTy call_int1 rc_int (by rfl) z_int boot_int (dar_cons (dr_of (de_ix (hu_ofG hr) (dr_of (de_name 2)) (dr_of (de_name 4)))) dar_nil))) (dr_of de_int))) (dr_of de_int) (nomark _)))) sc_law_turned.nd)
    (dss_one (ds_set 4 (de_op (op_addA rfl) ro_add (dr_of (de_name 4)) (dr_of de_int)) sc_law_turned.nd)))
    dss_nil)
    (dss_cons (ds_setOwn 6 (df_lst da_nil) sc_law_turned.nd)
    (dss_cons (ds_for PassesOwn.never rfl (di0_seq (de_slice (dr_of (de_name 1)) (do_some (dr_of de_int)) do_none)) (dg_name 7 sc_law_turned.nd) (dss_cons (ds_set 8 (de_call F_law_turned hr (by rfl) (da_cons (de_name 0) (da_cons (de_name 7) (da_cons (de_name 2) (da_cons (de_name 4) da_nil)))) (by omega)) sc_law_turned.nd)
    (dss_cons (ds_append 6 (de_ix (hu_ofG hr) (dr_of (de_name 8)) (dr_of de_int)))
    (dss_one (ds_set 4 (de_ix (hu_ofG hr) (dr_of (de_name 8)) (dr_of de_int)) sc_law_turned.nd)))))
    (dss_cons (ds_if (dt_tru (dr_of (de_name 5)))
    (dss_one (ds_setOwn 6 (df_lst (da_cons (de_ix (hu_ofG hr) (dr_name 6) (dr_of de_int)) (da_cons (de_ix (hu_ofG hr) (dr_name 6) (dr_of de_int)) da_nil))) sc_law_turned.nd))
    dss_nil)
    (dss_one (ds_ret (de_lst (da_cons (de_callTy (call_tupleK rfl) rc_tuple (by rfl) z_tuple boot_tuple (dar_cons (dr_of (de_op (op_addA rfl) ro_add (dr_of (de_lst (da_cons (de_ix (hu_ofG hr) (dr_of (de_name 1)) (dr_of de_int)) da_nil))) (dr_name 6))) dar_nil)) (da_cons (de_name 4) da_nil))))))))))))
theorem ok2_law_turned (F : Fun K "_law_turned" "_law_turned" s_law_turned fa fd) (z_int : mg "int" = none) (z_isinstance : mg "isinstance" = none) (z_len : mg "len" = none) (z_str : mg "str" = none) (z_tuple : mg "tuple" = none) (hm : mg "_law_turned" = some (.ref fa)) (hb : Binds K fd ["two", "writing", "row", "at"] []) : ∀ n : Nat, FnG P w K mg base CX0 (0 + n) fa fd ["two", "writing", "row", "at"] (spD K (f_law_turned_ n))
  | 0 => fn_zero
  | n + 1 => ok1_law_turned (Nat.le_add_right _ _) F z_int z_isinstance z_len z_str z_tuple ⟨fa, fd, hm, F.kp, hb, ok2_law_turned F z_int z_isinstance z_len z_str z_tuple hm hb n⟩
end

/-! ### _law_renamed -/
abbrev s_law_renamed : Stmt := topS 38
abbrev n_law_renamed : List Str := ["writing", "names", "item"]
theorem sc_law_renamed : FnScope n_law_renamed ["writing", "names"] (defScope s_law_renamed) := ⟨rfl, rfl, rfl, by decide +kernel, rfl, by decide +kernel, by decide +kernel⟩
def m_law_renamed (self : List D → Option D) : En → Option Out :=
    (seqM (ifM (boolM (unM (isiD "str") (nameV 0))) (retF (bind2 (nameV 1) (bind2 (bind2 (bind2 (nameV 1) (nameV 0) indexD) (cI 1) addD) (callM lenD (consM (nameV 1) nilM)) modD) ixD)) nextM)
    (retF (callM tupleD (consM (bind2 (lstM (consM (bind2 (nameV 0) (cI 0) ixD) nilM)) (asLst (lcM [2] (itemsA (slM (nameV 0) (partM (cI 1)) noP)) (bndN 2) yesM (callM self (consM (nameV 2) (consM (nameV 1) nilM))))) addD) nilM))))
def f_law_renamed_ : Nat → List D → Option D
  | 0 => fun _ => none
  | n + 1 => bodyM 2 3 (m_law_renamed (f_law_renamed_ n))
def f_law_renamed : List D → Option D := f_law_renamed_ 64
section
variable [TbA] {P : Program} {w : World} {K : PySem.W.Frag} {mg : Str → Option Value} {base : Heap} {fa : Addr} {fd : FuncData}
theorem ok1_law_renamed {self : List D → Option D} {k : Nat} (hk : 0 ≤ k) (F : Fun K "_law_renamed" "_law_renamed" s_law_renamed fa fd) (z_isinstance : mg "isinstance" = none) (z_len : mg "len" = none) (z_str : mg "str" = none) (z_tuple : mg "tuple" = none) (F_law_renamed : DF P w K mg base "_law_renamed" k ["writing", "names"] self) : FnG P w K mg base CX0 (k + 1) fa fd ["writing", "names"] (spD K (bodyM 2 3 (m_law_renamed self))) :=
  fn_ok F sc_law_renamed fun cdv A outer s0 H E hr =>
    (dss_cons (ds_if (dt_val (de_isi (T := "str") (Tn := "str") (dr_of (de_name 0)) (by rfl) z_isinstance (by rfl) z_str boot_str))
    (dss_one (ds_ret (de_ix (hu_ofG hr) (dr_of (de_name 1)) (dr_of (de_op op_mod ro_mod (dr_of (de_op (op_addA rfl) ro_add (dr_of (de_index (dr_of (de_name 1)) (dr_of (de_name 0)))) (dr_of de_int))) (dr_of (de_callB (call_lenA rfl) rc_len (by rfl) z_len PySem.boot_len (dar_cons (dr_of (de_name 1)) dar_nil))))))))
    dss_nil)
    (dss_one (ds_ret (de_callTy (call_tupleK rfl) rc_tuple (by rfl) z_tuple boot_tuple (dar_cons (dr_of (de_op (op_addA rfl) ro_add (dr_of (de_lst (da_cons (de_ix (hu_ofG hr) (dr_of (de_name 0)) (dr_of de_int)) da_nil))) (dr_of (DF1.e (DLc.toDF1 (dlc (own := [("item", 2)]) rfl sc_law_renamed.nd (di1_seq (dr_of (de_slice (dr_of (de_name 0)) (do_some (dr_of de_int)) do_none))) (blkOk_by (own := [("item", 2)]) (N := n_law_renamed) (sc := defScope s_law_renamed) (by decide +kernel)) (fun _ _ _ _ _ => (dg_name 2 sc_law_renamed.nd)) (fun _ _ _ _ _ => dts_nil) (fun _ _ _ _ _ => (de_call F_law_renamed hr (by rfl) (da_cons (de_name 2) (da_cons (de_name 1) da_nil)) (by omega))) (by rfl) s0)))))) dar_nil)))))
theorem ok2_law_renamed (F : Fun K "_law_renamed" "_law_renamed" s_law_renamed fa fd) (z_isinstance : mg "isinstance" = none) (z_len : mg "len" = none) (z_str : mg "str" = none) (z_tuple : mg "tuple" = none) (hm : mg "_law_renamed" = some (.ref fa)) (hb : Binds K fd ["writing", "names"] []) : ∀ n : Nat, FnG P w K mg base CX0 (0 + n) fa fd ["writing", "names"] (spD K (f_law_renamed_ n))
  | 0 => fn_zero
  | n + 1 => ok1_law_renamed (Nat.le_add_right _ _) F z_isinstance z_len z_str z_tuple ⟨fa, fd, hm, F.kp, hb, ok2_law_renamed F z_isinstance z_len z_str z_tuple hm hb n⟩
end

/-! ### _law_term -/
abbrev s_law_term : Stmt := topS 39
abbrev n_law_term : List Str := ["symbols", "names", "row", "at", "room", "turns", "copies", "digit", "fitting", "menu", "chosen", "left", "share", "one", "other", "leaves", "inner", "copy", "symbol"]
theorem sc_law_term : FnScope n_law_term ["symbols", "names", "row", "at", "room", "turns", "copies"] (defScope s_law_term) := ⟨rfl, rfl, rfl, by decide +kernel, rfl, by decide +kernel, by decide +kernel⟩
def m_law_term (self : List D → Option D) : En → Option Out :=
    (seqM (setM 7 (cI 0))
    (seqM (ifM (boolM (bind2 (nameV 3) (callM lenD (consM (nameV 2) nilM)) (cmpD fun i j => decide (i < j)))) (setM 7 (callM intD (consM (bind2 (nameV 2) (nameV 3) ixD) nilM))) nextM)
    (seqM (setM 8 (asLst (lcM [18] (itemsA (nameV 0)) (bndN 18) (andM (boolM (bind2 (bind2 (nameV 18) (cI 1) ixD) (nameV 4) (cmpD fun i j => decide (i < j)))) (orM (boolM (bind2 (nameV 5) (cI 0) (cmpD fun i j => decide (j < i)))) (notM (boolM (bind2 (nameV 18) (cI 2) ixD))))) (nameV 18))))
    (seqM (setM 9 (bind2 (asLst (lcM [18] (itemsA (nameV 8)) (bndN 18) (boolM (bind2 (bind2 (nameV 18) (cI 1) ixD) (cI 0) (cmpD fun i j => decide (j < i)))) (nameV 18))) (asLst (lcM [18] (itemsA (nameV 8)) (bndN 18) (boolM (bind2 (nameV 18) (cI 2) ixD)) (nameV 18))) addD))
    (seqM (ifM (orM (boolM (bind2 (callM lenD (consM (nameV 9) nilM)) (cI 0) eqD)) (boolM (bind2 (bind2 (nameV 7) (cI 20) modD) (bind2 (lstM (consM (cI 6) (consM (cI 1) nilM))) (callM intD (consM (bind2 (nameV 4) (cI 6) (cmpD fun i j => decide (j < i))) nilM)) ixD) (cmpD fun i j => decide (i < j))))) (seqM (setM 15 (bind2 (nameV 1) (asLst (lcM [18] (itemsA (nameV 0)) (bndN 18) (boolM (bind2 (bind2 (nameV 18) (cI 1) ixD) (cI 0) eqD)) (tupM (consM (bind2 (nameV 18) (cI 0) ixD) nilM)))) addD))
    (retF (lstM (consM (bind2 (nameV 15) (bind2 (bind2 (bind2 (nameV 7) (cI 20) fdivD) (cI 60) modD) (callM lenD (consM (nameV 15) nilM)) modD) ixD) (consM (bind2 (nameV 3) (cI 1) addD) (consM (cI 0) nilM)))))) nextM)
    (seqM (setM 10 (bind2 (nameV 9) (bind2 (bind2 (bind2 (nameV 7) (cI 20) fdivD) (cI 60) modD) (callM lenD (consM (nameV 9) nilM)) modD) ixD))
    (seqM (setM 11 (bind2 (nameV 5) (callM intD (consM (bind2 (nameV 10) (cI 2) ixD) nilM)) subD))
    (seqM (ifM (boolM (bind2 (bind2 (nameV 10) (cI 1) ixD) (cI 1) eqD)) (seqM (setM 16 (callM self (consM (nameV 0) (consM (nameV 1) (consM (nameV 2) (consM (bind2 (nameV 3) (cI 1) addD) (consM (bind2 (nameV 4) (cI 1) subD) (consM (nameV 11) (consM (nameV 6) nilM)))))))))
    (retF (lstM (consM (tupM (consM (bind2 (nameV 10) (cI 0) ixD) (consM (bind2 (nameV 16) (cI 0) ixD) nilM))) (consM (bind2 (nameV 16) (cI 1) ixD) (consM (bind2 (nameV 16) (cI 2) ixD) nilM)))))) nextM)
    (seqM (ifM (andM (boolM (bind2 (nameV 10) (cI 2) ixD)) (boolM (bind2 (bind2 (nameV 7) (cI 72000) fdivD) (nameV 6) (cmpD fun i j => decide (i ≤ j))))) (seqM (setM 13 (callM self (consM (nameV 0) (consM (nameV 1) (consM (nameV 2) (consM (bind2 (nameV 3) (cI 1) addD) (consM (bind2 (bind2 (nameV 4) (cI 1) subD) (cI 2) fdivD) (consM (bind2 (nameV 11) (cI 2) fdivD) (consM (nameV 6) nilM)))))))))
    (seqM (setM 17 (callM f_law_turned (consM (asLst (lcM [18] (itemsA (nameV 0)) (bndN 18) (boolM (bind2 (nameV 18) (cI 2) ixD)) (bind2 (nameV 18) (cI 0) ixD))) (consM (bind2 (nameV 13) (cI 0) ixD) (consM (nameV 2) (consM (bind2 (nameV 13) (cI 1) ixD) nilM))))))
    (seqM (ifM (boolM (bind2 (bind2 (nameV 7) (cI 72000) fdivD) (nameV 6) eqD)) (setM 17 (lstM (consM (callM f_law_renamed (consM (bind2 (nameV 17) (cI 0) ixD) (consM (nameV 1) nilM))) (consM (bind2 (nameV 17) (cI 1) ixD) nilM)))) nextM)
    (retF (lstM (consM (tupM (consM (bind2 (nameV 10) (cI 0) ixD) (consM (bind2 (nameV 13) (cI 0) ixD) (consM (bind2 (nameV 17) (cI 0) ixD) nilM)))) (consM (bind2 (nameV 17) (cI 1) ixD) (consM (bind2 (cI 1) (bind2 (cI 2) (bind2 (nameV 13) (cI 2) ixD) mulD) addD) nilM)))))))) nextM)
    (seqM (setM 12 (bind2 (cI 1) (bind2 (bind2 (bind2 (nameV 7) (cI 1200) fdivD) (cI 60) modD) (bind2 (nameV 4) (cI 2) subD) modD) addD))
    (seqM (setM 13 (callM self (consM (nameV 0) (consM (nameV 1) (consM (nameV 2) (consM (bind2 (nameV 3) (cI 1) addD) (consM (nameV 12) (consM (nameV 11) (consM (nameV 6) nilM)))))))))
    (seqM (setM 14 (callM self (consM (nameV 0) (consM (nameV 1) (consM (nameV 2) (consM (bind2 (nameV 13) (cI 1) ixD) (consM (bind2 (bind2 (nameV 4) (cI 1) subD) (nameV 12) subD) (consM (bind2 (nameV 11) (bind2 (nameV 13) (cI 2) ixD) subD) (consM (nameV 6) nilM)))))))))
    (retF (lstM (consM (tupM (consM (bind2 (nameV 10) (cI 0) ixD) (consM (bind2 (nameV 13) (cI 0) ixD) (consM (bind2 (nameV 14) (cI 0) ixD) nilM)))) (consM (bind2 (nameV 14) (cI 1) ixD) (consM (bind2 (bind2 (callM intD (consM (bind2 (nameV 10) (cI 2) ixD) nilM)) (bind2 (nameV 13) (cI 2) ixD) addD) (bind2 (nameV 14) (cI 2) ixD) addD) nilM)))))))))))))))))
def f_law_term_ : Nat → List D → Option D
  | 0 => fun _ => none
  | n + 1 => bodyM 7 19 (m_law_term (f_law_term_ n))
def f_law_term : List D → Option D := f_law_term_ 64
section
variable [TbA] {P : Program} {w : World} {K : PySem.W.Frag} {mg : Str → Option Value} {base : Heap} {fa : Addr} {fd : FuncData}
theorem ok1_law_term {self : List D → Option D} {k : Nat} (hk : 64 ≤ k) (F : Fun K "_law_term" "_law_term" s_law_term fa fd) (F_law_turned : DF P w K mg base "_law_turned" 64 ["two", "writing", "row", "at"] f_law_turned) (F_law_renamed : DF P w K mg base "_law_renamed" 64 ["writing", "names"] f_law_renamed) (z_int : mg "int" = none) (z_len : mg "len" = none) (F_law_term : DF P w K mg base "_law_term" k ["symbols", "names", "row", "at", "room", "turns", "copies"] self) : FnG P w K mg base CX0 (k + 1) fa fd ["symbols", "names", "row", "at", "room", "turns", "copies"] (spD K (bodyM 7 19 (m_law_term self))) :=
  fn_ok F sc_law_term fun cdv A outer s0 H E hr =>
    (dss_cons (ds_set 7 de_int sc_law_term.nd)
    (dss_cons (ds_if (dt_cmp op_lt (ro_cmp fun i j => decide (i < j)) (dr_of (de_name 3)) (dr_of (de_callB (call_lenA rfl) rc_len (by rfl) z_len PySem.boot_len (dar_cons (dr_of (de_name 2)) dar_nil))) (nomark _))
    (dss_one (ds_set 7 (de_callTy call_int1 rc_int (by rfl) z_int boot_int (dar_cons (dr_of (de_ix (hu_ofG hr) (dr_of (de_name 2)) (dr_of (de_name 3)))) dar_nil)) sc_law_term.nd))
    dss_nil)
    (dss_cons (ds_setLc 8 (dlc (own := [("symbol", 18)]) rfl sc_law_term.nd (di1_seq (dr_of (de_name 0))) (blkOk_by (own := [("symbol", 18)]) (N := n_law_term) (sc := defScope s_law_term) (by decide +kernel)) (fun _ _ _ _ _ => (dg_name 18 sc_law_term.nd)) (fun _ _ _ _ _ => (dts_one (dt_w (dw_and (dt_cmp op_lt (ro_cmp fun i j => decide (i < j)) (dr_of (de_ix (hu_ofG hr) (dr_of (de_name 18)) (dr_of de_int))) (dr_of (de_name 4)) (nomark _)) (dw_and1 (dt_w (dw_or (dt_cmp op_gt (ro_cmp fun i j => decide (j < i)) (dr_of (de_name 5)) (dr_of de_int) (nomark _)) (dw_or1 (dt_not (dt_val (de_ix (hu_ofG hr) (dr_of (de_name 18)) (dr_of de_int)))))))))))) (fun _ _ _ _ _ => (de_name 18)) (by rfl) s0))
    (dss_cons (ds_set 9 (de_op (op_addA rfl) ro_add (dr_of (DF1.e (DLc.toDF1 (dlc (own := [("symbol", 18)]) rfl sc_law_term.nd (di1_seq (dr_of (de_name 8))) (blkOk_by (own := [("symbol", 18)]) (N := n_law_term) (sc := defScope s_law_term) (by decide +kernel)) (fun _ _ _ _ _ => (dg_name 18 sc_law_term.nd)) (fun _ _ _ _ _ => (dts_one (dt_cmp op_gt (ro_cmp fun i j => decide (j < i)) (dr_of (de_ix (hu_ofG hr) (dr_of (de_name 18)) (dr_of de_int))) (dr_of de_int) (nomark _)))) (fun _ _ _ _ _ => (de_name 18)) (by rfl) s0)))) (dr_of (DF1.e (DLc.toDF1 (dlc (own := [("symbol", 18)]) rfl sc_law_term.nd (di1_seq (dr_of (de_name 8))) (blkOk_by (own := [("symbol", 18)]) (N := n_law_term) (sc := defScope s_law_term) (by decide +kernel)) (fun _ _ _ _ _ => (dg_name 18 sc_law_term.nd)) (fun _ _ _ _ _ => (dts_one (dt_val (de_ix (hu_ofG hr) (dr_of (de_name 18)) (dr_of de_int))))) (fun _ _ _ _ _ => (de_name 18)) (by rfl) s0))))) sc_law_term.nd)
    (dss_cons (ds_if (dt_w (dw_or (dt_cmp (op_eqK hr.units rfl) ro_eq (dr_of (de_callB (call_lenA rfl) rc_len (by rfl) z_len PySem.boot_len (dar_cons (dr_of (de_name 9)) dar_nil))) (dr_of de_int) (nomark _)) (dw_or1 (dt_cmp op_lt (ro_cmp fun i j => decide (i < j)) (dr_of (de_op op_mod ro_mod (dr_of (de_name 7)) (dr_of de_int))) (dr_of (de_ix (hu_ofG hr) (dr_of (de_lst (da_cons de_int (da_cons de_int da_nil)))) (dr_of (de_callTy call_int1 rc_int (by rfl) z_int boot_int (dar_cons (dr_of (de_cmp op_gt (ro_cmp fun i j => decide (j < i)) (dr_of (de_name 4)) (dr_of de_int) (nomark _))) dar_nil))))) (nomark _)))))
    (dss_cons (ds_set 15 (de_op (op_addA rfl) ro_add (dr_of (de_name 1)) (dr_of (DF1.e (DLc.toDF1 (dlc (own := [("symbol", 18)]) rfl sc_law_term.nd (di1_seq (dr_of (de_name 0))) (blkOk_by (own := [("symbol", 18)]) (N := n_law_term) (sc := defScope s_law_term) (by decide +kernel)) (fun _ _ _ _ _ => (dg_name 18 sc_law_term.nd)) (fun _ _ _ _ _ => (dts_one (dt_cmp (op_eqK hr.units rfl) ro_eq (dr_of (de_ix (hu_ofG hr) (dr_of (de_name 18)) (dr_of de_int))) (dr_of de_int) (nomark _)))) (fun _ _ _ _ _ => (de_tup (da_cons (de_ix (hu_ofG hr) (dr_of (de_name 18)) (dr_of de_int)) da_nil))) (by rfl) s0))))) sc_law_term.nd)
    (dss_one (ds_ret (de_lst (da_cons (de_ix (hu_ofG hr) (dr_of (de_name 15)) (dr_of (de_op op_mod ro_mod (dr_of (de_op op_mod ro_mod (dr_of (de_op op_fdivW ro_fdiv (dr_of (de_name 7)) (dr_of de_int))) (dr_of de_int))) (dr_of (de_callB (call_lenA rfl) rc_len (by rfl) z_len PySem.boot_len (dar_cons (dr_of (de_name 15)) dar_nil)))))) (da_cons (de_op (op_addA rfl) ro_add (dr_of (de_name 3)) (dr_of de_int)) (da_cons de_int da_nil)))))))
    dss_nil)
    (dss_cons (ds_set 10 (de_ix (hu_ofG hr) (dr_of (de_name 9)) (dr_of (de_op op_mod ro_mod (dr_of (de_op op_mod ro_mod (dr_of (de_op op_fdivW ro_fdiv (dr_of (de_name 7)) (dr_of de_int))) (dr_of de_int))) (dr_of (de_callB (call_lenA rfl) rc_len (by rfl) z_len PySem.boot_len (dar_cons (dr_of (de_name 9)) dar_nil)))))) sc_law_term.nd)
    (dss_cons (ds_set 11 (de_op op_sub ro_sub (dr_of (de_name 5)) (dr_of (de_callTy call_int1 rc_int (by rfl) z_int boot_int (dar_cons (dr_of (de_ix (hu_ofG hr) (dr_of (de_name 10)) (dr_of de_int))) dar_nil)))) sc_law_term.nd)
    (dss_cons (ds_if (dt_cmp (op_eqK hr.units rfl) ro_eq (dr_of (de_ix (hu_ofG hr) (dr_of (de_name 10)) (dr_of de_int))) (dr_of de_int) (nomark _))
    (dss_cons (ds_set 16 (de_call F_law_term hr (by rfl) (da_cons (de_name 0) (da_cons (de_name 1) (da_cons (de_name 2) (da_cons (de_op (op_addA rfl) ro_add (dr_of (de_name 3)) (dr_of de_int)) (da_cons (de_op op_sub ro_sub (dr_of (de_name 4)) (dr_of de_int)) (da_cons (de_name 11) (da_cons (de_name 6) da_nil))))))) (by omega)) sc_law_term.nd)
    (dss_one (ds_ret (de_lst (da_cons (de_tup (da_cons (de_ix (hu_ofG hr) (dr_of (de_name 10)) (dr_of de_int)) (da_cons (de_ix (hu_ofG hr) (dr_of (de_name 16)) (dr_of de_int)) da_nil))) (da_cons (de_ix (hu_ofG hr) (dr_of (de_name 16)) (dr_of de_int)) (da_cons (de_ix (hu_ofG hr) (dr_of (de_name 16)) (dr_of de_int)) da_nil)))))))
    dss_nil)
    (dss_cons (ds_if (dt_w (dw_and (dt_val (de_ix (hu_ofG hr) (dr_of (de_name 10)) (dr_of de_int))) (dw_and1 (dt_cmp op_le (ro_cmp fun i j => decide (i ≤ j)) (dr_of (de_op op_fdivW ro_fdiv (dr_of (de_name 7)) (dr_of de_int))) (dr_of (de_name 6)) (nomark _)))))
    (dss_cons (ds_set 13 (de_call F_law_term hr (by rfl) (da_cons (de_name 0) (da_cons (de_name 1) (da_cons (de_name 2) (da_cons (de_op (op_addA rfl) ro_add (dr_of (de_name 3)) (dr_of de_int)) (da_cons (de_op op_fdivW ro_fdiv (dr_of (de_op op_sub ro_sub (dr_of (de_name 4)) (dr_of de_int))) (dr_of de_int)) (da_cons (de_op op_fdivW ro_fdiv (dr_of (de_name 11)) (dr_of de_int)) (da_cons (de_name 6) da_nil))))))) (by omega)) sc_law_term.nd)
    (dss_cons (ds_set 17 (de_call F_law_turned hr (by rfl) (da_cons (DF1.e (DLc.toDF1 (dlc (own := [("symbol", 18)]) rfl sc_law_term.nd (di1_seq (dr_of (de_name 0))) (blkOk_by (own := [("symbol", 18)]) (N := n_law_term) (sc := defScope s_law_term) (by decide +kernel)) (fun _ _ _ _ _ => (dg_name 18 sc_law_term.nd)) (fun _ _ _ _ _ => (dts_one (dt_val (de_ix (hu_ofG hr) (dr_of (de_name 18)) (dr_of de_int))))) (fun _ _ _ _ _ => (de_ix (hu_ofG hr) (dr_of (de_name 18)) (dr_of de_int))) (by rfl) s0))) (da_cons (de_ix (hu_ofG hr) (dr_of (de_name 13)) (dr_of de_int)) (da_cons (de_name 2) (da_cons (de_ix (hu_ofG hr) (dr_of (de_name 13)) (dr_of de_int)) da_nil)))) (by omega)) sc_law_term.nd)
    (dss_cons (ds_if (dt_cmp (op_eqK hr.units rfl) ro_eq (dr_of (de_op op_fdivW ro_fdiv (dr_of (de_name 7)) (dr_of de_int))) (dr_of (de_name 6)) (nomark _))
    (dss_one (ds_set 17 (de_lst (da_cons (de_call F_law_renamed hr (by rfl) (da_cons (de_ix (hu_ofG hr) (dr_of (de_name 17)) (dr_of de_int)) (da_cons (de_name 1) da_nil)) (by omega)) (da_cons (de_ix (hu_ofG hr) (dr_of (de_name 17)) (dr_of de_int)) da_nil))) sc_law_term.nd))
    dss_nil)
    (dss_one (ds_ret (de_lst (da_cons (de_tup (da_cons (de_ix (hu_ofG hr) (dr_of (de_name 10)) (dr_of de_int)) (da_cons (de_ix (hu_ofG hr) (dr_of (de_name 13)) (dr_of de_int)) (da_cons (de_ix (hu_ofG hr) (dr_of (de_name 17)) (dr_of de_int)) da_nil)))) (da_cons (de_ix (hu_ofG hr) (dr_of (de_name 17)) (dr_of de_int)) (da_cons (de_op (op_addA rfl) ro_add (dr_of de_int) (dr_of (de_op op_mulA ro_mul (dr_of de_int) (dr_of (de_ix (hu_ofG hr) (dr_of (de_name 13)) (dr_of de_int)))))) da_nil)))))))))
    dss_nil)
    (dss_cons (ds_set 12 (de_op (op_addA rfl) ro_add (dr_of de_int) (dr_of (de_op op_mod ro_mod (dr_of (de_op op_mod ro_mod (dr_of (de_op op_fdivW ro_fdiv (dr_of (de_name 7)) (dr_of de_int))) (dr_of de_int))) (dr_of (de_op op_sub ro_sub (dr_of (de_name 4)) (dr_of de_int)))))) sc_law_term.nd)
    (dss_cons (ds_set 13 (de_call F_law_term hr (by rfl) (da_cons (de_name 0) (da_cons (de_name 1) (da_cons (de_name 2) (da_cons (de_op (op_addA rfl) ro_add (dr_of (de_name 3)) (dr_of de_int)) (da_cons (de_name 12) (da_cons (de_name 11) (da_cons (de_name 6) da_nil))))))) (by omega)) sc_law_term.nd)
    (dss_cons (ds_set 14 (de_call F_law_term hr (by rfl) (da_cons (de_name 0) (da_cons (de_name 1) (da_cons (de_name 2) (da_cons (de_ix (hu_ofG hr) (dr_of (de_name 13)) (dr_of de_int)) (da_cons (de_op op_sub ro_sub (dr_of (de_op op_sub ro_sub (dr_of (de_name 4)) (dr_of de_int))) (dr_of (de_name 12))) (da_cons (de_op op_sub ro_sub (dr_of (de_name 11)) (dr_of (de_ix (hu_ofG hr) (dr_of (de_name 13)) (dr_of de_int)))) (da_cons (de_name 6) da_nil))))))) (by omega)) sc_law_term.nd)
    (dss_one (ds_ret (de_lst (da_cons (de_tup (da_cons (de_ix (hu_ofG hr) (dr_of (de_name 10)) (dr_of de_int)) (da_cons (de_ix (hu_ofG hr) (dr_of (de_name 13)) (dr_of de_int)) (da_cons (de_ix (hu_ofG hr) (dr_of (de_name 14)) (dr_of de_int)) da_nil)))) (da_cons (de_ix (hu_ofG hr) (dr_of (de_name 14)) (dr_of de_int)) (da_cons (de_op (op_addA rfl) ro_add (dr_of (de_op (op_addA rfl) ro_add (dr_of (de_callTy call_int1 rc_int (by rfl) z_int boot_int (dar_cons (dr_of (de_ix (hu_ofG hr) (dr_of (de_name 10)) (dr_of de_int))) dar_nil))) (dr_of (de_ix (hu_ofG hr) (dr_of (de_name 13)) (dr_of de_int))))) (dr_of (de_ix (hu_ofG hr) (dr_of (de_name 14)) (dr_of de_int)))) da_nil))))))))))))))))))
theorem ok2_law_term (F : Fun K "_law_term" "_law_term" s_law_term fa fd) (F_law_turned : DF P w K mg base "_law_turned" 64 ["two", "writing", "row", "at"] f_law_turned) (F_law_renamed : DF P w K mg base "_law_renamed" 64 ["writing", "names"] f_law_renamed) (z_int : mg "int" = none) (z_len : mg "len" = none) (hm : mg "_law_term" = some (.ref fa)) (hb : Binds K fd ["symbols", "names", "row", "at", "room", "turns", "copies"] []) : ∀ n : Nat, FnG P w K mg base CX0 (64 + n) fa fd ["symbols", "names", "row", "at", "room", "turns", "copies"] (spD K (f_law_term_ n))
  | 0 => fn_zero
  | n + 1 => ok1_law_term (Nat.le_add_right _ _) F F_law_turned F_law_renamed z_int z_len ⟨fa, fd, hm, F.kp, hb, ok2_law_term F F_law_turned F_law_renamed z_int z_len hm hb n⟩
end

/-! ### _law_places -/
abbrev s_law_places : Stmt := topS 40
abbrev n_law_places : List Str := ["writing", "place", "found", "k"]
theorem sc_law_places : FnScope n_law_places ["writing", "place"] (defScope s_law_places) := ⟨rfl, rfl, rfl, by decide +kernel, rfl, by decide +kernel, by decide +kernel⟩
def l1_law_places (self : List D → Option D) : En → Option Out := (setM 2 (bind2 (nameV 2) (callM self (consM (bind2 (nameV 0) (bind2 (nameV 3) (cI 1) addD) ixD) (consM (bind2 (nameV 1) (tupM (consM (nameV 3) nilM)) addD) nilM))) addD))
def m_law_places (self : List D → Option D) : En → Option Out :=
    (seqM (setM 2 (lstM (consM (lstM (consM (nameV 1) (consM (nameV 0) nilM))) nilM)))
    (seqM (ifM (notM (boolM (unM (isiD "str") (nameV 0)))) (forM (rngM1 (consM (bind2 (callM lenD (consM (nameV 0) nilM)) (cI 1) subD) nilM)) (bndN 3) (l1_law_places self)) nextM)
    (retF (nameV 2))))
def f_law_places_ : Nat → List D → Option D
  | 0 => fun _ => none
  | n + 1 => bodyM 2 4 (m_law_places (f_law_places_ n))
def f_law_places : List D → Option D := f_law_places_ 64
section
variable [TbA] {P : Program} {w : World} {K : PySem.W.Frag} {mg : Str → Option Value} {base : Heap} {fa : Addr} {fd : FuncData}
theorem ok1_law_places {self : List D → Option D} {k : Nat} (hk : 0 ≤ k) (F : Fun K "_law_places" "_law_places" s_law_places fa fd) (z_isinstance : mg "isinstance" = none) (z_len : mg "len" = none) (z_range : mg "range" = none) (z_str : mg "str" = none) (F_law_places : DF P w K mg base "_law_places" k ["writing", "place"] self) : FnG P w K mg base CX0 (k + 1) fa fd ["writing", "place"] (spD K (bodyM 2 4 (m_law_places self))) :=
  fn_ok F sc_law_places fun cdv A outer s0 H E hr =>
    (dss_cons (ds_set 2 (de_lst (da_cons (de_lst (da_cons (de_name 1) (da_cons (de_name 0) da_nil))) da_nil)) sc_law_places.nd)
    (dss_cons (ds_if (dt_not (dt_val (de_isi (T := "str") (Tn := "str") (dr_of (de_name 0)) (by rfl) z_isinstance (by rfl) z_str boot_str)))
    (dss_one (ds_for PassesOwn.never rfl (di0_range1 (by rfl) z_range (dar_cons (dr_of (de_op op_sub ro_sub (dr_of (de_callB (call_lenA rfl) rc_len (by rfl) z_len PySem.boot_len (dar_cons (dr_of (de_name 0)) dar_nil))) (dr_of de_int))) dar_nil)) (dg_name 3 sc_law_places.nd) (dss_one (ds_set 2 (de_op (op_addA rfl) ro_add (dr_of (de_name 2)) (dr_of (de_call F_law_places hr (by rfl) (da_cons (de_ix (hu_ofG hr) (dr_of (de_name 0)) (dr_of (de_op (op_addA rfl) ro_add (dr_of (de_name 3)) (dr_of de_int)))) (da_cons (de_op (op_addA rfl) ro_add (dr_of (de_name 1)) (dr_of (de_tup (da_cons (de_name 3) da_nil)))) da_nil)) (by omega)))) sc_law_places.nd))))
    dss_nil)
    (dss_one (ds_ret (de_name 2)))))
theorem ok2_law_places (F : Fun K "_law_places" "_law_places" s_law_places fa fd) (z_isinstance : mg "isinstance" = none) (z_len : mg "len" = none) (z_range : mg "range" = none) (z_str : mg "str" = none) (hm : mg "_law_places" = some (.ref fa)) (hb : Binds K fd ["writing", "place"] []) : ∀ n : Nat, FnG P w K mg base CX0 (0 + n) fa fd ["writing", "place"] (spD K (f_law_places_ n))
  | 0 => fn_zero
  | n + 1 => ok1_law_places (Nat.le_add_right _ _) F z_isinstance z_len z_range z_str ⟨fa, fd, hm, F.kp, hb, ok2_law_places F z_isinstance z_len z_range z_str hm hb n⟩
end

/-! ### _law_form -/
abbrev s_law_form : Stmt := topS 41
abbrev n_law_form : List Str := ["two", "writing", "parts", "item"]
theorem sc_law_form : FnScope n_law_form ["two", "writing"] (defScope s_law_form) := ⟨rfl, rfl, rfl, by decide +kernel, rfl, by decide +kernel, by decide +kernel⟩
def m_law_form (self : List D → Option D) : En → Option Out :=
    (seqM (ifM (boolM (unM (isiD "str") (nameV 1))) (retF (nameV 1)) nextM)
    (seqM (setM 2 (asLst (lcM [3] (itemsA (slM (nameV 1) (partM (cI 1)) noP)) (bndN 3) yesM (callM self (consM (nameV 0) (consM (nameV 3) nilM))))))
    (seqM (ifM (andM (boolM (bind2 (bind2 (nameV 1) (cI 0) ixD) (nameV 0) inD)) (boolM (bind2 (callM reprD (consM (bind2 (nameV 2) (cI 1) ixD) nilM)) (callM reprD (consM (bind2 (nameV 2) (cI 0) ixD) nilM)) ltD))) (setM 2 (lstM (consM (bind2 (nameV 2) (cI 1) ixD) (consM (bind2 (nameV 2) (cI 0) ixD) nilM)))) nextM)
    (retF (callM tupleD (consM (bind2 (lstM (consM (bind2 (nameV 1) (cI 0) ixD) nilM)) (nameV 2) addD) nilM))))))
def f_law_form_ : Nat → List D → Option D
  | 0 => fun _ => none
  | n + 1 => bodyM 2 4 (m_law_form (f_law_form_ n))
def f_law_form : List D → Option D := f_law_form_ 64
section
variable [TbA] {P : Program} {w : World} {K : PySem.W.Frag} {mg : Str → Option Value} {base : Heap} {fa : Addr} {fd : FuncData}
theorem ok1_law_form {self : List D → Option D} {k : Nat} (hk : 0 ≤ k) (F : Fun K "_law_form" "_law_form" s_law_form fa fd) (z_isinstance : mg "isinstance" = none) (z_repr : mg "repr" = none) (z_str : mg "str" = none) (z_tuple : mg "tuple" = none) (F_law_form : DF P w K mg base "_law_form" k ["two", "writing"] self) : FnG P w K mg base CX0 (k + 1) fa fd ["two", "writing"] (spD K (bodyM 2 4 (m_law_form self))) :=
  fn_ok F sc_law_form fun cdv A outer s0 H E hr =>
    (dss_cons (ds_if (dt_val (de_isi (T := "str") (Tn := "str") (dr_of (de_name 1)) (by rfl) z_isinstance (by rfl) z_str boot_str))
    (dss_one (ds_ret (de_name 1)))
    dss_nil)
    (dss_cons (ds_setLc 2 (dlc (own := [("item", 3)]) rfl sc_law_form.nd (di1_seq (dr_of (de_slice (dr_of (de_name 1)) (do_some (dr_of de_int)) do_none))) (blkOk_by (own := [("item", 3)]) (N := n_law_form) (sc := defScope s_law_form) (by decide +kernel)) (fun _ _ _ _ _ => (dg_name 3 sc_law_form.nd)) (fun _ _ _ _ _ => dts_nil) (fun _ _ _ _ _ => (de_call F_law_form hr (by rfl) (da_cons (de_name 0) (da_cons (de_name 3) da_nil)) (by omega))) (by rfl) s0))
    (dss_cons (ds_if (dt_w (dw_and (dt_in (hu_ofG hr) (dr_of (de_ix (hu_ofG hr) (dr_of (de_name 1)) (dr_of de_int))) (dr_of (de_name 0)) rfl) (dw_and1 (dt_cmp op_ltD ro_ltD (dr_of (de_callB (call_reprK hr.units hr.gd rfl) rc_repr (by rfl) z_repr boot_repr (dar_cons (dr_of (de_ix (hu_ofG hr) (dr_of (de_name 2)) (dr_of de_int))) dar_nil))) (dr_of (de_callB (call_reprK hr.units hr.gd rfl) rc_repr (by rfl) z_repr boot_repr (dar_cons (dr_of (de_ix (hu_ofG hr) (dr_of (de_name 2)) (dr_of de_int))) dar_nil))) (nomark _)))))
    (dss_one (ds_set 2 (de_lst (da_cons (de_ix (hu_ofG hr) (dr_of (de_name 2)) (dr_of de_int)) (da_cons (de_ix (hu_ofG hr) (dr_of (de_name 2)) (dr_of de_int)) da_nil))) sc_law_form.nd))
    dss_nil)
    (dss_one (ds_ret (de_callTy (call_tupleK rfl) rc_tuple (by rfl) z_tuple boot_tuple (dar_cons (dr_of (de_op (op_addA rfl) ro_add (dr_of (de_lst (da_cons (de_ix (hu_ofG hr) (dr_of (de_name 1)) (dr_of de_int)) da_nil))) (dr_of (de_name 2)))) dar_nil)))))))
theorem ok2_law_form (F : Fun K "_law_form" "_law_form" s_law_form fa fd) (z_isinstance : mg "isinstance" = none) (z_repr : mg "repr" = none) (z_str : mg "str" = none) (z_tuple : mg "tuple" = none) (hm : mg "_law_form" = some (.ref fa)) (hb : Binds K fd ["two", "writing"] []) : ∀ n : Nat, FnG P w K mg base CX0 (0 + n) fa fd ["two", "writing"] (spD K (f_law_form_ n))
  | 0 => fn_zero
  | n + 1 => ok1_law_form (Nat.le_add_right _ _) F z_isinstance z_repr z_str z_tuple ⟨fa, fd, hm, F.kp, hb, ok2_law_form F z_isinstance z_repr z_str z_tuple hm hb n⟩
end

/-! ### _law_crossed -/
abbrev s_law_crossed : Stmt := topS 42
abbrev n_law_crossed : List Str := ["two", "writing", "entry"]
theorem sc_law_crossed : FnScope n_law_crossed ["two", "writing"] (defScope s_law_crossed) := ⟨rfl, rfl, rfl, by decide +kernel, rfl, by decide +kernel, by decide +kernel⟩
def m_law_crossed : En → Option Out :=
    (retF (asLst (lcM [2] (itemsA (callM f_law_places (consM (nameV 1) (consM (tupM nilM) nilM)))) (bndN 2) (andM (notM (boolM (unM (isiD "str") (bind2 (nameV 2) (cI 1) ixD)))) (boolM (bind2 (bind2 (bind2 (nameV 2) (cI 1) ixD) (cI 0) ixD) (nameV 0) inD))) (nameV 2))))
def f_law_crossed : List D → Option D := bodyM 2 3 m_law_crossed
section
variable [TbA] {P : Program} {w : World} {K : PySem.W.Frag} {mg : Str → Option Value} {base : Heap} {fa : Addr} {fd : FuncData}
theorem ok_law_crossed (F : Fun K "_law_crossed" "_law_crossed" s_law_crossed fa fd) (F_law_places : DF P w K mg base "_law_places" 64 ["writing", "place"] f_law_places) (z_isinstance : mg "isinstance" = none) (z_str : mg "str" = none) : FnG P w K mg base CX0 65 fa fd ["two", "writing"] (spD K f_law_crossed) :=
  fn_ok (k := 64) F sc_law_crossed fun cdv A outer s0 H E hr =>
    (dss_one (ds_ret (DF1.e (DLc.toDF1 (dlc (own := [("entry", 2)]) rfl sc_law_crossed.nd (di1_seq (dr_of (de_call F_law_places hr (by rfl) (da_cons (de_name 1) (da_cons (de_tup da_nil) da_nil)) (by omega)))) (blkOk_by (own := [("entry", 2)]) (N := n_law_crossed) (sc := defScope s_law_crossed) (by decide +kernel)) (fun _ _ _ _ _ => (dg_name 2 sc_law_crossed.nd)) (fun _ _ _ _ _ => (dts_one (dt_w (dw_and (dt_not (dt_val (de_isi (T := "str") (Tn := "str") (dr_of (de_ix (hu_ofG hr) (dr_of (de_name 2)) (dr_of de_int))) (by rfl) z_isinstance (by rfl) z_str boot_str))) (dw_and1 (dt_in (hu_ofG hr) (dr_of (de_ix (hu_ofG hr) (dr_of (de_ix (hu_ofG hr) (dr_of (de_name 2)) (dr_of de_int))) (dr_of de_int))) (dr_of (de_name 0)) rfl)))))) (fun _ _ _ _ _ => (de_name 2)) (by rfl) s0)))))
end

/-! ### _law_even -/
abbrev s_law_even : Stmt := topS 43
abbrev n_law_even : List Str := ["two", "writing", "crossed", "entry"]
theorem sc_law_even : FnScope n_law_even ["two", "writing"] (defScope s_law_even) := ⟨rfl, rfl, rfl, by decide +kernel, rfl, by decide +kernel, by decide +kernel⟩
def m_law_even : En → Option Out :=
    (seqM (setM 2 (callM f_law_crossed (consM (nameV 0) (consM (nameV 1) nilM))))
    (retF (asLst (lcM [3] (itemsA (nameV 2)) (bndN 3) (boolM (bind2 (callM f_law_form (consM (nameV 0) (consM (bind2 (bind2 (nameV 3) (cI 1) ixD) (cI 1) ixD) nilM))) (callM f_law_form (consM (nameV 0) (consM (bind2 (bind2 (nameV 3) (cI 1) ixD) (cI 2) ixD) nilM))) eqD)) (bind2 (nameV 3) (cI 0) ixD)))))
def f_law_even : List D → Option D := bodyM 2 4 m_law_even
section
variable [TbA] {P : Program} {w : World} {K : PySem.W.Frag} {mg : Str → Option Value} {base : Heap} {fa : Addr} {fd : FuncData}
theorem ok_law_even (F : Fun K "_law_even" "_law_even" s_law_even fa fd) (F_law_form : DF P w K mg base "_law_form" 64 ["two", "writing"] f_law_form) (F_law_crossed : DF P w K mg base "_law_crossed" 65 ["two", "writing"] f_law_crossed) : FnG P w K mg base CX0 66 fa fd ["two", "writing"] (spD K f_law_even) :=
  fn_ok (k := 65) F sc_law_even fun cdv A outer s0 H E hr =>
    (dss_cons (ds_set 2 (de_call F_law_crossed hr (by rfl) (da_cons (de_name 0) (da_cons (de_name 1) da_nil)) (by omega)) sc_law_even.nd)
    (dss_one (ds_ret (DF1.e (DLc.toDF1 (dlc (own := [("entry", 3)]) rfl sc_law_even.nd (di1_seq (dr_of (de_name 2))) (blkOk_by (own := [("entry", 3)]) (N := n_law_even) (sc := defScope s_law_even) (by decide +kernel)) (fun _ _ _ _ _ => (dg_name 3 sc_law_even.nd)) (fun _ _ _ _ _ => (dts_one (dt_cmp (op_eqK hr.units rfl) ro_eq (dr_of (de_call F_law_form hr (by rfl) (da_cons (de_name 0) (da_cons (de_ix (hu_ofG hr) (dr_of (de_ix (hu_ofG hr) (dr_of (de_name 3)) (dr_of de_int))) (dr_of de_int)) da_nil)) (by omega))) (dr_of (de_call F_law_form hr (by rfl) (da_cons (de_name 0) (da_cons (de_ix (hu_ofG hr) (dr_of (de_ix (hu_ofG hr) (dr_of (de_name 3)) (dr_of de_int))) (dr_of de_int)) da_nil)) (by omega))) (nomark _)))) (fun _ _ _ _ _ => (de_ix (hu_ofG hr) (dr_of (de_name 3)) (dr_of de_int))) (by rfl) s0))))))
end

/-! ### _law_exchanged -/
abbrev s_law_exchanged : Stmt := topS 44
abbrev n_law_exchanged : List Str := ["writing", "at", "places", "parts", "k"]
theorem sc_law_exchanged : FnScope n_law_exchanged ["writing", "at", "places"] (defScope s_law_exchanged) := ⟨rfl, rfl, rfl, by decide +kernel, rfl, by decide +kernel, by decide +kernel⟩
def m_law_exchanged (self : List D → Option D) : En → Option Out :=
    (seqM (ifM (boolM (unM (isiD "str") (nameV 0))) (retF (nameV 0)) nextM)
    (seqM (setM 3 (asLst (lcM [4] (rngM1 (consM (bind2 (callM lenD (consM (nameV 0) nilM)) (cI 1) subD) nilM)) (bndN 4) yesM (callM self (consM (bind2 (nameV 0) (bind2 (nameV 4) (cI 1) addD) ixD) (consM (bind2 (nameV 1) (tupM (consM (nameV 4) nilM)) addD) (consM (nameV 2) nilM)))))))
    (seqM (ifM (boolM (bind2 (nameV 1) (nameV 2) inLD)) (setM 3 (lstM (consM (bind2 (nameV 3) (cI 1) ixD) (consM (bind2 (nameV 3) (cI 0) ixD) nilM)))) nextM)
    (retF (callM tupleD (consM (bind2 (lstM (consM (bind2 (nameV 0) (cI 0) ixD) nilM)) (nameV 3) addD) nilM))))))
def f_law_exchanged_ : Nat → List D → Option D
  | 0 => fun _ => none
  | n + 1 => bodyM 3 5 (m_law_exchanged (f_law_exchanged_ n))
def f_law_exchanged : List D → Option D := f_law_exchanged_ 64
section
variable [TbA] {P : Program} {w : World} {K : PySem.W.Frag} {mg : Str → Option Value} {base : Heap} {fa : Addr} {fd : FuncData}
theorem ok1_law_exchanged {self : List D → Option D} {k : Nat} (hk : 0 ≤ k) (F : Fun K "_law_exchanged" "_law_exchanged" s_law_exchanged fa fd) (z_isinstance : mg "isinstance" = none) (z_len : mg "len" = none) (z_range : mg "range" = none) (z_str : mg "str" = none) (z_tuple : mg "tuple" = none) (F_law_exchanged : DF P w K mg base "_law_exchanged" k ["writing", "at", "places"] self) : FnG P w K mg base CX0 (k + 1) fa fd ["writing", "at", "places"] (spD K (bodyM 3 5 (m_law_exchanged self))) :=
  fn_ok F sc_law_exchanged fun cdv A outer s0 H E hr =>
    (dss_cons (ds_if (dt_val (de_isi (T := "str") (Tn := "str") (dr_of (de_name 0)) (by rfl) z_isinstance (by rfl) z_str boot_str))
    (dss_one (ds_ret (de_name 0)))
    dss_nil)
    (dss_cons (ds_setLc 3 (dlc (own := [("k", 4)]) rfl sc_law_exchanged.nd (DI0.to1 (di0_range1 (by rfl) z_range (dar_cons (dr_of (de_op op_sub ro_sub (dr_of (de_callB (call_lenA rfl) rc_len (by rfl) z_len PySem.boot_len (dar_cons (dr_of (de_name 0)) dar_nil))) (dr_of de_int))) dar_nil))) (blkOk_by (own := [("k", 4)]) (N := n_law_exchanged) (sc := defScope s_law_exchanged) (by decide +kernel)) (fun _ _ _ _ _ => (dg_name 4 sc_law_exchanged.nd)) (fun _ _ _ _ _ => dts_nil) (fun _ _ _ _ _ => (de_call F_law_exchanged hr (by rfl) (da_cons (de_ix (hu_ofG hr) (dr_of (de_name 0)) (dr_of (de_op (op_addA rfl) ro_add (dr_of (de_name 4)) (dr_of de_int)))) (da_cons (de_op (op_addA rfl) ro_add (dr_of (de_name 1)) (dr_of (de_tup (da_cons (de_name 4) da_nil)))) (da_cons (de_name 2) da_nil))) (by omega))) (by rfl) s0))
    (dss_cons (ds_if (dt_cmp (op_inLK (units65 hr) rfl) ro_inL (dr_of (de_name 1)) (dr_of (de_name 2)) rfl)
    (dss_one (ds_set 3 (de_lst (da_cons (de_ix (hu_ofG hr) (dr_of (de_name 3)) (dr_of de_int)) (da_cons (de_ix (hu_ofG hr) (dr_of (de_name 3)) (dr_of de_int)) da_nil))) sc_law_exchanged.nd))
    dss_nil)
    (dss_one (ds_ret (de_callTy (call_tupleK rfl) rc_tuple (by rfl) z_tuple boot_tuple (dar_cons (dr_of (de_op (op_addA rfl) ro_add (dr_of (de_lst (da_cons (de_ix (hu_ofG hr) (dr_of (de_name 0)) (dr_of de_int)) da_nil))) (dr_of (de_name 3)))) dar_nil)))))))
theorem ok2_law_exchanged (F : Fun K "_law_exchanged" "_law_exchanged" s_law_exchanged fa fd) (z_isinstance : mg "isinstance" = none) (z_len : mg "len" = none) (z_range : mg "range" = none) (z_str : mg "str" = none) (z_tuple : mg "tuple" = none) (hm : mg "_law_exchanged" = some (.ref fa)) (hb : Binds K fd ["writing", "at", "places"] []) : ∀ n : Nat, FnG P w K mg base CX0 (0 + n) fa fd ["writing", "at", "places"] (spD K (f_law_exchanged_ n))
  | 0 => fn_zero
  | n + 1 => ok1_law_exchanged (Nat.le_add_right _ _) F z_isinstance z_len z_range z_str z_tuple ⟨fa, fd, hm, F.kp, hb, ok2_law_exchanged F z_isinstance z_len z_range z_str z_tuple hm hb n⟩
end

/-! ### _law_same_place -/
abbrev s_law_same_place : Stmt := topS 45
abbrev n_law_same_place : List Str := ["found", "place", "item"]
theorem sc_law_same_place : FnScope n_law_same_place ["found", "place"] (defScope s_law_same_place) := ⟨rfl, rfl, rfl, by decide +kernel, rfl, by decide +kernel, by decide +kernel⟩
def m_law_same_place : En → Option Out :=
    (seqM (ifM (orM (notM (boolM (unM (isiD "tuple") (nameV 0)))) (boolM (bind2 (nameV 0) (nameV 1) neD))) (retF (cB false)) nextM)
    (retF (bind2 (callM lenD (consM (asLst (lcM [2] (itemsA (nameV 0)) (bndN 2) (notM (boolM (callM f_law_whole (consM (nameV 2) nilM)))) (nameV 2))) nilM)) (cI 0) eqD)))
def f_law_same_place : List D → Option D := bodyM 2 3 m_law_same_place
section
variable [TbA] {P : Program} {w : World} {K : PySem.W.Frag} {mg : Str → Option Value} {base : Heap} {fa : Addr} {fd : FuncData}
theorem ok_law_same_place (F : Fun K "_law_same_place" "_law_same_place" s_law_same_place fa fd) (F_law_whole : DF P w K mg base "_law_whole" 1 ["value"] f_law_whole) (z_isinstance : mg "isinstance" = none) (z_len : mg "len" = none) (z_tuple : mg "tuple" = none) : FnG P w K mg base CX0 2 fa fd ["found", "place"] (spD K f_law_same_place) :=
  fn_ok (k := 1) F sc_law_same_place fun cdv A outer s0 H E hr =>
    (dss_cons (ds_if (dt_w (dw_or (dt_not (dt_val (de_isi (T := "tuple") (Tn := "tuple") (dr_of (de_name 0)) (by rfl) z_isinstance (by rfl) z_tuple boot_tuple))) (dw_or1 (dt_cmp (op_neK hr.units rfl) ro_ne (dr_of (de_name 0)) (dr_of (de_name 1)) (nomark _)))))
    (dss_one (ds_ret de_bl))
    dss_nil)
    (dss_one (ds_ret (de_cmp (op_eqK hr.units rfl) ro_eq (dr_of (de_callB (call_lenA rfl) rc_len (by rfl) z_len PySem.boot_len (dar_cons (dr_of (DF1.e (DLc.toDF1 (dlc (own := [("item", 2)]) rfl sc_law_same_place.nd (di1_seq (dr_of (de_name 0))) (blkOk_by (own := [("item", 2)]) (N := n_law_same_place) (sc := defScope s_law_same_place) (by decide +kernel)) (fun _ _ _ _ _ => (dg_name 2 sc_law_same_place.nd)) (fun _ _ _ _ _ => (dts_one (dt_not (dt_val (de_call F_law_whole hr (by rfl) (da_cons (de_name 2) da_nil) (by omega)))))) (fun _ _ _ _ _ => (de_name 2)) (by rfl) s0)))) dar_nil))) (dr_of de_int) (nomark _)))))
end

/-! ### _law_same_places -/
abbrev s_law_same_places : Stmt := topS 46
abbrev n_law_same_places : List Str := ["found", "places", "k"]
theorem sc_law_same_places : FnScope n_law_same_places ["found", "places"] (defScope s_law_same_places) := ⟨rfl, rfl, rfl, by decide +kernel, rfl, by decide +kernel, by decide +kernel⟩
def m_law_same_places : En → Option Out :=
    (seqM (ifM (orM (notM (boolM (unM (isiD "tuple") (nameV 0)))) (boolM (bind2 (callM lenD (consM (nameV 0) nilM)) (callM lenD (consM (nameV 1) nilM)) neD))) (retF (cB false)) nextM)
    (retF (bind2 (callM lenD (consM (asLst (lcM [2] (rngM1 (consM (callM lenD (consM (nameV 1) nilM)) nilM)) (bndN 2) (notM (boolM (callM f_law_same_place (consM (bind2 (nameV 0) (nameV 2) ixD) (consM (bind2 (nameV 1) (nameV 2) ixD) nilM))))) (nameV 2))) nilM)) (cI 0) eqD)))
def f_law_same_places : List D → Option D := bodyM 2 3 m_law_same_places
section
variable [TbA] {P : Program} {w : World} {K : PySem.W.Frag} {mg : Str → Option Value} {base : Heap} {fa : Addr} {fd : FuncData}
theorem ok_law_same_places (F : Fun K "_law_same_places" "_law_same_places" s_law_same_places fa fd) (F_law_same_place : DF P w K mg base "_law_same_place" 2 ["found", "place"] f_law_same_place) (z_isinstance : mg "isinstance" = none) (z_len : mg "len" = none) (z_range : mg "range" = none) (z_tuple : mg "tuple" = none) : FnG P w K mg base CX0 3 fa fd ["found", "places"] (spD K f_law_same_places) :=
  fn_ok (k := 2) F sc_law_same_places fun cdv A outer s0 H E hr =>
    (dss_cons (ds_if (dt_w (dw_or (dt_not (dt_val (de_isi (T := "tuple") (Tn := "tuple") (dr_of (de_name 0)) (by rfl) z_isinstance (by rfl) z_tuple boot_tuple))) (dw_or1 (dt_cmp (op_neK hr.units rfl) ro_ne (dr_of (de_callB (call_lenA rfl) rc_len (by rfl) z_len PySem.boot_len (dar_cons (dr_of (de_name 0)) dar_nil))) (dr_of (de_callB (call_lenA rfl) rc_len (by rfl) z_len PySem.boot_len (dar_cons (dr_of (de_name 1)) dar_nil))) (nomark _)))))
    (dss_one (ds_ret de_bl))
    dss_nil)
    (dss_one (ds_ret (de_cmp (op_eqK hr.units rfl) ro_eq (dr_of (de_callB (call_lenA rfl) rc_len (by rfl) z_len PySem.boot_len (dar_cons (dr_of (DF1.e (DLc.toDF1 (dlc (own := [("k", 2)]) rfl sc_law_same_places.nd (DI0.to1 (di0_range1 (by rfl) z_range (dar_cons (dr_of (de_callB (call_lenA rfl) rc_len (by rfl) z_len PySem.boot_len (dar_cons (dr_of (de_name 1)) dar_nil))) dar_nil))) (blkOk_by (own := [("k", 2)]) (N := n_law_same_places) (sc := defScope s_law_same_places) (by decide +kernel)) (fun _ _ _ _ _ => (dg_name 2 sc_law_same_places.nd)) (fun _ _ _ _ _ => (dts_one (dt_not (dt_val (de_call F_law_same_place hr (by rfl) (da_cons (de_ix (hu_ofG hr) (dr_of (de_name 0)) (dr_of (de_name 2))) (da_cons (de_ix (hu_ofG hr) (dr_of (de_name 1)) (dr_of (de_name 2))) da_nil)) (by omega)))))) (fun _ _ _ _ _ => (de_name 2)) (by rfl) s0)))) dar_nil))) (dr_of de_int) (nomark _)))))
end

/-! ### _law_own -/
abbrev s_law_own : Stmt := topS 47
abbrev n_law_own : List Str := ["writing", "known", "found", "sets", "place", "row", "entry"]
theorem sc_law_own : FnScope n_law_own ["writing", "known"] (defScope s_law_own) := ⟨rfl, rfl, rfl, by decide +kernel, rfl, by decide +kernel, by decide +kernel⟩
def l1_law_own : En → Option Out := (setM 3 (bind2 (nameV 3) (asLst (lcM [5] (itemsA (nameV 3)) (bndN 5) yesM (bind2 (nameV 5) (lstM (consM (nameV 4) nilM)) addD))) addD))
def l2_law_own : En → Option Out := (ifM (boolM (bind2 (callM f_law_exchanged (consM (nameV 0) (consM (tupM nilM) (consM (nameV 5) nilM)))) (nameV 0) eqD)) (appM 2 (lstM (consM (callM lenD (consM (nameV 5) nilM)) (consM (nameV 5) nilM)))) nextM)
def m_law_own : En → Option Out :=
    (seqM (setOwnM 2 (lstF nilM))
    (seqM (setM 3 (lstM (consM (lstM nilM) nilM)))
    (seqM (forM (itemsA (nameV 1)) (bndN 4) l1_law_own)
    (seqM (forM (itemsA (nameV 3)) (bndN 5) l2_law_own)
    (retF (asLst (lcM [6] (itemsA (asLst (sortF (consM (nameR 2) nilM)))) (bndN 6) yesM (bind2 (nameV 6) (cI 1) ixD))))))))
def f_law_own : List D → Option D := bodyM 2 7 m_law_own
section
variable [TbA] {P : Program} {w : World} {K : PySem.W.Frag} {mg : Str → Option Value} {base : Heap} {fa : Addr} {fd : FuncData}
theorem ok_law_own (F : Fun K "_law_own" "_law_own" s_law_own fa fd) (F_law_exchanged : DF P w K mg base "_law_exchanged" 64 ["writing", "at", "places"] f_law_exchanged) (z_len : mg "len" = none) (z_sorted : mg "sorted" = none) : FnG P w K mg base CX0 65 fa fd ["writing", "known"] (spD K f_law_own) :=
  fn_ok (k := 64) F sc_law_own fun cdv A outer s0 H E hr =>
    (dss_cons (ds_setOwn 2 (df_lst da_nil) sc_law_own.nd)
    (dss_cons (ds_set 3 (de_lst (da_cons (de_lst da_nil) da_nil)) sc_law_own.nd)
    (dss_cons (ds_for PassesOwn.never rfl (di0_seq (de_name 1)) (dg_name 4 sc_law_own.nd) (dss_one (ds_set 3 (de_op (op_addA rfl) ro_add (dr_of (de_name 3)) (dr_of (DF1.e (DLc.toDF1 (dlc (own := [("row", 5)]) rfl sc_law_own.nd (di1_seq (dr_of (de_name 3))) (blkOk_by (own := [("row", 5)]) (N := n_law_own) (sc := defScope s_law_own) (by decide +kernel)) (fun _ _ _ _ _ => (dg_name 5 sc_law_own.nd)) (fun _ _ _ _ _ => dts_nil) (fun _ _ _ _ _ => (de_op (op_addA rfl) ro_add (dr_of (de_name 5)) (dr_of (de_lst (da_cons (de_name 4) da_nil))))) (by rfl) s0))))) sc_law_own.nd)))
    (dss_cons (ds_for PassesOwn.never rfl (di0_seq (de_name 3)) (dg_name 5 sc_law_own.nd) (dss_one (ds_if (dt_cmp (op_eqK hr.units rfl) ro_eq (dr_of (de_call F_law_exchanged hr (by rfl) (da_cons (de_name 0) (da_cons (de_tup da_nil) (da_cons (de_name 5) da_nil))) (by omega))) (dr_of (de_name 0)) (nomark _))
    (dss_one (ds_append 2 (de_lst (da_cons (de_callB (call_lenA rfl) rc_len (by rfl) z_len PySem.boot_len (dar_cons (dr_of (de_name 5)) dar_nil)) (da_cons (de_name 5) da_nil)))))
    dss_nil)))
    (dss_one (ds_ret (DF1.e (DLc.toDF1 (dlc (own := [("entry", 6)]) rfl sc_law_own.nd (di1_seq (dr_of (DF1.e (df_sorted hr.units (by rfl) z_sorted (dar_cons (dr_name 2) dar_nil))))) (blkOk_by (own := [("entry", 6)]) (N := n_law_own) (sc := defScope s_law_own) (by decide +kernel)) (fun _ _ _ _ _ => (dg_name 6 sc_law_own.nd)) (fun _ _ _ _ _ => dts_nil) (fun _ _ _ _ _ => (de_ix (hu_ofG hr) (dr_of (de_name 6)) (dr_of de_int))) (by rfl) s0)))))))))
end

/-! ### _law_tells_own -/
abbrev s_law_tells_own : Stmt := topS 48
abbrev n_law_tells_own : List Str := ["alphabet", "two", "writing", "known", "due", "told", "many", "k", "total", "count", "entry"]
theorem sc_law_tells_own : FnScope n_law_tells_own ["alphabet", "two", "writing"] (defScope s_law_tells_own) := ⟨rfl, rfl, rfl, by decide +kernel, rfl, by decide +kernel, by decide +kernel⟩
def l1_law_tells_own (cSignature : Addr) : En → Option Out := (ifM (notM (boolM (callM f_law_same_places (consM (bind2 (nameV 5) (nameV 7) ixD) (consM (bind2 (nameV 4) (nameV 7) ixD) nilM))))) (retF (cB false)) nextM)
def l2_law_tells_own (cSignature : Addr) : En → Option Out := (seqM (ifM (orM (notM (boolM (unM (isiD "tuple") (nameV 5)))) (boolM (bind2 (callM lenD (consM (nameV 5) nilM)) (callM lenD (consM (nameV 4) nilM)) neD))) (retF (cB false)) nextM)
    (forM (rngM1 (consM (callM lenD (consM (nameV 4) nilM)) nilM)) (bndN 7) (l1_law_tells_own cSignature)))
def l3_law_tells_own (cSignature : Addr) : En → Option Out := (setM 6 (bind2 (nameV 6) (cI 2) mulD))
def l4_law_tells_own (cSignature : Addr) : En → Option Out := (setM 8 (bind2 (nameV 8) (cI 2) mulD))
def m_law_tells_own (cSignature : Addr) : En → Option Out :=
    (seqM (setM 3 (asLst (lcM [10] (itemsA (callM f_law_crossed (consM (nameV 1) (consM (nameV 2) nilM)))) (bndN 10) yesM (bind2 (nameV 10) (cI 0) ixD))))
    (seqM (setM 4 (callM f_law_own (consM (nameV 2) (consM (nameV 3) nilM))))
    (seqM (forM (itemsA (lstM (consM (callM (f_own_turnings cSignature) (consM (nameV 0) (consM (nameV 2) nilM))) (consM (callM (f_own_turnings cSignature) (consM (nameV 0) (consM (nameV 2) nilM))) nilM)))) (bndN 5) (l2_law_tells_own cSignature))
    (seqM (setM 6 (cI 1))
    (seqM (forM (rngM1 (consM (callM lenD (consM (callM f_law_even (consM (nameV 1) (consM (nameV 2) nilM))) nilM)) nilM)) (bndN 7) (l3_law_tells_own cSignature))
    (seqM (setM 8 (cI 1))
    (seqM (forM (rngM1 (consM (callM lenD (consM (nameV 3) nilM)) nilM)) (bndN 7) (l4_law_tells_own cSignature))
    (seqM (setM 9 (callM (f_count_turnings cSignature) (consM (nameV 0) (consM (nameV 2) nilM))))
    (retF (andV (bind2 (callM lenD (consM (nameV 4) nilM)) (nameV 6) eqD) (andV (callM f_law_whole (consM (nameV 9) nilM)) (bind2 (bind2 (nameV 9) (callM lenD (consM (nameV 4) nilM)) mulD) (nameV 8) eqD))))))))))))
def f_law_tells_own (cSignature : Addr) : List D → Option D := bodyM 3 11 (m_law_tells_own cSignature)
section
variable [TbA] {P : Program} {w : World} {K : PySem.W.Frag} {mg : Str → Option Value} {base : Heap} {fa : Addr} {fd : FuncData}
theorem ok_law_tells_own {cSignature : Addr} (F : Fun K "_law_tells_own" "_law_tells_own" s_law_tells_own fa fd) (F_count_turnings : DF P w K mg base "count_turnings" 72 ["signature", "term"] (f_count_turnings cSignature)) (K_own_turnings : DFK P w K mg base "own_turnings" 131 ["signature", "term"] (f_own_turnings cSignature)) (F_law_whole : DF P w K mg base "_law_whole" 1 ["value"] f_law_whole) (F_law_crossed : DF P w K mg base "_law_crossed" 65 ["two", "writing"] f_law_crossed) (F_law_even : DF P w K mg base "_law_even" 66 ["two", "writing"] f_law_even) (F_law_same_places : DF P w K mg base "_law_same_places" 3 ["found", "places"] f_law_same_places) (F_law_own : DF P w K mg base "_law_own" 65 ["writing", "known"] f_law_own) (z_isinstance : mg "isinstance" = none) (z_len : mg "len" = none) (z_range : mg "range" = none) (z_tuple : mg "tuple" = none) : FnG P w K mg base CX0 132 fa fd ["alphabet", "two", "writing"] (spD K (f_law_tells_own cSignature)) :=
  fn_ok (k := 131) F sc_law_tells_own fun cdv A outer s0 H E hr =>
    (dss_cons (ds_setLc 3 (dlc (own := [("entry", 10)]) rfl sc_law_tells_own.nd (di1_seq (dr_of (de_call F_law_crossed hr (by rfl) (da_cons (de_name 1) (da_cons (de_name 2) da_nil)) (by omega)))) (blkOk_by (own := [("entry", 10)]) (N := n_law_tells_own) (sc := defScope s_law_tells_own) (by decide +kernel)) (fun _ _ _ _ _ => (dg_name 10 sc_law_tells_own.nd)) (fun _ _ _ _ _ => dts_nil) (fun _ _ _ _ _ => (de_ix (hu_ofG hr) (dr_of (de_name 10)) (dr_of de_int))) (by rfl) s0))
    (dss_cons (ds_set 4 (de_call F_law_own hr (by rfl) (da_cons (de_name 2) (da_cons (de_name 3) da_nil)) (by omega)) sc_law_tells_own.nd)
    (dss_cons (ds_for PassesOwn.never rfl (di0_seq (de_lst (da_cons (de_call K_own_turnings.df hr (by rfl) (da_cons (de_name 0) (da_cons (de_name 2) da_nil)) (by omega)) (da_cons (de_callK K_own_turnings hr (by rfl) (dk_cons (de_name 0) (dk_cons (de_name 2) dk_nil)) (by omega)) da_nil)))) (dg_name 5 sc_law_tells_own.nd) (dss_cons (ds_if (dt_w (dw_or (dt_not (dt_val (de_isi (T := "tuple") (Tn := "tuple") (dr_of (de_name 5)) (by rfl) z_isinstance (by rfl) z_tuple boot_tuple))) (dw_or1 (dt_cmp (op_neK hr.units rfl) ro_ne (dr_of (de_callB (call_lenA rfl) rc_len (by rfl) z_len PySem.boot_len (dar_cons (dr_of (de_name 5)) dar_nil))) (dr_of (de_callB (call_lenA rfl) rc_len (by rfl) z_len PySem.boot_len (dar_cons (dr_of (de_name 4)) dar_nil))) (nomark _)))))
    (dss_one (ds_ret de_bl))
    dss_nil)
    (dss_one (ds_for PassesOwn.never rfl (di0_range1 (by rfl) z_range (dar_cons (dr_of (de_callB (call_lenA rfl) rc_len (by rfl) z_len PySem.boot_len (dar_cons (dr_of (de_name 4)) dar_nil))) dar_nil)) (dg_name 7 sc_law_tells_own.nd) (dss_one (ds_if (dt_not (dt_val (de_call F_law_same_places hr (by rfl) (da_cons (de_ix (hu_ofG hr) (dr_of (de_name 5)) (dr_of (de_name 7))) (da_cons (de_ix (hu_ofG hr) (dr_of (de_name 4)) (dr_of (de_name 7))) da_nil)) (by omega))))
    (dss_one (ds_ret de_bl))
    dss_nil))))))
    (dss_cons (ds_set 6 de_int sc_law_tells_own.nd)
    (dss_cons (ds_for PassesOwn.never rfl (di0_range1 (by rfl) z_range (dar_cons (dr_of (de_callB (call_lenA rfl) rc_len (by rfl) z_len PySem.boot_len (dar_cons (dr_of (de_call F_law_even hr (by rfl) (da_cons (de_name 1) (da_cons (de_name 2) da_nil)) (by omega))) dar_nil))) dar_nil)) (dg_name 7 sc_law_tells_own.nd) (dss_one (ds_set 6 (de_op op_mulA ro_mul (dr_of (de_name 6)) (dr_of de_int)) sc_law_tells_own.nd)))
    (dss_cons (ds_set 8 de_int sc_law_tells_own.nd)
    (dss_cons (ds_for PassesOwn.never rfl (di0_range1 (by rfl) z_range (dar_cons (dr_of (de_callB (call_lenA rfl) rc_len (by rfl) z_len PySem.boot_len (dar_cons (dr_of (de_name 3)) dar_nil))) dar_nil)) (dg_name 7 sc_law_tells_own.nd) (dss_one (ds_set 8 (de_op op_mulA ro_mul (dr_of (de_name 8)) (dr_of de_int)) sc_law_tells_own.nd)))
    (dss_cons (ds_set 9 (de_call F_count_turnings hr (by rfl) (da_cons (de_name 0) (da_cons (de_name 2) da_nil)) (by omega)) sc_law_tells_own.nd)
    (dss_one (ds_ret (de_and (de_cmp (op_eqK hr.units rfl) ro_eq (dr_of (de_callB (call_lenA rfl) rc_len (by rfl) z_len PySem.boot_len (dar_cons (dr_of (de_name 4)) dar_nil))) (dr_of (de_name 6)) (nomark _)) (de_and (de_call F_law_whole hr (by rfl) (da_cons (de_name 9) da_nil) (by omega)) (de_one (de_cmp (op_eqK hr.units rfl) ro_eq (dr_of (de_op op_mulA ro_mul (dr_of (de_name 9)) (dr_of (de_callB (call_lenA rfl) rc_len (by rfl) z_len PySem.boot_len (dar_cons (dr_of (de_name 4)) dar_nil))))) (dr_of (de_name 8)) (nomark _)))))))))))))))
end

/-! ### law -/
abbrev s_law : Stmt := topS 49
abbrev n_law : List Str := ["script", "symbols", "names", "two", "shape", "room", "turns", "digits", "writing", "other", "alphabet", "asked", "symbol"]
theorem sc_law : FnScope n_law ["script"] (defScope s_law) := ⟨rfl, rfl, rfl, by decide +kernel, rfl, by decide +kernel, by decide +kernel⟩
noncomputable def l1_law (cSignature : Addr) : En → Option Out := (ifM (notM (boolM (callM (f_law_tells_own cSignature) (consM (nameV 10) (consM (nameV 3) (consM (nameV 11) nilM)))))) (retF (cB false)) nextM)
noncomputable def m_law (cSignature : Addr) : En → Option Out :=
    (seqM (setM 1 (callM f_law_symbols (consM (nameV 0) (consM (cI 0) nilM))))
    (seqM (setM 2 (callM f_law_variables (consM (callM f_law_cell (consM (nameV 0) (consM (cI 2) nilM))) nilM)))
    (seqM (setM 3 (asLst (lcM [12] (itemsA (nameV 1)) (bndN 12) (boolM (bind2 (nameV 12) (cI 2) ixD)) (bind2 (nameV 12) (cI 0) ixD))))
    (seqM (setM 4 (callM f_law_digits (consM (callM f_law_cell (consM (nameV 0) (consM (cI 3) nilM))) (consM (lstM (consM (cI 8) (consM (cI 8) (consM (cI 4) nilM)))) nilM))))
    (seqM (setM 5 (bind2 (lstM (consM (cI 11) (consM (cI 15) (consM (cI 21) (consM (cI 30) (consM (cI 13) (consM (cI 17) (consM (cI 9) (consM (cI 25) nilM))))))))) (bind2 (nameV 4) (cI 0) ixD) ixD))
    (seqM (setM 6 (bind2 (lstM (consM (cI 5) (consM (cI 7) (consM (cI 4) (consM (cI 6) (consM (cI 3) (consM (cI 5) (consM (cI 7) (consM (cI 8) nilM))))))))) (bind2 (nameV 4) (cI 1) ixD) ixD))
    (seqM (setM 7 (callM f_law_digits (consM (callM f_law_cell (consM (nameV 0) (consM (cI 4) nilM))) (consM (bind2 (lstM (consM (cI 288000) nilM)) (cI 60) mulD) nilM))))
    (seqM (setM 8 (bind2 (callM f_law_term (consM (nameV 1) (consM (nameV 2) (consM (nameV 7) (consM (cI 0) (consM (nameV 5) (consM (nameV 6) (consM (bind2 (lstM (consM (cI 3) (consM (cI 1) (consM (cI 4) (consM (cI 1) nilM))))) (bind2 (nameV 4) (cI 2) ixD) ixD) nilM)))))))) (cI 0) ixD))
    (seqM (setM 9 (bind2 (callM f_law_turned (consM (nameV 3) (consM (nameV 8) (consM (callM f_law_digits (consM (callM f_law_cell (consM (nameV 0) (consM (cI 5) nilM))) (consM (bind2 (lstM (consM (cI 2) nilM)) (cI 8) mulD) nilM))) (consM (cI 0) nilM))))) (cI 0) ixD))
    (seqM (setM 10 (makeM cSignature (f_Signature_init cSignature) (consM (nameV 1) nilM)))
    (seqM (forM (itemsA (lstM (consM (nameV 8) (consM (nameV 9) (consM (nameV 8) nilM))))) (bndN 11) (l1_law cSignature))
    (retF (bind2 (fldM [cSignature] "symbols" (nameV 10)) (callM tupleD (consM (nameV 1) nilM)) eqD)))))))))))))
noncomputable def f_law (cSignature : Addr) : List D → Option D := bodyM 1 13 (m_law cSignature)
section
variable [TbA] {P : Program} {w : World} {K : PySem.W.Frag} {mg : Str → Option Value} {base : Heap} {fa : Addr} {fd : FuncData}
theorem ok_law {cSignature : Addr} (F : Fun K "law" "law" s_law fa fd) (I_Signature : DMk P w K mg base cSignature "Signature" 4 ["self", "symbols"] (f_Signature_init cSignature)) (F_law_cell : DF P w K mg base "_law_cell" 1 ["script", "k"] f_law_cell) (F_law_digits : DF P w K mg base "_law_digits" 1 ["cell", "sizes"] f_law_digits) (F_law_symbols : DF P w K mg base "_law_symbols" 3 ["script", "at"] f_law_symbols) (F_law_variables : DF P w K mg base "_law_variables" 2 ["cell"] f_law_variables) (F_law_turned : DF P w K mg base "_law_turned" 64 ["two", "writing", "row", "at"] f_law_turned) (F_law_term : DF P w K mg base "_law_term" 128 ["symbols", "names", "row", "at", "room", "turns", "copies"] f_law_term) (F_law_tells_own : DF P w K mg base "_law_tells_own" 132 ["alphabet", "two", "writing"] (f_law_tells_own cSignature)) (A_Signature_symbols : FldC K [cSignature] "symbols") (z_tuple : mg "tuple" = none) : FnG P w K mg base CX0 133 fa fd ["script"] (spD K (f_law cSignature)) :=
  fn_ok (k := 132) F sc_law fun cdv A outer s0 H E hr =>
    (dss_cons (ds_set 1 (de_call F_law_symbols hr (by rfl) (da_cons (de_name 0) (da_cons de_int da_nil)) (by omega)) sc_law.nd)
    (dss_cons (ds_set 2 (de_call F_law_variables hr (by rfl) (da_cons (de_call F_law_cell hr (by rfl) (da_cons (de_name 0) (da_cons de_int da_nil)) (by omega)) da_nil) (by omega)) sc_law.nd)
    (dss_cons (ds_setLc 3 (dlc (own := [("symbol", 12)]) rfl sc_law.nd (di1_seq (dr_of (de_name 1))) (blkOk_by (own := [("symbol", 12)]) (N := n_law) (sc := defScope s_law) (by decide +kernel)) (fun _ _ _ _ _ => (dg_name 12 sc_law.nd)) (fun _ _ _ _ _ => (dts_one (dt_val (de_ix (hu_ofG hr) (dr_of (de_name 12)) (dr_of de_int))))) (fun _ _ _ _ _ => (de_ix (hu_ofG hr) (dr_of (de_name 12)) (dr_of de_int))) (by rfl) s0))
    (dss_cons (ds_set 4 (de_call F_law_digits hr (by rfl) (da_cons (de_call F_law_cell hr (by rfl) (da_cons (de_name 0) (da_cons de_int da_nil)) (by omega)) (da_cons (de_lst (da_cons de_int (da_cons de_int (da_cons de_int da_nil)))) da_nil)) (by omega)) sc_law.nd)
    (dss_cons (ds_set 5 (de_ix (hu_ofG hr) (dr_of (de_lst (da_cons de_int (da_cons de_int (da_cons de_int (da_cons de_int (da_cons de_int (da_cons de_int (da_cons de_int (da_cons de_int da_nil)))))))))) (dr_of (de_ix (hu_ofG hr) (dr_of (de_name 4)) (dr_of de_int)))) sc_law.nd)
    (dss_cons (ds_set 6 (de_ix (hu_ofG hr) (dr_of (de_lst (da_cons de_int (da_cons de_int (da_cons de_int (da_cons de_int (da_cons de_int (da_cons de_int (da_cons de_int (da_cons de_int da_nil)))))))))) (dr_of (de_ix (hu_ofG hr) (dr_of (de_name 4)) (dr_of de_int)))) sc_law.nd)
    (dss_cons (ds_set 7 (de_call F_law_digits hr (by rfl) (da_cons (de_call F_law_cell hr (by rfl) (da_cons (de_name 0) (da_cons de_int da_nil)) (by omega)) (da_cons (de_op op_mulA ro_mul (dr_of (de_lst (da_cons de_int da_nil))) (dr_of de_int)) da_nil)) (by omega)) sc_law.nd)
    (dss_cons (ds_set 8 (de_ix (hu_ofG hr) (dr_of (de_call F_law_term hr (by rfl) (da_cons (de_name 1) (da_cons (de_name 2) (da_cons (de_name 7) (da_cons de_int (da_cons (de_name 5) (da_cons (de_name 6) (da_cons (de_ix (hu_ofG hr) (dr_of (de_lst (da_cons de_int (da_cons de_int (da_cons de_int (da_cons de_int da_nil)))))) (dr_of (de_ix (hu_ofG hr) (dr_of (de_name 4)) (dr_of de_int)))) da_nil))))))) (by omega))) (dr_of de_int)) sc_law.nd)
    (dss_cons (ds_set 9 (de_ix (hu_ofG hr) (dr_of (de_call F_law_turned hr (by rfl) (da_cons (de_name 3) (da_cons (de_name 8) (da_cons (de_call F_law_digits hr (by rfl) (da_cons (de_call F_law_cell hr (by rfl) (da_cons (de_name 0) (da_cons de_int da_nil)) (by omega)) (da_cons (de_op op_mulA ro_mul (dr_of (de_lst (da_cons de_int da_nil))) (dr_of de_int)) da_nil)) (by omega)) (da_cons de_int da_nil)))) (by omega))) (dr_of de_int)) sc_law.nd)
    (dss_cons (ds_set 10 (de_make I_Signature hr (by rfl) (da_cons (de_name 1) da_nil) (by omega)) sc_law.nd)
    (dss_cons (ds_for PassesOwn.never rfl (di0_seq (de_lst (da_cons (de_name 8) (da_cons (de_name 9) (da_cons (de_name 8) da_nil))))) (dg_name 11 sc_law.nd) (dss_one (ds_if (dt_not (dt_val (de_call F_law_tells_own hr (by rfl) (da_cons (de_name 10) (da_cons (de_name 3) (da_cons (de_name 11) da_nil))) (by omega))))
    (dss_one (ds_ret de_bl))
    dss_nil)))
    (dss_one (ds_ret (de_cmp (op_eqK hr.units rfl) ro_eq (dr_of (de_fld A_Signature_symbols (de_name 10))) (dr_of (de_callTy (call_tupleK rfl) rc_tuple (by rfl) z_tuple boot_tuple (dar_cons (dr_of (de_name 1)) dar_nil))) (nomark _)))))))))))))))
end
end My

set_option Elab.async false
set_option linter.all false
set_option maxRecDepth 100000
set_option maxHeartbeats 4000000
namespace My
open PySem PySem.Spec PyProof.Rows L2 Dl
/-! ### the end -/
theorem all_mk {l : PySem.W.OpenLaw} {w : World} {K : PySem.W.Frag} {h : Heap} {mg : Str → Option Value} {fa : Addr} (X : K.In h) (G : h.Ns mainGlobals mg) (hfa : mg "law" = some (.ref fa))
    (hlaw : ∀ (cSignature : Addr) (ns : List Int), ns.length ≤ 63 → f_law cSignature [.scr (ns.map D.int)] = some (.bl true))
    {cSignature : Addr} (aC_Signature : PySem.W.nsIn K mainGlobals "Signature" = some (some (.ref cSignature))) (pg_Signature : PySem.W.plainGet K cSignature Str.empty = true) (hd_Signature : PySem.W.hasDictIn K cSignature = true) (po_Signature : PySem.W.plainOver K cSignature = true) (sa_Signature : PySem.W.findIn K (.ref cSignature) "__setattr__" = some (some (.builtin "object.__setattr__"))) (mk_Signature : PySem.W.makesIn K cSignature = true) (kc_Signature : PySem.W.keepIn K (.ref cSignature) = true)
    (nf_Signature_ranks : PySem.W.findIn K (.ref cSignature) "_ranks" = some none)
    (nf_Signature_symbols : PySem.W.findIn K (.ref cSignature) "symbols" = some none)
    {f0 : Addr} {od0 an0 : Option Addr} {sl0 : Array (Option Value)} {oc0 kV0 dc0 pm0 cd0 ct0 : Value}
    (a0 : PySem.W.nsIn K mainGlobals "_consists_of" = some (some (.ref f0)))
    (l0 : K.lookup f0 = some ⟨oc0, od0, .func (PySem.W.fnOf "_consists_of" "_consists_of" (defArgs s_consists_of) (defBody s_consists_of) (defScope s_consists_of) .none kV0 dc0 pm0 an0 (cd0) ct0), sl0⟩) (c0 : PySem.W.codeIn K (cd0) "_consists_of" = true) (k0 : PySem.W.keepIn K (.ref f0) = true)
    {f1 : Addr} {od1 an1 : Option Addr} {sl1 : Array (Option Value)} {oc1 kV1 dc1 pm1 cd1 ct1 : Value}
    (a1 : PySem.W.nsIn K mainGlobals "is_symbol_name" = some (some (.ref f1)))
    (l1 : K.lookup f1 = some ⟨oc1, od1, .func (PySem.W.fnOf "is_symbol_name" "is_symbol_name" (defArgs s_is_symbol_name) (defBody s_is_symbol_name) (defScope s_is_symbol_name) .none kV1 dc1 pm1 an1 (cd1) ct1), sl1⟩) (c1 : PySem.W.codeIn K (cd1) "is_symbol_name" = true) (k1 : PySem.W.keepIn K (.ref f1) = true)
    {f2 : Addr} {od2 an2 : Option Addr} {sl2 : Array (Option Value)} {oc2 kV2 dc2 pm2 cd2 ct2 : Value}
    (a2 : PySem.W.nsIn K mainGlobals "_arguments_backwards" = some (some (.ref f2)))
    (l2 : K.lookup f2 = some ⟨oc2, od2, .func (PySem.W.fnOf "_arguments_backwards" "_arguments_backwards" (defArgs s_arguments_backwards) (defBody s_arguments_backwards) (defScope s_arguments_backwards) .none kV2 dc2 pm2 an2 (cd2) ct2), sl2⟩) (c2 : PySem.W.codeIn K (cd2) "_arguments_backwards" = true) (k2 : PySem.W.keepIn K (.ref f2) = true)
    {f3 : Addr} {od3 an3 : Option Addr} {sl3 : Array (Option Value)} {oc3 kV3 dc3 pm3 cd3 ct3 : Value}
    (a3 : PySem.W.nsIn K mainGlobals "parts_with_places" = some (some (.ref f3)))
    (l3 : K.lookup f3 = some ⟨oc3, od3, .func (PySem.W.fnOf "parts_with_places" "parts_with_places" (defArgs s_parts_with_places) (defBody s_parts_with_places) (defScope s_parts_with_places) .none kV3 dc3 pm3 an3 (cd3) ct3), sl3⟩) (c3 : PySem.W.codeIn K (cd3) "parts_with_places" = true) (k3 : PySem.W.keepIn K (.ref f3) = true)
    {f4 : Addr} {od4 an4 : Option Addr} {sl4 : Array (Option Value)} {oc4 kV4 dc4 pm4 cd4 ct4 : Value}
    (a4 : PySem.W.findIn K (.ref cSignature) "rank" = some (some (.ref f4))) (i4 : PySem.W.isFn K (.ref f4) = true)
    (l4 : K.lookup f4 = some ⟨oc4, od4, .func (PySem.W.fnOf "rank" "Signature.rank" (defArgs s_Signature_rank) (defBody s_Signature_rank) (defScope s_Signature_rank) .none kV4 dc4 pm4 an4 (cd4) ct4), sl4⟩) (c4 : PySem.W.codeIn K (cd4) "Signature.rank" = true) (k4 : PySem.W.keepIn K (.ref f4) = true)
    {f5 : Addr} {od5 an5 : Option Addr} {sl5 : Array (Option Value)} {oc5 kV5 dc5 pm5 cd5 ct5 : Value}
    (a5 : PySem.W.nsIn K mainGlobals "sign_order" = some (some (.ref f5)))
    (l5 : K.lookup f5 = some ⟨oc5, od5, .func (PySem.W.fnOf "sign_order" "sign_order" (defArgs s_sign_order) (defBody s_sign_order) (defScope s_sign_order) .none kV5 dc5 pm5 an5 (cd5) ct5), sl5⟩) (c5 : PySem.W.codeIn K (cd5) "sign_order" = true) (k5 : PySem.W.keepIn K (.ref f5) = true)
    {f6 : Addr} {od6 an6 : Option Addr} {sl6 : Array (Option Value)} {oc6 kV6 dc6 pm6 cd6 ct6 : Value}
    (a6 : PySem.W.findIn K (.ref cSignature) "is_two_way" = some (some (.ref f6))) (i6 : PySem.W.isFn K (.ref f6) = true)
    (l6 : K.lookup f6 = some ⟨oc6, od6, .func (PySem.W.fnOf "is_two_way" "Signature.is_two_way" (defArgs s_Signature_is_two_way) (defBody s_Signature_is_two_way) (defScope s_Signature_is_two_way) .none kV6 dc6 pm6 an6 (cd6) ct6), sl6⟩) (c6 : PySem.W.codeIn K (cd6) "Signature.is_two_way" = true) (k6 : PySem.W.keepIn K (.ref f6) = true)
    {f7 : Addr} {od7 an7 : Option Addr} {sl7 : Array (Option Value)} {oc7 kV7 dc7 pm7  ct7 : Value} {cA7 cP7 : Addr}
    (a7 : PySem.W.nsIn K mainGlobals "keyed_writing" = some (some (.ref f7)))
    (l7 : K.lookup f7 = some ⟨oc7, od7, .func (PySem.W.fnOf "keyed_writing" "keyed_writing" (defArgs s_keyed_writing) (defBody s_keyed_writing) (defScope s_keyed_writing) .none kV7 dc7 pm7 an7 (.ref cA7) ct7), sl7⟩) (c7 : PySem.W.codeIn K (.ref cA7) "keyed_writing" = true) (k7 : PySem.W.keepIn K (.ref f7) = true)
    {ov7 : Option Addr} {vs7 : Array Value} {sv7 : Array (Option Value)} (v7 : K.lookup cA7 = some ⟨.type "code", ov7, .fields vs7, sv7⟩) (p7 : (vs7[11]? : Option Value) = some (.ref cP7)) (h7 : PySem.W.codeHdIn K cA7 cP7 = true) (t7 : h.get? cP7 = some { cls := .none, data := .fields #[] }) (nl7 : K.lookup cP7 = none)
    {f8 : Addr} {od8 an8 : Option Addr} {sl8 : Array (Option Value)} {oc8 kV8 dc8 pm8 cd8 ct8 : Value}
    (a8 : PySem.W.nsIn K mainGlobals "likeness" = some (some (.ref f8)))
    (l8 : K.lookup f8 = some ⟨oc8, od8, .func (PySem.W.fnOf "likeness" "likeness" (defArgs s_likeness) (defBody s_likeness) (defScope s_likeness) .none kV8 dc8 pm8 an8 (cd8) ct8), sl8⟩) (c8 : PySem.W.codeIn K (cd8) "likeness" = true) (k8 : PySem.W.keepIn K (.ref f8) = true)
    {f9 : Addr} {od9 an9 : Option Addr} {sl9 : Array (Option Value)} {oc9 kV9 dc9 pm9 cd9 ct9 : Value}
    (a9 : PySem.W.nsIn K mainGlobals "are_alike" = some (some (.ref f9)))
    (l9 : K.lookup f9 = some ⟨oc9, od9, .func (PySem.W.fnOf "are_alike" "are_alike" (defArgs s_are_alike) (defBody s_are_alike) (defScope s_are_alike) .none kV9 dc9 pm9 an9 (cd9) ct9), sl9⟩) (c9 : PySem.W.codeIn K (cd9) "are_alike" = true) (k9 : PySem.W.keepIn K (.ref f9) = true)
    {f10 : Addr} {od10 an10 : Option Addr} {sl10 : Array (Option Value)} {oc10 kV10 dc10 pm10 cd10 ct10 : Value}
    (a10 : PySem.W.nsIn K mainGlobals "is_two_way_part" = some (some (.ref f10)))
    (l10 : K.lookup f10 = some ⟨oc10, od10, .func (PySem.W.fnOf "is_two_way_part" "is_two_way_part" (defArgs s_is_two_way_part) (defBody s_is_two_way_part) (defScope s_is_two_way_part) .none kV10 dc10 pm10 an10 (cd10) ct10), sl10⟩) (c10 : PySem.W.codeIn K (cd10) "is_two_way_part" = true) (k10 : PySem.W.keepIn K (.ref f10) = true)
    {f11 : Addr} {od11 an11 : Option Addr} {sl11 : Array (Option Value)} {oc11 kV11 dc11 pm11 cd11 ct11 : Value}
    (a11 : PySem.W.nsIn K mainGlobals "two_way_places" = some (some (.ref f11)))
    (l11 : K.lookup f11 = some ⟨oc11, od11, .func (PySem.W.fnOf "two_way_places" "two_way_places" (defArgs s_two_way_places) (defBody s_two_way_places) (defScope s_two_way_places) .none kV11 dc11 pm11 an11 (cd11) ct11), sl11⟩) (c11 : PySem.W.codeIn K (cd11) "two_way_places" = true) (k11 : PySem.W.keepIn K (.ref f11) = true)
    {f12 : Addr} {od12 an12 : Option Addr} {sl12 : Array (Option Value)} {oc12 kV12 dc12 pm12 cd12 ct12 : Value}
    (a12 : PySem.W.nsIn K mainGlobals "_is_even_part" = some (some (.ref f12)))
    (l12 : K.lookup f12 = some ⟨oc12, od12, .func (PySem.W.fnOf "_is_even_part" "_is_even_part" (defArgs s_is_even_part) (defBody s_is_even_part) (defScope s_is_even_part) .none kV12 dc12 pm12 an12 (cd12) ct12), sl12⟩) (c12 : PySem.W.codeIn K (cd12) "_is_even_part" = true) (k12 : PySem.W.keepIn K (.ref f12) = true)
    {f13 : Addr} {od13 an13 : Option Addr} {sl13 : Array (Option Value)} {oc13 kV13 dc13 pm13 cd13 ct13 : Value}
    (a13 : PySem.W.nsIn K mainGlobals "even_places" = some (some (.ref f13)))
    (l13 : K.lookup f13 = some ⟨oc13, od13, .func (PySem.W.fnOf "even_places" "even_places" (defArgs s_even_places) (defBody s_even_places) (defScope s_even_places) .none kV13 dc13 pm13 an13 (cd13) ct13), sl13⟩) (c13 : PySem.W.codeIn K (cd13) "even_places" = true) (k13 : PySem.W.keepIn K (.ref f13) = true)
    {f14 : Addr} {od14 an14 : Option Addr} {sl14 : Array (Option Value)} {oc14 kV14 dc14 pm14 cd14 ct14 : Value}
    (a14 : PySem.W.nsIn K mainGlobals "count_turnings" = some (some (.ref f14)))
    (l14 : K.lookup f14 = some ⟨oc14, od14, .func (PySem.W.fnOf "count_turnings" "count_turnings" (defArgs s_count_turnings) (defBody s_count_turnings) (defScope s_count_turnings) .none kV14 dc14 pm14 an14 (cd14) ct14), sl14⟩) (c14 : PySem.W.codeIn K (cd14) "count_turnings" = true) (k14 : PySem.W.keepIn K (.ref f14) = true)
    {f15 : Addr} {od15 an15 : Option Addr} {sl15 : Array (Option Value)} {oc15 kV15 dc15 pm15 cd15 ct15 : Value}
    (a15 : PySem.W.nsIn K mainGlobals "_below" = some (some (.ref f15)))
    (l15 : K.lookup f15 = some ⟨oc15, od15, .func (PySem.W.fnOf "_below" "_below" (defArgs s_below) (defBody s_below) (defScope s_below) .none kV15 dc15 pm15 an15 (cd15) ct15), sl15⟩) (c15 : PySem.W.codeIn K (cd15) "_below" = true) (k15 : PySem.W.keepIn K (.ref f15) = true)
    {f16 : Addr} {od16 an16 : Option Addr} {sl16 : Array (Option Value)} {oc16 kV16 dc16 pm16 cd16 ct16 : Value}
    (a16 : PySem.W.nsIn K mainGlobals "_exchanges_of_arguments" = some (some (.ref f16)))
    (l16 : K.lookup f16 = some ⟨oc16, od16, .func (PySem.W.fnOf "_exchanges_of_arguments" "_exchanges_of_arguments" (defArgs s_exchanges_of_arguments) (defBody s_exchanges_of_arguments) (defScope s_exchanges_of_arguments) .none kV16 dc16 pm16 an16 (cd16) ct16), sl16⟩) (c16 : PySem.W.codeIn K (cd16) "_exchanges_of_arguments" = true) (k16 : PySem.W.keepIn K (.ref f16) = true)
    {f17 : Addr} {od17 an17 : Option Addr} {sl17 : Array (Option Value)} {oc17 kV17 dc17 pm17 cd17 ct17 : Value}
    (a17 : PySem.W.nsIn K mainGlobals "_exchanges" = some (some (.ref f17)))
    (l17 : K.lookup f17 = some ⟨oc17, od17, .func (PySem.W.fnOf "_exchanges" "_exchanges" (defArgs s_exchanges) (defBody s_exchanges) (defScope s_exchanges) .none kV17 dc17 pm17 an17 (cd17) ct17), sl17⟩) (c17 : PySem.W.codeIn K (cd17) "_exchanges" = true) (k17 : PySem.W.keepIn K (.ref f17) = true)
    {f18 : Addr} {od18 an18 : Option Addr} {sl18 : Array (Option Value)} {oc18 kV18 dc18 pm18 cd18 ct18 : Value}
    (a18 : PySem.W.nsIn K mainGlobals "own_turnings" = some (some (.ref f18)))
    (l18 : K.lookup f18 = some ⟨oc18, od18, .func (PySem.W.fnOf "own_turnings" "own_turnings" (defArgs s_own_turnings) (defBody s_own_turnings) (defScope s_own_turnings) .none kV18 dc18 pm18 an18 (cd18) ct18), sl18⟩) (c18 : PySem.W.codeIn K (cd18) "own_turnings" = true) (k18 : PySem.W.keepIn K (.ref f18) = true)
    {f19 : Addr} {od19 an19 : Option Addr} {sl19 : Array (Option Value)} {oc19 kV19 dc19 pm19 cd19 ct19 : Value}
    (a19 : PySem.W.nsIn K mainGlobals "_is_symbol" = some (some (.ref f19)))
    (l19 : K.lookup f19 = some ⟨oc19, od19, .func (PySem.W.fnOf "_is_symbol" "_is_symbol" (defArgs s_is_symbol) (defBody s_is_symbol) (defScope s_is_symbol) .none kV19 dc19 pm19 an19 (cd19) ct19), sl19⟩) (c19 : PySem.W.codeIn K (cd19) "_is_symbol" = true) (k19 : PySem.W.keepIn K (.ref f19) = true)
    {f20 : Addr} {od20 an20 : Option Addr} {sl20 : Array (Option Value)} {oc20 kV20 dc20 pm20 cd20 ct20 : Value}
    (a20 : PySem.W.findIn K (.ref cSignature) "__init__" = some (some (.ref f20))) (i20 : PySem.W.isFn K (.ref f20) = true)
    (l20 : K.lookup f20 = some ⟨oc20, od20, .func (PySem.W.fnOf "__init__" "Signature.__init__" (defArgs s_Signature_init) (defBody s_Signature_init) (defScope s_Signature_init) .none kV20 dc20 pm20 an20 (cd20) ct20), sl20⟩) (c20 : PySem.W.codeIn K (cd20) "Signature.__init__" = true) (k20 : PySem.W.keepIn K (.ref f20) = true)
    {f21 : Addr} {od21 an21 : Option Addr} {sl21 : Array (Option Value)} {oc21 kV21 dc21 pm21 cd21 ct21 : Value}
    (a21 : PySem.W.nsIn K mainGlobals "_law_whole" = some (some (.ref f21)))
    (l21 : K.lookup f21 = some ⟨oc21, od21, .func (PySem.W.fnOf "_law_whole" "_law_whole" (defArgs s_law_whole) (defBody s_law_whole) (defScope s_law_whole) .none kV21 dc21 pm21 an21 (cd21) ct21), sl21⟩) (c21 : PySem.W.codeIn K (cd21) "_law_whole" = true) (k21 : PySem.W.keepIn K (.ref f21) = true)
    {f22 : Addr} {od22 an22 : Option Addr} {sl22 : Array (Option Value)} {oc22 kV22 dc22 pm22 cd22 ct22 : Value}
    (a22 : PySem.W.nsIn K mainGlobals "_law_cell" = some (some (.ref f22)))
    (l22 : K.lookup f22 = some ⟨oc22, od22, .func (PySem.W.fnOf "_law_cell" "_law_cell" (defArgs s_law_cell) (defBody s_law_cell) (defScope s_law_cell) .none kV22 dc22 pm22 an22 (cd22) ct22), sl22⟩) (c22 : PySem.W.codeIn K (cd22) "_law_cell" = true) (k22 : PySem.W.keepIn K (.ref f22) = true)
    {f23 : Addr} {od23 an23 : Option Addr} {sl23 : Array (Option Value)} {oc23 kV23 dc23 pm23 cd23 ct23 : Value}
    (a23 : PySem.W.nsIn K mainGlobals "_law_digits" = some (some (.ref f23)))
    (l23 : K.lookup f23 = some ⟨oc23, od23, .func (PySem.W.fnOf "_law_digits" "_law_digits" (defArgs s_law_digits) (defBody s_law_digits) (defScope s_law_digits) .none kV23 dc23 pm23 an23 (cd23) ct23), sl23⟩) (c23 : PySem.W.codeIn K (cd23) "_law_digits" = true) (k23 : PySem.W.keepIn K (.ref f23) = true)
    {f24 : Addr} {od24 an24 : Option Addr} {sl24 : Array (Option Value)} {oc24 kV24 dc24 pm24 cd24 ct24 : Value}
    (a24 : PySem.W.nsIn K mainGlobals "_law_label" = some (some (.ref f24)))
    (l24 : K.lookup f24 = some ⟨oc24, od24, .func (PySem.W.fnOf "_law_label" "_law_label" (defArgs s_law_label) (defBody s_law_label) (defScope s_law_label) .none kV24 dc24 pm24 an24 (cd24) ct24), sl24⟩) (c24 : PySem.W.codeIn K (cd24) "_law_label" = true) (k24 : PySem.W.keepIn K (.ref f24) = true)
    {f25 : Addr} {od25 an25 : Option Addr} {sl25 : Array (Option Value)} {oc25 kV25 dc25 pm25 cd25 ct25 : Value}
    (a25 : PySem.W.nsIn K mainGlobals "_law_labels" = some (some (.ref f25)))
    (l25 : K.lookup f25 = some ⟨oc25, od25, .func (PySem.W.fnOf "_law_labels" "_law_labels" (defArgs s_law_labels) (defBody s_law_labels) (defScope s_law_labels) .none kV25 dc25 pm25 an25 (cd25) ct25), sl25⟩) (c25 : PySem.W.codeIn K (cd25) "_law_labels" = true) (k25 : PySem.W.keepIn K (.ref f25) = true)
    {f26 : Addr} {od26 an26 : Option Addr} {sl26 : Array (Option Value)} {oc26 kV26 dc26 pm26 cd26 ct26 : Value}
    (a26 : PySem.W.nsIn K mainGlobals "_law_symbols" = some (some (.ref f26)))
    (l26 : K.lookup f26 = some ⟨oc26, od26, .func (PySem.W.fnOf "_law_symbols" "_law_symbols" (defArgs s_law_symbols) (defBody s_law_symbols) (defScope s_law_symbols) .none kV26 dc26 pm26 an26 (cd26) ct26), sl26⟩) (c26 : PySem.W.codeIn K (cd26) "_law_symbols" = true) (k26 : PySem.W.keepIn K (.ref f26) = true)
    {f27 : Addr} {od27 an27 : Option Addr} {sl27 : Array (Option Value)} {oc27 kV27 dc27 pm27 cd27 ct27 : Value}
    (a27 : PySem.W.nsIn K mainGlobals "_law_variables" = some (some (.ref f27)))
    (l27 : K.lookup f27 = some ⟨oc27, od27, .func (PySem.W.fnOf "_law_variables" "_law_variables" (defArgs s_law_variables) (defBody s_law_variables) (defScope s_law_variables) .none kV27 dc27 pm27 an27 (cd27) ct27), sl27⟩) (c27 : PySem.W.codeIn K (cd27) "_law_variables" = true) (k27 : PySem.W.keepIn K (.ref f27) = true)
    {f28 : Addr} {od28 an28 : Option Addr} {sl28 : Array (Option Value)} {oc28 kV28 dc28 pm28 cd28 ct28 : Value}
    (a28 : PySem.W.nsIn K mainGlobals "_law_turned" = some (some (.ref f28)))
    (l28 : K.lookup f28 = some ⟨oc28, od28, .func (PySem.W.fnOf "_law_turned" "_law_turned" (defArgs s_law_turned) (defBody s_law_turned) (defScope s_law_turned) .none kV28 dc28 pm28 an28 (cd28) ct28), sl28⟩) (c28 : PySem.W.codeIn K (cd28) "_law_turned" = true) (k28 : PySem.W.keepIn K (.ref f28) = true)
    {f29 : Addr} {od29 an29 : Option Addr} {sl29 : Array (Option Value)} {oc29 kV29 dc29 pm29 cd29 ct29 : Value}
    (a29 : PySem.W.nsIn K mainGlobals "_law_renamed" = some (some (.ref f29)))
    (l29 : K.lookup f29 = some ⟨oc29, od29, .func (PySem.W.fnOf "_law_renamed" "_law_renamed" (defArgs s_law_renamed) (defBody s_law_renamed) (defScope s_law_renamed) .none kV29 dc29 pm29 an29 (cd29) ct29), sl29⟩) (c29 : PySem.W.codeIn K (cd29) "_law_renamed" = true) (k29 : PySem.W.keepIn K (.ref f29) = true)
    {f30 : Addr} {od30 an30 : Option Addr} {sl30 : Array (Option Value)} {oc30 kV30 dc30 pm30 cd30 ct30 : Value}
    (a30 : PySem.W.nsIn K mainGlobals "_law_term" = some (some (.ref f30)))
    (l30 : K.lookup f30 = some ⟨oc30, od30, .func (PySem.W.fnOf "_law_term" "_law_term" (defArgs s_law_term) (defBody s_law_term) (defScope s_law_term) .none kV30 dc30 pm30 an30 (cd30) ct30), sl30⟩) (c30 : PySem.W.codeIn K (cd30) "_law_term" = true) (k30 : PySem.W.keepIn K (.ref f30) = true)
    {f31 : Addr} {od31 an31 : Option Addr} {sl31 : Array (Option Value)} {oc31 kV31 dc31 pm31 cd31 ct31 : Value}
    (a31 : PySem.W.nsIn K mainGlobals "_law_places" = some (some (.ref f31)))
    (l31 : K.lookup f31 = some ⟨oc31, od31, .func (PySem.W.fnOf "_law_places" "_law_places" (defArgs s_law_places) (defBody s_law_places) (defScope s_law_places) .none kV31 dc31 pm31 an31 (cd31) ct31), sl31⟩) (c31 : PySem.W.codeIn K (cd31) "_law_places" = true) (k31 : PySem.W.keepIn K (.ref f31) = true)
    {f32 : Addr} {od32 an32 : Option Addr} {sl32 : Array (Option Value)} {oc32 kV32 dc32 pm32 cd32 ct32 : Value}
    (a32 : PySem.W.nsIn K mainGlobals "_law_form" = some (some (.ref f32)))
    (l32 : K.lookup f32 = some ⟨oc32, od32, .func (PySem.W.fnOf "_law_form" "_law_form" (defArgs s_law_form) (defBody s_law_form) (defScope s_law_form) .none kV32 dc32 pm32 an32 (cd32) ct32), sl32⟩) (c32 : PySem.W.codeIn K (cd32) "_law_form" = true) (k32 : PySem.W.keepIn K (.ref f32) = true)
    {f33 : Addr} {od33 an33 : Option Addr} {sl33 : Array (Option Value)} {oc33 kV33 dc33 pm33 cd33 ct33 : Value}
    (a33 : PySem.W.nsIn K mainGlobals "_law_crossed" = some (some (.ref f33)))
    (l33 : K.lookup f33 = some ⟨oc33, od33, .func (PySem.W.fnOf "_law_crossed" "_law_crossed" (defArgs s_law_crossed) (defBody s_law_crossed) (defScope s_law_crossed) .none kV33 dc33 pm33 an33 (cd33) ct33), sl33⟩) (c33 : PySem.W.codeIn K (cd33) "_law_crossed" = true) (k33 : PySem.W.keepIn K (.ref f33) = true)
    {f34 : Addr} {od34 an34 : Option Addr} {sl34 : Array (Option Value)} {oc34 kV34 dc34 pm34 cd34 ct34 : Value}
    (a34 : PySem.W.nsIn K mainGlobals "_law_even" = some (some (.ref f34)))
    (l34 : K.lookup f34 = some ⟨oc34, od34, .func (PySem.W.fnOf "_law_even" "_law_even" (defArgs s_law_even) (defBody s_law_even) (defScope s_law_even) .none kV34 dc34 pm34 an34 (cd34) ct34), sl34⟩) (c34 : PySem.W.codeIn K (cd34) "_law_even" = true) (k34 : PySem.W.keepIn K (.ref f34) = true)
    {f35 : Addr} {od35 an35 : Option Addr} {sl35 : Array (Option Value)} {oc35 kV35 dc35 pm35 cd35 ct35 : Value}
    (a35 : PySem.W.nsIn K mainGlobals "_law_exchanged" = some (some (.ref f35)))
    (l35 : K.lookup f35 = some ⟨oc35, od35, .func (PySem.W.fnOf "_law_exchanged" "_law_exchanged" (defArgs s_law_exchanged) (defBody s_law_exchanged) (defScope s_law_exchanged) .none kV35 dc35 pm35 an35 (cd35) ct35), sl35⟩) (c35 : PySem.W.codeIn K (cd35) "_law_exchanged" = true) (k35 : PySem.W.keepIn K (.ref f35) = true)
    {f36 : Addr} {od36 an36 : Option Addr} {sl36 : Array (Option Value)} {oc36 kV36 dc36 pm36 cd36 ct36 : Value}
    (a36 : PySem.W.nsIn K mainGlobals "_law_same_place" = some (some (.ref f36)))
    (l36 : K.lookup f36 = some ⟨oc36, od36, .func (PySem.W.fnOf "_law_same_place" "_law_same_place" (defArgs s_law_same_place) (defBody s_law_same_place) (defScope s_law_same_place) .none kV36 dc36 pm36 an36 (cd36) ct36), sl36⟩) (c36 : PySem.W.codeIn K (cd36) "_law_same_place" = true) (k36 : PySem.W.keepIn K (.ref f36) = true)
    {f37 : Addr} {od37 an37 : Option Addr} {sl37 : Array (Option Value)} {oc37 kV37 dc37 pm37 cd37 ct37 : Value}
    (a37 : PySem.W.nsIn K mainGlobals "_law_same_places" = some (some (.ref f37)))
    (l37 : K.lookup f37 = some ⟨oc37, od37, .func (PySem.W.fnOf "_law_same_places" "_law_same_places" (defArgs s_law_same_places) (defBody s_law_same_places) (defScope s_law_same_places) .none kV37 dc37 pm37 an37 (cd37) ct37), sl37⟩) (c37 : PySem.W.codeIn K (cd37) "_law_same_places" = true) (k37 : PySem.W.keepIn K (.ref f37) = true)
    {f38 : Addr} {od38 an38 : Option Addr} {sl38 : Array (Option Value)} {oc38 kV38 dc38 pm38 cd38 ct38 : Value}
    (a38 : PySem.W.nsIn K mainGlobals "_law_own" = some (some (.ref f38)))
    (l38 : K.lookup f38 = some ⟨oc38, od38, .func (PySem.W.fnOf "_law_own" "_law_own" (defArgs s_law_own) (defBody s_law_own) (defScope s_law_own) .none kV38 dc38 pm38 an38 (cd38) ct38), sl38⟩) (c38 : PySem.W.codeIn K (cd38) "_law_own" = true) (k38 : PySem.W.keepIn K (.ref f38) = true)
    {f39 : Addr} {od39 an39 : Option Addr} {sl39 : Array (Option Value)} {oc39 kV39 dc39 pm39 cd39 ct39 : Value}
    (a39 : PySem.W.nsIn K mainGlobals "_law_tells_own" = some (some (.ref f39)))
    (l39 : K.lookup f39 = some ⟨oc39, od39, .func (PySem.W.fnOf "_law_tells_own" "_law_tells_own" (defArgs s_law_tells_own) (defBody s_law_tells_own) (defScope s_law_tells_own) .none kV39 dc39 pm39 an39 (cd39) ct39), sl39⟩) (c39 : PySem.W.codeIn K (cd39) "_law_tells_own" = true) (k39 : PySem.W.keepIn K (.ref f39) = true)
    {f40 : Addr} {od40 an40 : Option Addr} {sl40 : Array (Option Value)} {oc40 kV40 dc40 pm40 cd40 ct40 : Value}
    (a40 : PySem.W.nsIn K mainGlobals "law" = some (some (.ref f40)))
    (l40 : K.lookup f40 = some ⟨oc40, od40, .func (PySem.W.fnOf "law" "law" (defArgs s_law) (defBody s_law) (defScope s_law) .none kV40 dc40 pm40 an40 (cd40) ct40), sl40⟩) (c40 : PySem.W.codeIn K (cd40) "law" = true) (k40 : PySem.W.keepIn K (.ref f40) = true)
    (y_bool : PySem.W.nsIn K mainGlobals "bool" = some none)
    (y_enumerate : PySem.W.nsIn K mainGlobals "enumerate" = some none)
    (y_int : PySem.W.nsIn K mainGlobals "int" = some none)
    (y_isinstance : PySem.W.nsIn K mainGlobals "isinstance" = some none)
    (y_len : PySem.W.nsIn K mainGlobals "len" = some none)
    (y_range : PySem.W.nsIn K mainGlobals "range" = some none)
    (y_repr : PySem.W.nsIn K mainGlobals "repr" = some none)
    (y_reversed : PySem.W.nsIn K mainGlobals "reversed" = some none)
    (y_sorted : PySem.W.nsIn K mainGlobals "sorted" = some none)
    (y_str : PySem.W.nsIn K mainGlobals "str" = some none)
    (y_tuple : PySem.W.nsIn K mainGlobals "tuple" = some none)
    (y_zip : PySem.W.nsIn K mainGlobals "zip" = some none)
    {t_DIGITS : Tok} (y_DIGITS : PySem.W.nsIn K mainGlobals "DIGITS" = some (some (.str "0123456789" t_DIGITS)))
    {t_SMALL_LETTERS : Tok} (y_SMALL_LETTERS : PySem.W.nsIn K mainGlobals "SMALL_LETTERS" = some (some (.str "abcdefghijklmnopqrstuvwxyz" t_SMALL_LETTERS)))
    (z_digits : NoDg K)
    : LawAtG l w K 133 63 "script" mg fa h := by
  have e := hfa.symm.trans (PySem.W.mg_of X G a40)
  cases e
  letI : TbA := ⟨[(cP7, lamQ "keyed_writing")]⟩
  have F0 := fun_mk (st := s_consists_of) l0 c0 k0
  have b0 := F0.binds (ps := ["text", "allowed"]) fun _ _ _ _ _ _ us hl => match us, hl with | [_, _], _ => rfl
  have g0 := PySem.W.mg_of X G a0
  have F1 := fun_mk (st := s_is_symbol_name) l1 c1 k1
  have b1 := F1.binds (ps := ["text"]) fun _ _ _ _ _ _ us hl => match us, hl with | [_], _ => rfl
  have g1 := PySem.W.mg_of X G a1
  have F2 := fun_mk (st := s_arguments_backwards) l2 c2 k2
  have b2 := F2.binds (ps := ["place", "part"]) fun _ _ _ _ _ _ us hl => match us, hl with | [_, _], _ => rfl
  have g2 := PySem.W.mg_of X G a2
  have F3 := fun_mk (st := s_parts_with_places) l3 c3 k3
  have b3 := F3.binds (ps := ["term"]) fun _ _ _ _ _ _ us hl => match us, hl with | [_], _ => rfl
  have g3 := PySem.W.mg_of X G a3
  have F4 := fun_mk (st := s_Signature_rank) l4 c4 k4
  have b4 := F4.binds (ps := ["self", "name"]) fun _ _ _ _ _ _ us hl => match us, hl with | [_, _], _ => rfl
  have F5 := fun_mk (st := s_sign_order) l5 c5 k5
  have b5 := F5.binds (ps := ["signature", "term"]) fun _ _ _ _ _ _ us hl => match us, hl with | [_, _], _ => rfl
  have g5 := PySem.W.mg_of X G a5
  have F6 := fun_mk (st := s_Signature_is_two_way) l6 c6 k6
  have b6 := F6.binds (ps := ["self", "name"]) fun _ _ _ _ _ _ us hl => match us, hl with | [_, _], _ => rfl
  have F7 := fun_mk (st := s_keyed_writing) l7 c7 k7
  have b7 := F7.binds (ps := ["signature", "term"]) fun _ _ _ _ _ _ us hl => match us, hl with | [_, _], _ => rfl
  have g7 := PySem.W.mg_of X G a7
  have F8 := fun_mk (st := s_likeness) l8 c8 k8
  have b8 := F8.binds (ps := ["signature", "term"]) fun _ _ _ _ _ _ us hl => match us, hl with | [_, _], _ => rfl
  have g8 := PySem.W.mg_of X G a8
  have F9 := fun_mk (st := s_are_alike) l9 c9 k9
  have b9 := F9.binds (ps := ["signature", "one", "two"]) fun _ _ _ _ _ _ us hl => match us, hl with | [_, _, _], _ => rfl
  have g9 := PySem.W.mg_of X G a9
  have F10 := fun_mk (st := s_is_two_way_part) l10 c10 k10
  have b10 := F10.binds (ps := ["signature", "part"]) fun _ _ _ _ _ _ us hl => match us, hl with | [_, _], _ => rfl
  have g10 := PySem.W.mg_of X G a10
  have F11 := fun_mk (st := s_two_way_places) l11 c11 k11
  have b11 := F11.binds (ps := ["signature", "term"]) fun _ _ _ _ _ _ us hl => match us, hl with | [_, _], _ => rfl
  have g11 := PySem.W.mg_of X G a11
  have F12 := fun_mk (st := s_is_even_part) l12 c12 k12
  have b12 := F12.binds (ps := ["signature", "part"]) fun _ _ _ _ _ _ us hl => match us, hl with | [_, _], _ => rfl
  have g12 := PySem.W.mg_of X G a12
  have F13 := fun_mk (st := s_even_places) l13 c13 k13
  have b13 := F13.binds (ps := ["signature", "term"]) fun _ _ _ _ _ _ us hl => match us, hl with | [_, _], _ => rfl
  have g13 := PySem.W.mg_of X G a13
  have F14 := fun_mk (st := s_count_turnings) l14 c14 k14
  have b14 := F14.binds (ps := ["signature", "term"]) fun _ _ _ _ _ _ us hl => match us, hl with | [_, _], _ => rfl
  have g14 := PySem.W.mg_of X G a14
  have F15 := fun_mk (st := s_below) l15 c15 k15
  have b15 := F15.binds (ps := ["index", "places"]) fun _ _ _ _ _ _ us hl => match us, hl with | [_, _], _ => rfl
  have g15 := PySem.W.mg_of X G a15
  have F16 := fun_mk (st := s_exchanges_of_arguments) l16 c16 k16
  have b16 := F16.binds (ps := ["signature", "ones", "twos"]) fun _ _ _ _ _ _ us hl => match us, hl with | [_, _, _], _ => rfl
  have g16 := PySem.W.mg_of X G a16
  have F17 := fun_mk (st := s_exchanges) l17 c17 k17
  have b17 := F17.binds (ps := ["signature", "one", "two"]) fun _ _ _ _ _ _ us hl => match us, hl with | [_, _, _], _ => rfl
  have g17 := PySem.W.mg_of X G a17
  have F18 := fun_mk (st := s_own_turnings) l18 c18 k18
  have b18 := F18.binds (ps := ["signature", "term"]) fun _ _ _ _ _ _ us hl => match us, hl with | [_, _], _ => rfl
  have g18 := PySem.W.mg_of X G a18
  have q18 := kw_of F18 (ps := ["signature", "term"]) fun _ _ _ _ _ _ us hl => match us, hl with | [_, _], _ => rfl
  have F19 := fun_mk (st := s_is_symbol) l19 c19 k19
  have b19 := F19.binds (ps := ["name", "arity", "two_way"]) fun _ _ _ _ _ _ us hl => match us, hl with | [_, _, _], _ => rfl
  have g19 := PySem.W.mg_of X G a19
  have F20 := fun_mk (st := s_Signature_init) l20 c20 k20
  have b20 := F20.binds (ps := ["self", "symbols"]) fun _ _ _ _ _ _ us hl => match us, hl with | [_, _], _ => rfl
  have F21 := fun_mk (st := s_law_whole) l21 c21 k21
  have b21 := F21.binds (ps := ["value"]) fun _ _ _ _ _ _ us hl => match us, hl with | [_], _ => rfl
  have g21 := PySem.W.mg_of X G a21
  have F22 := fun_mk (st := s_law_cell) l22 c22 k22
  have b22 := F22.binds (ps := ["script", "k"]) fun _ _ _ _ _ _ us hl => match us, hl with | [_, _], _ => rfl
  have g22 := PySem.W.mg_of X G a22
  have F23 := fun_mk (st := s_law_digits) l23 c23 k23
  have b23 := F23.binds (ps := ["cell", "sizes"]) fun _ _ _ _ _ _ us hl => match us, hl with | [_, _], _ => rfl
  have g23 := PySem.W.mg_of X G a23
  have F24 := fun_mk (st := s_law_label) l24 c24 k24
  have b24 := F24.binds (ps := ["number"]) fun _ _ _ _ _ _ us hl => match us, hl with | [_], _ => rfl
  have g24 := PySem.W.mg_of X G a24
  have F25 := fun_mk (st := s_law_labels) l25 c25 k25
  have b25 := F25.binds (ps := ["row", "many"]) fun _ _ _ _ _ _ us hl => match us, hl with | [_, _], _ => rfl
  have g25 := PySem.W.mg_of X G a25
  have F26 := fun_mk (st := s_law_symbols) l26 c26 k26
  have b26 := F26.binds (ps := ["script", "at"]) fun _ _ _ _ _ _ us hl => match us, hl with | [_, _], _ => rfl
  have g26 := PySem.W.mg_of X G a26
  have F27 := fun_mk (st := s_law_variables) l27 c27 k27
  have b27 := F27.binds (ps := ["cell"]) fun _ _ _ _ _ _ us hl => match us, hl with | [_], _ => rfl
  have g27 := PySem.W.mg_of X G a27
  have F28 := fun_mk (st := s_law_turned) l28 c28 k28
  have b28 := F28.binds (ps := ["two", "writing", "row", "at"]) fun _ _ _ _ _ _ us hl => match us, hl with | [_, _, _, _], _ => rfl
  have g28 := PySem.W.mg_of X G a28
  have F29 := fun_mk (st := s_law_renamed) l29 c29 k29
  have b29 := F29.binds (ps := ["writing", "names"]) fun _ _ _ _ _ _ us hl => match us, hl with | [_, _], _ => rfl
  have g29 := PySem.W.mg_of X G a29
  have F30 := fun_mk (st := s_law_term) l30 c30 k30
  have b30 := F30.binds (ps := ["symbols", "names", "row", "at", "room", "turns", "copies"]) fun _ _ _ _ _ _ us hl => match us, hl with | [_, _, _, _, _, _, _], _ => rfl
  have g30 := PySem.W.mg_of X G a30
  have F31 := fun_mk (st := s_law_places) l31 c31 k31
  have b31 := F31.binds (ps := ["writing", "place"]) fun _ _ _ _ _ _ us hl => match us, hl with | [_, _], _ => rfl
  have g31 := PySem.W.mg_of X G a31
  have F32 := fun_mk (st := s_law_form) l32 c32 k32
  have b32 := F32.binds (ps := ["two", "writing"]) fun _ _ _ _ _ _ us hl => match us, hl with | [_, _], _ => rfl
  have g32 := PySem.W.mg_of X G a32
  have F33 := fun_mk (st := s_law_crossed) l33 c33 k33
  have b33 := F33.binds (ps := ["two", "writing"]) fun _ _ _ _ _ _ us hl => match us, hl with | [_, _], _ => rfl
  have g33 := PySem.W.mg_of X G a33
  have F34 := fun_mk (st := s_law_even) l34 c34 k34
  have b34 := F34.binds (ps := ["two", "writing"]) fun _ _ _ _ _ _ us hl => match us, hl with | [_, _], _ => rfl
  have g34 := PySem.W.mg_of X G a34
  have F35 := fun_mk (st := s_law_exchanged) l35 c35 k35
  have b35 := F35.binds (ps := ["writing", "at", "places"]) fun _ _ _ _ _ _ us hl => match us, hl with | [_, _, _], _ => rfl
  have g35 := PySem.W.mg_of X G a35
  have F36 := fun_mk (st := s_law_same_place) l36 c36 k36
  have b36 := F36.binds (ps := ["found", "place"]) fun _ _ _ _ _ _ us hl => match us, hl with | [_, _], _ => rfl
  have g36 := PySem.W.mg_of X G a36
  have F37 := fun_mk (st := s_law_same_places) l37 c37 k37
  have b37 := F37.binds (ps := ["found", "places"]) fun _ _ _ _ _ _ us hl => match us, hl with | [_, _], _ => rfl
  have g37 := PySem.W.mg_of X G a37
  have F38 := fun_mk (st := s_law_own) l38 c38 k38
  have b38 := F38.binds (ps := ["writing", "known"]) fun _ _ _ _ _ _ us hl => match us, hl with | [_, _], _ => rfl
  have g38 := PySem.W.mg_of X G a38
  have F39 := fun_mk (st := s_law_tells_own) l39 c39 k39
  have b39 := F39.binds (ps := ["alphabet", "two", "writing"]) fun _ _ _ _ _ _ us hl => match us, hl with | [_, _, _], _ => rfl
  have g39 := PySem.W.mg_of X G a39
  have F40 := fun_mk (st := s_law) l40 c40 k40
  have z_bool := PySem.W.mg_none_of X G y_bool
  have z_enumerate := PySem.W.mg_none_of X G y_enumerate
  have z_int := PySem.W.mg_none_of X G y_int
  have z_isinstance := PySem.W.mg_none_of X G y_isinstance
  have z_len := PySem.W.mg_none_of X G y_len
  have z_range := PySem.W.mg_none_of X G y_range
  have z_repr := PySem.W.mg_none_of X G y_repr
  have z_reversed := PySem.W.mg_none_of X G y_reversed
  have z_sorted := PySem.W.mg_none_of X G y_sorted
  have z_str := PySem.W.mg_none_of X G y_str
  have z_tuple := PySem.W.mg_none_of X G y_tuple
  have z_zip := PySem.W.mg_none_of X G y_zip
  have g_DIGITS := PySem.W.mg_of X G y_DIGITS
  have g_SMALL_LETTERS := PySem.W.mg_of X G y_SMALL_LETTERS
  have cl_Signature : Cls K cSignature := ⟨pg_Signature, hd_Signature, po_Signature, sa_Signature⟩
  have A_Signature_ranks : FldC K [cSignature] "_ranks" := fldC_one cl_Signature nf_Signature_ranks
  have A_Signature_symbols : FldC K [cSignature] "symbols" := fldC_one cl_Signature nf_Signature_symbols
  refine ⟨PySem.W.fnOf "law" "law" (defArgs s_law) (defBody s_law) (defScope s_law) .none kV40 dc40 pm40 an40 (cd40) ct40, [(cA7, cP7)], spD K (f_law cSignature), ?_, ?_, ?_, fun s v => .of_eq rfl, fun H a ns hl hT hS => law_sp (tabs_nil hT rfl) hS (hlaw cSignature ns hl), fun base Kb Gb TB => ?_⟩
  · simp only [List.forall_mem_cons, List.not_mem_nil, false_implies, implies_true, and_true]; exact t7
  · simp only [List.forall_mem_cons, List.not_mem_nil, false_implies, implies_true, and_true]; exact nl7
  · simp only [List.forall_mem_cons, List.not_mem_nil, false_implies, implies_true, and_true]; exact PySem.W.codeHd_of_K X h7
  have T7 : LamT base mg cA7 cP7 "keyed_writing" := ⟨TB (cA7, cP7) (List.mem_cons_self ..), (List.mem_cons_self ..), by
    intro z hz e
    have hz : z ∈ ([(cP7, lamQ "keyed_writing")] : List (Addr × Str)) := hz
    simp only [List.mem_cons, List.not_mem_nil, or_false] at hz
    rcases hz with rfl
    · exact rfl⟩
  have D0 : DF l.prog w K mg base "_consists_of" 1 ["text", "allowed"] f_consists_of := ⟨f0, _, g0, F0.kp, b0, (ok_consists_of (P := l.prog) (w := w) (base := base) F0 )⟩
  have D1 : DF l.prog w K mg base "is_symbol_name" 2 ["text"] f_is_symbol_name := ⟨f1, _, g1, F1.kp, b1, (ok_is_symbol_name (P := l.prog) (w := w) (base := base) F1 D0 z_len g_DIGITS g_SMALL_LETTERS)⟩
  have D2 : DF l.prog w K mg base "_arguments_backwards" 1 ["place", "part"] f_arguments_backwards := ⟨f2, _, g2, F2.kp, b2, (ok_arguments_backwards (P := l.prog) (w := w) (base := base) F2 z_isinstance z_len z_range z_reversed z_str)⟩
  have D3 : DF l.prog w K mg base "parts_with_places" 2 ["term"] f_parts_with_places := ⟨f3, _, g3, F3.kp, b3, (ok_parts_with_places (P := l.prog) (w := w) (base := base) F3 D2 z_tuple)⟩
  have D4 : DMt l.prog w K mg base cSignature "rank" 1 ["self", "name"] (f_Signature_rank cSignature) := ⟨cl_Signature, f4, _, ⟨a4, i4, k4⟩, b4, (ok_Signature_rank (P := l.prog) (w := w) (base := base) (cSignature := cSignature) F4 A_Signature_ranks)⟩
  have D5 : DF l.prog w K mg base "sign_order" 2 ["signature", "term"] (f_sign_order cSignature) := ⟨f5, _, g5, F5.kp, b5, (ok_sign_order (P := l.prog) (w := w) (base := base) (cSignature := cSignature) F5 D4 z_isinstance z_len z_str z_digits)⟩
  have D6 : DMt l.prog w K mg base cSignature "is_two_way" 1 ["self", "name"] (f_Signature_is_two_way cSignature) := ⟨cl_Signature, f6, _, ⟨a6, i6, k6⟩, b6, (ok_Signature_is_two_way (P := l.prog) (w := w) (base := base) (cSignature := cSignature) F6 A_Signature_ranks A_Signature_symbols)⟩
  have D7 : DF l.prog w K mg base "keyed_writing" 67 ["signature", "term"] (f_keyed_writing cSignature) := ⟨f7, _, g7, F7.kp, b7, (ok2_keyed_writing (P := l.prog) (w := w) (base := base) (cSignature := cSignature) F7 D5 D6 z_isinstance z_sorted z_str z_tuple T7 rfl g7 b7 64)⟩
  have D8 : DF l.prog w K mg base "likeness" 68 ["signature", "term"] (f_likeness cSignature) := ⟨f8, _, g8, F8.kp, b8, (ok_likeness (P := l.prog) (w := w) (base := base) (cSignature := cSignature) F8 D7)⟩
  have D9 : DF l.prog w K mg base "are_alike" 69 ["signature", "one", "two"] (f_are_alike cSignature) := ⟨f9, _, g9, F9.kp, b9, (ok_are_alike (P := l.prog) (w := w) (base := base) (cSignature := cSignature) F9 D8)⟩
  have D10 : DF l.prog w K mg base "is_two_way_part" 2 ["signature", "part"] (f_is_two_way_part cSignature) := ⟨f10, _, g10, F10.kp, b10, (ok_is_two_way_part (P := l.prog) (w := w) (base := base) (cSignature := cSignature) F10 D6 z_isinstance z_str)⟩
  have D11 : DF l.prog w K mg base "two_way_places" 3 ["signature", "term"] (f_two_way_places cSignature) := ⟨f11, _, g11, F11.kp, b11, (ok_two_way_places (P := l.prog) (w := w) (base := base) (cSignature := cSignature) F11 D3 D10 z_tuple)⟩
  have D12 : DF l.prog w K mg base "_is_even_part" 70 ["signature", "part"] (f_is_even_part cSignature) := ⟨f12, _, g12, F12.kp, b12, (ok_is_even_part (P := l.prog) (w := w) (base := base) (cSignature := cSignature) F12 D9 D10)⟩
  have D13 : DF l.prog w K mg base "even_places" 71 ["signature", "term"] (f_even_places cSignature) := ⟨f13, _, g13, F13.kp, b13, (ok_even_places (P := l.prog) (w := w) (base := base) (cSignature := cSignature) F13 D3 D12 z_tuple)⟩
  have D14 : DF l.prog w K mg base "count_turnings" 72 ["signature", "term"] (f_count_turnings cSignature) := ⟨f14, _, g14, F14.kp, b14, (ok_count_turnings (P := l.prog) (w := w) (base := base) (cSignature := cSignature) F14 D11 D13 z_len)⟩
  have D15 : DF l.prog w K mg base "_below" 1 ["index", "places"] f_below := ⟨f15, _, g15, F15.kp, b15, (ok_below (P := l.prog) (w := w) (base := base) F15 z_tuple)⟩
  have D17 : DF l.prog w K mg base "_exchanges" 130 ["signature", "one", "two"] (f_exchanges cSignature) := ⟨f17, _, g17, F17.kp, b17, (ok2_exchanges (P := l.prog) (w := w) (base := base) (cSignature := cSignature) F17 D6 z_isinstance z_str D15 z_enumerate z_zip F16 g16 b16 g17 b17 64)⟩
  have D18 : DFK l.prog w K mg base "own_turnings" 131 ["signature", "term"] (f_own_turnings cSignature) := ⟨f18, _, g18, F18.kp, b18, (ok_own_turnings (P := l.prog) (w := w) (base := base) (cSignature := cSignature) F18 D17 z_len z_sorted z_tuple), q18⟩
  have D19 : DF l.prog w K mg base "_is_symbol" 3 ["name", "arity", "two_way"] f_is_symbol := ⟨f19, _, g19, F19.kp, b19, (ok_is_symbol (P := l.prog) (w := w) (base := base) F19 D1)⟩
  have D20 : DMk l.prog w K mg base cSignature "Signature" 4 ["self", "symbols"] (f_Signature_init cSignature) := ⟨PySem.W.mg_of X G aC_Signature, f20, _, ⟨mk_Signature, a20, i20, kc_Signature⟩, b20, ok_Signature_init (P := l.prog) (w := w) (base := base) (cSignature := cSignature) F20 D19 cl_Signature nf_Signature_ranks nf_Signature_symbols z_enumerate z_tuple⟩
  have D21 : DF l.prog w K mg base "_law_whole" 1 ["value"] f_law_whole := ⟨f21, _, g21, F21.kp, b21, (ok_law_whole (P := l.prog) (w := w) (base := base) F21 z_bool z_int z_isinstance)⟩
  have D22 : DF l.prog w K mg base "_law_cell" 1 ["script", "k"] f_law_cell := ⟨f22, _, g22, F22.kp, b22, (ok_law_cell (P := l.prog) (w := w) (base := base) F22 z_int z_len)⟩
  have D23 : DF l.prog w K mg base "_law_digits" 1 ["cell", "sizes"] f_law_digits := ⟨f23, _, g23, F23.kp, b23, (ok_law_digits (P := l.prog) (w := w) (base := base) F23 z_int z_len z_range)⟩
  have D24 : DF l.prog w K mg base "_law_label" 1 ["number"] f_law_label := ⟨f24, _, g24, F24.kp, b24, (ok_law_label (P := l.prog) (w := w) (base := base) F24 z_int z_range)⟩
  have D25 : DF l.prog w K mg base "_law_labels" 2 ["row", "many"] f_law_labels := ⟨f25, _, g25, F25.kp, b25, (ok_law_labels (P := l.prog) (w := w) (base := base) F25 D24 z_int z_range)⟩
  have D26 : DF l.prog w K mg base "_law_symbols" 3 ["script", "at"] f_law_symbols := ⟨f26, _, g26, F26.kp, b26, (ok_law_symbols (P := l.prog) (w := w) (base := base) F26 D22 D23 D25 z_int z_len z_range)⟩
  have D27 : DF l.prog w K mg base "_law_variables" 2 ["cell"] f_law_variables := ⟨f27, _, g27, F27.kp, b27, (ok_law_variables (P := l.prog) (w := w) (base := base) F27 D23 z_int z_range z_str)⟩
  have D28 : DF l.prog w K mg base "_law_turned" 64 ["two", "writing", "row", "at"] f_law_turned := ⟨f28, _, g28, F28.kp, b28, (ok2_law_turned (P := l.prog) (w := w) (base := base) F28 z_int z_isinstance z_len z_str z_tuple g28 b28 64)⟩
  have D29 : DF l.prog w K mg base "_law_renamed" 64 ["writing", "names"] f_law_renamed := ⟨f29, _, g29, F29.kp, b29, (ok2_law_renamed (P := l.prog) (w := w) (base := base) F29 z_isinstance z_len z_str z_tuple g29 b29 64)⟩
  have D30 : DF l.prog w K mg base "_law_term" 128 ["symbols", "names", "row", "at", "room", "turns", "copies"] f_law_term := ⟨f30, _, g30, F30.kp, b30, (ok2_law_term (P := l.prog) (w := w) (base := base) F30 D28 D29 z_int z_len g30 b30 64)⟩
  have D31 : DF l.prog w K mg base "_law_places" 64 ["writing", "place"] f_law_places := ⟨f31, _, g31, F31.kp, b31, (ok2_law_places (P := l.prog) (w := w) (base := base) F31 z_isinstance z_len z_range z_str g31 b31 64)⟩
  have D32 : DF l.prog w K mg base "_law_form" 64 ["two", "writing"] f_law_form := ⟨f32, _, g32, F32.kp, b32, (ok2_law_form (P := l.prog) (w := w) (base := base) F32 z_isinstance z_repr z_str z_tuple g32 b32 64)⟩
  have D33 : DF l.prog w K mg base "_law_crossed" 65 ["two", "writing"] f_law_crossed := ⟨f33, _, g33, F33.kp, b33, (ok_law_crossed (P := l.prog) (w := w) (base := base) F33 D31 z_isinstance z_str)⟩
  have D34 : DF l.prog w K mg base "_law_even" 66 ["two", "writing"] f_law_even := ⟨f34, _, g34, F34.kp, b34, (ok_law_even (P := l.prog) (w := w) (base := base) F34 D32 D33)⟩
  have D35 : DF l.prog w K mg base "_law_exchanged" 64 ["writing", "at", "places"] f_law_exchanged := ⟨f35, _, g35, F35.kp, b35, (ok2_law_exchanged (P := l.prog) (w := w) (base := base) F35 z_isinstance z_len z_range z_str z_tuple g35 b35 64)⟩
  have D36 : DF l.prog w K mg base "_law_same_place" 2 ["found", "place"] f_law_same_place := ⟨f36, _, g36, F36.kp, b36, (ok_law_same_place (P := l.prog) (w := w) (base := base) F36 D21 z_isinstance z_len z_tuple)⟩
  have D37 : DF l.prog w K mg base "_law_same_places" 3 ["found", "places"] f_law_same_places := ⟨f37, _, g37, F37.kp, b37, (ok_law_same_places (P := l.prog) (w := w) (base := base) F37 D36 z_isinstance z_len z_range z_tuple)⟩
  have D38 : DF l.prog w K mg base "_law_own" 65 ["writing", "known"] f_law_own := ⟨f38, _, g38, F38.kp, b38, (ok_law_own (P := l.prog) (w := w) (base := base) F38 D35 z_len z_sorted)⟩
  have D39 : DF l.prog w K mg base "_law_tells_own" 132 ["alphabet", "two", "writing"] (f_law_tells_own cSignature) := ⟨f39, _, g39, F39.kp, b39, (ok_law_tells_own (P := l.prog) (w := w) (base := base) (cSignature := cSignature) F39 D14 D18 D21 D33 D34 D37 D38 z_isinstance z_len z_range z_tuple)⟩
  exact ok_law (cSignature := cSignature) F40 D20 D22 D23 D26 D27 D28 D30 D39 A_Signature_symbols z_tuple
end My

set_option Elab.async false
set_option linter.all false
set_option maxRecDepth 100000
set_option maxHeartbeats 2000000
/-! Values as data: the mirrors' words, opened by simp; loops by what holds between their turns. -/
namespace Dl
open PySem PySem.Spec PyProof.Rows L2
theorem frzL_range (env : En) : ∀ k, frzL (List.range k) env = (env.take k).map frz ++ env.drop k
  | 0 => by simp [frzL]
  | k + 1 => by
    have ih := frzL_range env k
    unfold frzL at ih ⊢
    rw [List.range_succ, List.foldl_append, ih]
    show frzAt k _ = _
    unfold frzAt
    by_cases hk : k < env.length
    · have hl : ((env.take k).map frz).length = k := by rw [List.length_map, List.length_take]; omega
      have hd : env.drop k = env[k] :: env.drop (k + 1) := List.drop_eq_getElem_cons hk
      have hg : ((env.take k).map frz ++ env.drop k)[k]? = some env[k] := by
        rw [List.getElem?_append_right (by omega), hl, Nat.sub_self, hd]
        rfl
      rw [hg]
      show ((env.take k).map frz ++ env.drop k).set k (frz env[k]) = _
      rw [List.set_append_right _ _ (by omega), hl, Nat.sub_self, hd]
      rw [List.set_cons_zero]
      rw [List.take_succ_eq_append_getElem hk, List.map_append]
      simp
    · have h1 : env.drop k = [] := List.drop_eq_nil_of_le (by omega)
      have h2 : env.drop (k + 1) = [] := List.drop_eq_nil_of_le (by omega)
      rw [h1, h2, List.append_nil, List.append_nil, List.take_of_length_le (by omega), List.take_of_length_le (by omega), List.set_eq_of_length_le (by rw [List.length_map]; omega)]
theorem frzAll_map (env : En) : frzAll env = env.map frz := by
  unfold frzAll
  rw [frzL_range, List.take_length, List.drop_length, List.append_nil]
@[simp] theorem e_frzAll (env : En) : frzAll env = env.map frz := frzAll_map env
@[simp] theorem e_frz1 (ds : List D) : frz (some (.own ds)) = some (.val (.lst ds)) := rfl
@[simp] theorem e_frz2 (ks : List Key) (ds : List D) : frz (some (.ownd ks ds)) = some (.val (.dic ks ds)) := rfl
@[simp] theorem e_frz3 (d : D) : frz (some (.val d)) = some (.val d) := rfl
@[simp] theorem e_frz4 : frz none = none := rfl
@[simp] theorem e_frzL0 (env : En) : frzL [] env = env := rfl
@[simp] theorem e_frzL1 (i : Nat) (is : List Nat) (env : En) : frzL (i :: is) env = frzL is (frzAt i env) := rfl
@[simp] theorem e_frzAt (i : Nat) (env : En) : frzAt i env = env.set i (frz (env[i]?.getD none)) := rfl
@[simp] theorem e_seqM (m n : En → Option Out) (env : En) : seqM m n env = (m env).bind fun
  | .nx env' => n env'
  | o => some o := rfl
@[simp] theorem e_setM (i : Nat) (m : En → Option D) (env : En) : setM i m env = (m env).bind fun d => some (.nx (env.set i (some (.val d)))) := rfl
@[simp] theorem e_setOwnM (i : Nat) (m : En → Option (List D)) (env : En) : setOwnM i m env = (m env).bind fun d => some (.nx (env.set i (some (.own d)))) := rfl
@[simp] theorem e_setOwndM (i : Nat) (m : En → Option (List Key × List D)) (env : En) : setOwndM i m env = (m env).bind fun d => some (.nx (env.set i (some (.ownd d.1 d.2)))) := rfl
@[simp] theorem e_retM (m : En → Option D) (env : En) : retM m env = (m env).bind fun d => some (.rt d) := rfl
@[simp] theorem e_exprM (m : En → Option D) (env : En) : exprM m env = (m env).bind fun d => some (.nx env) := rfl
@[simp] theorem e_ifM (c : En → Option Bool) (m n : En → Option Out) (env : En) : ifM c m n env = (c env).bind fun b => if b = true then m env else n env := rfl
@[simp] theorem e_ifV (c : En → Option Bool) (m n : En → Option D) (env : En) : ifV c m n env = (c env).bind fun b => if b = true then m env else n env := rfl
@[simp] theorem e_boolM (m : En → Option D) (env : En) : boolM m env = (m env).bind bl1 := by
  unfold boolM
  cases h : m env with
  | none => rfl
  | some d => cases d <;> rfl
@[simp] theorem e_bl1 (b : Bool) : bl1 (.bl b) = some b := rfl
@[simp] theorem e_andM (m n : En → Option Bool) (env : En) : andM m n env = (m env).bind fun b => if b = true then n env else some false := rfl
@[simp] theorem e_orM (m n : En → Option Bool) (env : En) : orM m n env = (m env).bind fun b => if b = true then some true else n env := rfl
@[simp] theorem e_notM (m : En → Option Bool) (env : En) : notM m env = (m env).bind fun b => some (!b) := rfl
@[simp] theorem e_andV (m n : En → Option D) (env : En) : andV m n env = (m env).bind fun d => (bl1 d).bind fun b => if b = true then n env else some (.bl false) := rfl
@[simp] theorem e_orV (m n : En → Option D) (env : En) : orV m n env = (m env).bind fun d => (bl1 d).bind fun b => if b = true then some (.bl true) else n env := rfl
@[simp] theorem e_notV (m : En → Option D) (env : En) : notV m env = (m env).bind fun d => (bl1 d).bind fun b => some (.bl (!b)) := rfl
@[simp] theorem e_bind2 (a b : En → Option D) (f : D → D → Option D) (env : En) : bind2 a b f env = (a env).bind fun d => (b env).bind fun e => f d e := rfl
@[simp] theorem e_bind3 (a b c : En → Option D) (f : D → D → D → Option D) (env : En) : bind3 a b c f env = (a env).bind fun d => (b env).bind fun e => (c env).bind fun g => f d e g := rfl
@[simp] theorem e_consM (m : En → Option D) (ms : En → Option (List D)) (env : En) : consM m ms env = (m env).bind fun d => (ms env).bind fun ds => some (d :: ds) := rfl
@[simp] theorem e_callM (f : List D → Option D) (ms : En → Option (List D)) (env : En) : callM f ms env = (ms env).bind f := rfl
@[simp] theorem e_tupM (ms : En → Option (List D)) (env : En) : tupM ms env = (ms env).bind fun ds => if ds.length ≤ 100000 then some (.tup ds) else none := rfl
@[simp] theorem e_lstM (ms : En → Option (List D)) (env : En) : lstM ms env = (ms env).bind fun ds => if ds.length ≤ 100000 then some (.lst ds) else none := rfl
@[simp] theorem e_asLst (ms : En → Option (List D)) (env : En) : asLst ms env = (ms env).bind fun ds => some (.lst ds) := rfl
@[simp] theorem e_asDic (ms : En → Option (List Key × List D)) (env : En) : asDic ms env = (ms env).bind fun r => some (.dic r.1 r.2) := rfl
@[simp] theorem e_nameV (i : Nat) (env : En) : nameV i env = match env[i]? with
  | some (some (.val d)) => some d
  | _ => none := rfl
@[simp] theorem e_nameR (i : Nat) (env : En) : nameR i env = match env[i]? with
  | some (some (.val d)) => some d
  | some (some (.own ds)) => some (.lst ds)
  | some (some (.ownd ks ds)) => some (.dic ks ds)
  | _ => none := rfl
@[simp] theorem e_ownAt (i : Nat) (env : En) : ownAt i env = match env[i]? with
  | some (some (.own ds)) => some ds
  | _ => none := rfl
@[simp] theorem e_owndAt (i : Nat) (env : En) : owndAt i env = match env[i]? with
  | some (some (.ownd ks ds)) => some (ks, ds)
  | _ => none := rfl
@[simp] theorem e_appM (i : Nat) (m : En → Option D) (env : En) : appM i m env = (ownAt i env).bind fun ds => (m env).bind fun d => if ds.length < 100000 then some (.nx (env.set i (some (.own (ds ++ [d]))))) else none := rfl
@[simp] theorem e_dputM (i : Nat) (mk m : En → Option D) (env : En) : dputM i mk m env = (m env).bind fun d => (owndAt i env).bind fun p => (mk env).bind fun kd => (keyD kd).bind fun k => if p.1.length < 100000 then some (.nx (env.set i (some (.ownd (putD p.1 p.2 k d).1 (putD p.1 p.2 k d).2)))) else none := rfl
@[simp] theorem e_slM (m : En → Option D) (ml mh : En → Option (Option Int)) (env : En) : slM m ml mh env = (m env).bind fun d => (ml env).bind fun lo => (mh env).bind fun hi => slD d lo hi := rfl
@[simp] theorem e_partM (m : En → Option D) (env : En) : partM m env = match m env with
  | some (.int i) => some (some i)
  | _ => none := rfl
@[simp] theorem e_bndN (i : Nat) (d : D) (env : En) : bndN i d env = some (env.set i (some (.val d))) := rfl
@[simp] theorem e_bndNil (ds : List D) (env : En) : bndNil ds env = some env := rfl
@[simp] theorem e_bndC (f : D → En → Option En) (fs : List D → En → Option En) (d : D) (ds : List D) (env : En) : bndC f fs (d :: ds) env = (f d env).bind fun env' => fs ds env' := rfl
@[simp] theorem e_bndT (n : Nat) (fs : List D → En → Option En) (ds : List D) (env : En) : bndT n fs (.tup ds) env = if ds.length = n then fs ds env else none := rfl
@[simp] theorem e_wipe0 (env : En) : wipeE env [] = env := rfl
@[simp] theorem e_wipe1 (env : En) (v : Nat) (vs : List Nat) : wipeE env (v :: vs) = (wipeE env vs).set v none := rfl
@[simp] theorem e_add (i j : Int) : addD (.int i) (.int j) = some (.int (i + j)) := rfl
@[simp] theorem e_sub (i j : Int) : subD (.int i) (.int j) = some (.int (i - j)) := rfl
@[simp] theorem e_neg (i : Int) : negD (.int i) = some (.int (-i)) := rfl
@[simp] theorem e_cmp (f : Int → Int → Bool) (i j : Int) : cmpD f (.int i) (.int j) = some (.bl (f i j)) := rfl
@[simp] theorem e_int1 (i : Int) : intD [.int i] = some (.int i) := rfl
@[simp] theorem e_int2 (b : Bool) : intD [.bl b] = some (.int (if b then 1 else 0)) := rfl
@[simp] theorem e_lenL (ds : List D) : lenD [.lst ds] = some (.int ds.length) := rfl
@[simp] theorem e_lenS (ds : List D) : lenD [.scr ds] = some (.int ds.length) := rfl
@[simp] theorem e_lenT (ds : List D) : lenD [.tup ds] = some (.int ds.length) := rfl
@[simp] theorem e_lenD (ks : List Key) (ds : List D) : lenD [.dic ks ds] = some (.int ks.length) := rfl
@[simp] theorem e_min (i j : Int) : minD [.int i, .int j] = some (.int (if j < i then j else i)) := rfl
@[simp] theorem e_max (i j : Int) : maxD [.int i, .int j] = some (.int (if j > i then j else i)) := rfl
@[simp] theorem e_tuple1 (ds : List D) : tupleD [.lst ds] = some (.tup ds) := rfl
@[simp] theorem e_tuple2 (ds : List D) : tupleD [.tup ds] = some (.tup ds) := rfl
@[simp] theorem e_list1 (ds : List D) : listD [.lst ds] = some ds := rfl
@[simp] theorem e_list2 (ds : List D) : listD [.tup ds] = some ds := rfl
@[simp] theorem e_ixL (ds : List D) (i : Int) : ixD (.lst ds) (.int i) = atI ds i := rfl
@[simp] theorem e_ixS (ds : List D) (i : Int) : ixD (.scr ds) (.int i) = atI ds i := rfl
@[simp] theorem e_ixT (ds : List D) (i : Int) : ixD (.tup ds) (.int i) = atI ds i := rfl
@[simp] theorem e_slL (ds : List D) (lo hi : Option Int) : slD (.lst ds) lo hi = some (.lst (cutL ds lo hi)) := rfl
@[simp] theorem e_slT (ds : List D) (lo hi : Option Int) : slD (.tup ds) lo hi = some (.tup (cutL ds lo hi)) := rfl
@[simp] theorem e_keyI (i : Int) : keyD (.int i) = some (.inl i) := rfl
@[simp] theorem e_keyS (s : Str) : keyD (.str s) = some (.inr s) := rfl
@[simp] theorem e_lcM (vs : List Nat) (mi : En → Option (List D)) (bnd : D → En → Option En) (tst : En → Option Bool) (elt : En → Option D) (env : En) : lcM vs mi bnd tst elt env = (mi env).bind fun ds => if ds.length ≤ 100000 then compM bnd tst elt (wipeE env vs) ds else none := rfl
@[simp] theorem e_dcM (vs : List Nat) (mi : En → Option (List D)) (bnd : D → En → Option En) (tst : En → Option Bool) (mk mv : En → Option D) (env : En) : dcM vs mi bnd tst mk mv env = (mi env).bind fun ds => if ds.length ≤ 100000 then dcompM bnd tst mk mv (wipeE env vs) ds [] [] else none := rfl
@[simp] theorem e_forM (mi : En → Option (List D)) (bnd : D → En → Option En) (body : En → Option Out) (env : En) : forM mi bnd body env = (mi env).bind fun ds => forM' bnd body ds env := rfl
@[simp] theorem e_itemsA (m : En → Option D) (env : En) : itemsA m env = match m env with
  | some (.lst ds) => some ds
  | some (.scr ds) => some ds
  | some (.tup ds) => some ds
  | some (.str s) => some (strD s)
  | _ => none := rfl
@[simp] theorem e_rngM1 (ms : En → Option (List D)) (env : En) : rngM1 ms env = match ms env with
  | some [.int j] => if j ≤ 1000000 ∧ -1000000 ≤ j then some (rngD 0 j.toNat) else none
  | _ => none := rfl
@[simp] theorem e_bodyM (np n : Nat) (m : En → Option Out) (ds : List D) : bodyM np n m ds = if ds.length = np then (m (ds.map (fun d => some (Sl.val d)) ++ List.replicate (n - ds.length) none)).bind fun
  | .rt d => some d
  | .nx _ => some .non
  | _ => none else none := rfl
theorem atI_at {α : Type} {xs : List α} {k : Nat} {v : α} (h : xs[k]? = some v) : atI xs (k : Int) = some v := atI_nat h
/-- a loop that runs through, by what holds between its turns -/
theorem for_from {bnd : D → En → Option En} {body : En → Option Out} (P : Nat → En → Prop) : ∀ (ds : List D) (i : Nat) (env : En), P i env →
    (∀ (j : Nat) (d : D) (env : En), ds[j]? = some d → P (i + j) env → ∃ e1 env', bnd d env = some e1 ∧ body e1 = some (.nx env') ∧ P (i + j + 1) env') → ∃ env', forM' bnd body ds env = some (.nx env') ∧ P (i + ds.length) env'
  | [], i, env, p, _ => ⟨env, rfl, p⟩
  | d :: ds, i, env, p, hs => by
    obtain ⟨e1, env', h1, h2, h3⟩ := hs 0 d env rfl p
    obtain ⟨env2, h4, h5⟩ := for_from P ds (i + 1) env' h3 fun j d' en e q => by
      have := hs (j + 1) d' en (by simpa using e) (by rw [show i + (j + 1) = i + 1 + j by omega]; exact q)
      rw [show i + 1 + j + 1 = i + (j + 1) + 1 by omega]
      exact this
    refine ⟨env2, ?_, by rw [List.length_cons, show i + (ds.length + 1) = i + 1 + ds.length by omega]; exact h5⟩
    unfold forM'
    simp [h1, h2, h4]
theorem for_ok {bnd : D → En → Option En} {body : En → Option Out} (P : Nat → En → Prop) {ds : List D} {env : En} (p : P 0 env) (hs : ∀ (j : Nat) (d : D) (env : En), ds[j]? = some d → P j env → ∃ e1 env', bnd d env = some e1 ∧ body e1 = some (.nx env') ∧ P (j + 1) env') : ∃ env', forM' bnd body ds env = some (.nx env') ∧ P ds.length env' := by
  have := for_from P ds 0 env p (fun j d en e q => by
    have := hs j d en e (by simpa using q)
    simpa using this)
  simpa using this
/-- .. as a fold over a state that the slots tell -/
theorem for_fold {bnd : D → En → Option En} {body : En → Option Out} {α β : Type} (enc : α → D) (R : β → En → Prop) (step : β → α → β) : ∀ (xs : List α) (b : β) (env : En), R b env →
    (∀ (x : α) (b : β) (env : En), x ∈ xs → R b env → ∃ e1 env', bnd (enc x) env = some e1 ∧ body e1 = some (.nx env') ∧ R (step b x) env') → ∃ env', forM' bnd body (xs.map enc) env = some (.nx env') ∧ R (xs.foldl step b) env'
  | [], b, env, p, _ => ⟨env, rfl, p⟩
  | x :: xs, b, env, p, hs => by
    obtain ⟨e1, env', h1, h2, h3⟩ := hs x b env (List.mem_cons_self ..) p
    obtain ⟨env2, h4, h5⟩ := for_fold enc R step xs (step b x) env' h3 fun y b' en hy q => hs y b' en (List.mem_cons_of_mem _ hy) q
    refine ⟨env2, ?_, h5⟩
    show forM' bnd body (enc x :: xs.map enc) env = _
    unfold forM'
    simp [h1, h2, h4]
/-- comprehensions -/
theorem comp_map {bnd : D → En → Option En} {tst : En → Option Bool} {elt : En → Option D} {env : En} {f : D → D} : ∀ {ds : List D}, (∀ d ∈ ds, ∃ e1, bnd d env = some e1 ∧ tst e1 = some true ∧ elt e1 = some (f d)) → compM bnd tst elt env ds = some (ds.map f)
  | [], _ => rfl
  | d :: ds, h => by
    obtain ⟨e1, h1, h2, h3⟩ := h d (List.mem_cons_self ..)
    have ih := comp_map fun d' hd => h d' (List.mem_cons_of_mem _ hd)
    unfold compM
    simp [h1, h2, h3, ih]
theorem comp_filter {bnd : D → En → Option En} {tst : En → Option Bool} {elt : En → Option D} {env : En} {p : D → Bool} {f : D → D} : ∀ {ds : List D}, (∀ d ∈ ds, ∃ e1, bnd d env = some e1 ∧ tst e1 = some (p d) ∧ (p d = true → elt e1 = some (f d))) → compM bnd tst elt env ds = some ((ds.filter p).map f)
  | [], _ => rfl
  | d :: ds, h => by
    obtain ⟨e1, h1, h2, h3⟩ := h d (List.mem_cons_self ..)
    have ih := comp_filter fun d' hd => h d' (List.mem_cons_of_mem _ hd)
    unfold compM
    cases hp : p d with
    | true => simp [h1, h2, hp, h3 hp, ih]
    | false => simp [h1, h2, hp, ih]
end Dl

set_option Elab.async false
set_option linter.all false
set_option maxRecDepth 100000
set_option maxHeartbeats 2000000
/-! The mirrors' words opened one value at a time: what comes later waits until what comes first is a value. -/
namespace Dl
open PySem PySem.Spec PyProof.Rows L2
@[simp high] theorem g_seqM (m n : En → Option Out) (env : En) : seqM m n env = match m env with
  | some (.nx env') => n env'
  | some o => some o
  | none => none := by
  rw [e_seqM]
  cases h : m env with
  | none => rfl
  | some o => cases o <;> rfl
@[simp high] theorem g_setM (i : Nat) (m : En → Option D) (env : En) : setM i m env = match m env with
  | some d => some (.nx (env.set i (some (.val d))))
  | none => none := by
  rw [e_setM]; cases m env <;> rfl
@[simp high] theorem g_retM (m : En → Option D) (env : En) : retM m env = match m env with
  | some d => some (.rt d)
  | none => none := by
  rw [e_retM]; cases m env <;> rfl
@[simp high] theorem g_ifM (c : En → Option Bool) (m n : En → Option Out) (env : En) : ifM c m n env = match c env with
  | some true => m env
  | some false => n env
  | none => none := by
  rw [e_ifM]
  cases h : c env with
  | none => rfl
  | some b => cases b <;> rfl
@[simp high] theorem g_ifV (c : En → Option Bool) (m n : En → Option D) (env : En) : ifV c m n env = match c env with
  | some true => m env
  | some false => n env
  | none => none := by
  rw [e_ifV]
  cases h : c env with
  | none => rfl
  | some b => cases b <;> rfl
@[simp high] theorem g_boolM (m : En → Option D) (env : En) : boolM m env = match m env with
  | some d => bl1 d
  | none => none := by
  rw [e_boolM]; cases m env <;> rfl
@[simp high] theorem g_andM (m n : En → Option Bool) (env : En) : andM m n env = match m env with
  | some true => n env
  | some false => some false
  | none => none := by
  rw [e_andM]
  cases h : m env with
  | none => rfl
  | some b => cases b <;> rfl
@[simp high] theorem g_orM (m n : En → Option Bool) (env : En) : orM m n env = match m env with
  | some true => some true
  | some false => n env
  | none => none := by
  rw [e_orM]
  cases h : m env with
  | none => rfl
  | some b => cases b <;> rfl
@[simp high] theorem g_notM (m : En → Option Bool) (env : En) : notM m env = match m env with
  | some b => some (!b)
  | none => none := by
  rw [e_notM]; cases m env <;> rfl
@[simp high] theorem g_andV (m n : En → Option D) (env : En) : andV m n env = match m env with
  | some (.bl true) => n env
  | some (.bl false) => some (.bl false)
  | _ => none := by
  rw [e_andV]
  cases h : m env with
  | none => rfl
  | some d => cases d with
    | bl b => cases b <;> rfl
    | _ => rfl
@[simp high] theorem g_orV (m n : En → Option D) (env : En) : orV m n env = match m env with
  | some (.bl true) => some (.bl true)
  | some (.bl false) => n env
  | _ => none := by
  rw [e_orV]
  cases h : m env with
  | none => rfl
  | some d => cases d with
    | bl b => cases b <;> rfl
    | _ => rfl
@[simp high] theorem g_bind2 (a b : En → Option D) (f : D → D → Option D) (env : En) : bind2 a b f env = match a env with
  | some d => (match b env with
    | some e => f d e
    | none => none)
  | none => none := by
  rw [e_bind2]
  cases a env with
  | none => rfl
  | some d => cases b env <;> rfl
@[simp high] theorem g_consM (m : En → Option D) (ms : En → Option (List D)) (env : En) : consM m ms env = match m env with
  | some d => (match ms env with
    | some ds => some (d :: ds)
    | none => none)
  | none => none := by
  rw [e_consM]
  cases m env with
  | none => rfl
  | some d => cases ms env <;> rfl
@[simp high] theorem g_callM (f : List D → Option D) (ms : En → Option (List D)) (env : En) : callM f ms env = match ms env with
  | some ds => f ds
  | none => none := by
  rw [e_callM]; cases ms env <;> rfl
@[simp high] theorem g_tupM (ms : En → Option (List D)) (env : En) : tupM ms env = match ms env with
  | some ds => if ds.length ≤ 100000 then some (.tup ds) else none
  | none => none := by
  rw [e_tupM]; cases ms env <;> rfl
@[simp high] theorem g_lstM (ms : En → Option (List D)) (env : En) : lstM ms env = match ms env with
  | some ds => if ds.length ≤ 100000 then some (.lst ds) else none
  | none => none := by
  rw [e_lstM]; cases ms env <;> rfl
@[simp high] theorem g_asLst (ms : En → Option (List D)) (env : En) : asLst ms env = match ms env with
  | some ds => some (.lst ds)
  | none => none := by
  rw [e_asLst]; cases ms env <;> rfl
@[simp high] theorem g_lcM (vs : List Nat) (mi : En → Option (List D)) (bnd : D → En → Option En) (tst : En → Option Bool) (elt : En → Option D) (env : En) : lcM vs mi bnd tst elt env = match mi env with
  | some ds => if ds.length ≤ 100000 then compM bnd tst elt (wipeE env vs) ds else none
  | none => none := by
  rw [e_lcM]; cases mi env <;> rfl
@[simp high] theorem g_forM (mi : En → Option (List D)) (bnd : D → En → Option En) (body : En → Option Out) (env : En) : forM mi bnd body env = match mi env with
  | some ds => forM' bnd body ds env
  | none => none := by
  rw [e_forM]; cases mi env <;> rfl
@[simp high] theorem g_listF (ms : En → Option (List D)) (env : En) : listF ms env = match ms env with
  | some ds => listD ds
  | none => none := by
  show (ms env).bind listD = _
  cases ms env <;> rfl
end Dl

set_option Elab.async false
set_option linter.all false
set_option maxRecDepth 100000
set_option maxHeartbeats 1000000
namespace My
open PySem PySem.Spec PyProof.Rows L2 Dl
theorem for_nil (bnd : D → En → Option En) (body : En → Option Out) (env : En) : forM' bnd body [] env = some (.nx env) := rfl
theorem for_cons (bnd : D → En → Option En) (body : En → Option Out) (d : D) (ds : List D) (env : En) : forM' bnd body (d :: ds) env = (bnd d env).bind fun e1 => (body e1).bind fun
    | .nx e => forM' bnd body ds e
    | .ct e => forM' bnd body ds e
    | .bk e => some (.nx e)
    | .rt d => some (.rt d) := rfl
theorem log_small {i : Int} (h : i.natAbs < 2 ^ 1000) : i.natAbs.log2 < 1000 := by
  by_cases h0 : i.natAbs = 0
  · rw [h0]; decide
  · exact (Nat.log2_lt h0).mpr h
theorem e_mul {i j : Int} (hi : i.natAbs < 2 ^ 1000) (hj : j.natAbs < 2 ^ 1000) : mulD (.int i) (.int j) = some (.int (i * j)) := by
  have h1 := log_small hi
  have h2 := log_small hj
  show (if i.natAbs.log2 + j.natAbs.log2 < 1000000 then some (D.int (i * j)) else none) = _
  rw [if_pos (by omega)]
theorem e_mod {i j : Int} (h : 0 < j) : modD (.int i) (.int j) = some (.int (i % j)) := by
  show (if 0 < j then some (D.int (i % j)) else none) = _
  rw [if_pos h]
theorem e_fdiv {i j : Int} (h : 0 < j) (hj : j.natAbs < 2 ^ 1000) : fdivD (.int i) (.int j) = some (.int (i / j)) := by
  have h2 := log_small hj
  show (if 0 < j ∧ j.natAbs.log2 < 9000 then some (D.int (i / j)) else none) = _
  rw [if_pos ⟨h, by omega⟩]
theorem big {i : Int} {b : Nat} (h : i.natAbs < b) (hb : b ≤ 2 ^ 64) : i.natAbs < 2 ^ 1000 := Nat.lt_of_lt_of_le h (Nat.le_trans hb (Nat.pow_le_pow_right (by decide) (by decide)))
/-! ### cells -/
theorem cell_loop (ns : List Int) : ∀ (l : List Int) (k seed : Int) (x3 : Option Sl), 0 ≤ seed → seed < 1000003 → ∃ seed' y3, 0 ≤ seed' ∧ seed' < 1000003 ∧
    forM' (bndN 3) l1_law_cell (l.map D.int) [some (.val (.scr (ns.map D.int))), some (.val (.int k)), some (.val (.int seed)), x3] = some (.nx [some (.val (.scr (ns.map D.int))), some (.val (.int k)), some (.val (.int seed')), y3])
  | [], k, seed, x3, h0, h1 => ⟨seed, x3, h0, h1, rfl⟩
  | c :: l, k, seed, x3, h0, h1 => by
    have hm : mulD (.int seed) (.int 31) = some (.int (seed * 31)) := e_mul (big (b := 2 ^ 64) (by omega) (by decide)) (big (b := 2 ^ 64) (by decide) (by decide))
    obtain ⟨s', y3, a0, a1, e⟩ := cell_loop ns l k ((seed * 31 + c % 1000003) % 1000003) (some (.val (.int c))) (Int.emod_nonneg _ (by decide)) (Int.emod_lt_of_pos _ (by decide))
    refine ⟨s', y3, a0, a1, ?_⟩
    rw [← e, List.map_cons, for_cons]
    simp [l1_law_cell, hm, e_mod]
theorem cell_ok (ns : List Int) (k : Nat) (hk : k ≤ 1000) : ∃ c, f_law_cell [.scr (ns.map D.int), .int (k : Int)] = some (.int c) := by
  by_cases h : k < ns.length
  · refine ⟨ns[k], ?_⟩
    unfold f_law_cell m_law_cell
    have hk : (ns.map D.int)[k]? = some (.int ns[k]) := by simp [h]
    simp [h, atI_at hk]
  · obtain ⟨s', y3, a0, a1, e⟩ := cell_loop ns ns k 17 none (by decide) (by decide)
    have h1 : mulD (.int (s' + 7)) (.int ((k : Int) + 3)) = some (.int ((s' + 7) * ((k : Int) + 3))) := e_mul (big (b := 2 ^ 64) (by omega) (by decide)) (big (b := 2 ^ 64) (by omega) (by decide))
    have h3 : ((s' + 7) * ((k : Int) + 3)).natAbs < 2 ^ 64 := by
      rw [Int.natAbs_mul]
      have b1 : (s' + 7).natAbs ≤ 1000010 := by omega
      have b2 : ((k : Int) + 3).natAbs ≤ 1003 := by omega
      exact Nat.lt_of_le_of_lt (Nat.mul_le_mul b1 b2) (by decide)
    have h2 : mulD (.int ((s' + 7) * ((k : Int) + 3))) (.int 69621) = some (.int ((s' + 7) * ((k : Int) + 3) * 69621)) := e_mul (big h3 (by decide)) (big (b := 2 ^ 64) (by decide) (by decide))
    refine ⟨(s' + 7) * ((k : Int) + 3) * 69621 % 2147483647, ?_⟩
    unfold f_law_cell m_law_cell
    simp [h, e, h1, h2, e_mod]
/-! ### digits -/
inductive Fits : List Int → List Int → Prop
  | nil : Fits [] []
  | cons {r s : Int} {rs ss : List Int} : 0 ≤ r → r < s → Fits rs ss → Fits (r :: rs) (s :: ss)
theorem Fits.len : ∀ {rs ss : List Int}, Fits rs ss → rs.length = ss.length
  | _, _, .nil => rfl
  | _, _, .cons _ _ t => congrArg (· + 1) t.len
theorem Fits.get : ∀ {rs ss : List Int} {i : Nat} {s : Int}, Fits rs ss → ss[i]? = some s → ∃ r, rs[i]? = some r ∧ 0 ≤ r ∧ r < s
  | _, _, _, _, .nil, e => by simp at e
  | _, _, 0, _, .cons h1 h2 _, e => by simp at e; subst e; exact ⟨_, rfl, h1, h2⟩
  | _, _, i + 1, s, .cons _ _ t, e => by
    obtain ⟨r, a, b⟩ := t.get (i := i) (s := s) (by simpa using e)
    exact ⟨r, by simpa using a, b⟩
def SizeOk (s : Int) : Prop := 0 < s ∧ s.natAbs < 2 ^ 1000
theorem dig1 (c : Int) (sz : List Int) (x4 x5 x7 : Option Sl) : ∀ (ss row : List Int) (rest : Int) (x6 : Option Sl), (∀ s ∈ ss, SizeOk s) → row.length + ss.length ≤ 1000 → ∃ row' rest' y6, Fits row' ss ∧
    forM' (bndN 6) l1_law_digits (ss.map D.int) [some (.val (.int c)), some (.val (.lst (sz.map D.int))), some (.own (row.map D.int)), some (.val (.int rest)), x4, x5, x6, x7] =
      some (.nx [some (.val (.int c)), some (.val (.lst (sz.map D.int))), some (.own ((row ++ row').map D.int)), some (.val (.int rest')), x4, x5, y6, x7])
  | [], row, rest, x6, _, _ => ⟨[], rest, x6, .nil, by simp [for_nil]⟩
  | s :: ss, row, rest, x6, h, hl => by
    obtain ⟨h1, h2⟩ := h s (List.mem_cons_self ..)
    obtain ⟨row', rest', y6, f, e⟩ := dig1 c sz x4 x5 x7 ss (row ++ [rest % s]) (rest / s) (some (.val (.int s))) (fun s' hs => h s' (List.mem_cons_of_mem _ hs)) (by simp at hl ⊢; omega)
    refine ⟨rest % s :: row', rest', y6, .cons (Int.emod_nonneg _ (by omega)) (Int.emod_lt_of_pos _ h1) f, ?_⟩
    rw [show row ++ rest % s :: row' = row ++ [rest % s] ++ row' by simp, ← e, List.map_cons, for_cons]
    have hlt : row.length < 100000 := by simp at hl; omega
    simp [l1_law_digits, e_mod h1, e_fdiv h1 h2, hlt]
theorem dig2 (c : Int) (sz : List Int) (r3 : Int) (x6 : Option Sl) (hsz : ∀ s ∈ sz, SizeOk s) (hl : sz.length ≤ 1000) : ∀ (n i : Nat) (row : List Int) (seed : Int) (x5 x7 : Option Sl), i + n = sz.length → row.length = i → 0 ≤ seed → seed < 2147483647 → ∃ row' seed' y5 y7, Fits row' (sz.drop i) ∧
    forM' (bndN 5) l2_law_digits ((List.range' i n).map fun (j : Nat) => D.int (j : Int)) [some (.val (.int c)), some (.val (.lst (sz.map D.int))), some (.own (row.map D.int)), some (.val (.int r3)), some (.val (.int seed)), x5, x6, x7] =
      some (.nx [some (.val (.int c)), some (.val (.lst (sz.map D.int))), some (.own ((row ++ row').map D.int)), some (.val (.int r3)), some (.val (.int seed')), y5, x6, y7])
  | 0, i, row, seed, x5, x7, hn, hr, h0, h1 => ⟨[], seed, x5, x7, by rw [List.drop_eq_nil_of_le (by omega)]; exact .nil, by simp [for_nil]⟩
  | n + 1, i, row, seed, x5, x7, hn, hr, h0, h1 => by
    have hi : i < sz.length := by omega
    obtain ⟨p1, p2⟩ := hsz sz[i] (List.getElem_mem hi)
    have hk : (sz.map D.int)[i]? = some (.int sz[i]) := by simp [hi]
    let s1 := (seed * 48271 + 974711 * (i : Int) + 12345) % 2147483647
    have s10 : 0 ≤ s1 := Int.emod_nonneg _ (by decide)
    have s11 : s1 < 2147483647 := Int.emod_lt_of_pos _ (by decide)
    let t1 := s1 * (s1 / 65537 + 3) % 2147483629
    obtain ⟨row', seed', y5, y7, f, e⟩ := dig2 c sz r3 x6 hsz hl n (i + 1) (row ++ [t1 / 19 % sz[i]]) s1 (some (.val (.int (i : Int)))) (some (.val (.int t1))) (by omega) (by simp [hr]) s10 s11
    refine ⟨t1 / 19 % sz[i] :: row', seed', y5, y7, ?_, ?_⟩
    · rw [List.drop_eq_getElem_cons hi]
      exact .cons (Int.emod_nonneg _ (by omega)) (Int.emod_lt_of_pos _ p1) f
    · rw [show row ++ t1 / 19 % sz[i] :: row' = row ++ [t1 / 19 % sz[i]] ++ row' by simp, ← e, List.range'_succ, List.map_cons, for_cons]
      have hlt : row.length < 100000 := by omega
      have m1 : mulD (.int seed) (.int 48271) = some (.int (seed * 48271)) := e_mul (big (b := 2 ^ 64) (by omega) (by decide)) (big (b := 2 ^ 64) (by decide) (by decide))
      have m2 : mulD (.int 974711) (.int (i : Int)) = some (.int (974711 * (i : Int))) := e_mul (big (b := 2 ^ 64) (by decide) (by decide)) (big (b := 2 ^ 64) (by omega) (by decide))
      have m3 : mulD (.int s1) (.int (s1 / 65537 + 3)) = some (.int (s1 * (s1 / 65537 + 3))) := e_mul (big (b := 2 ^ 64) (by omega) (by decide)) (big (b := 2 ^ 64) (by omega) (by decide))
      have d1 : fdivD (.int s1) (.int 65537) = some (.int (s1 / 65537)) := e_fdiv (by decide) (big (b := 2 ^ 64) (by decide) (by decide))
      have d2 : fdivD (.int t1) (.int 19) = some (.int (t1 / 19)) := e_fdiv (by decide) (big (b := 2 ^ 64) (by decide) (by decide))
      simp [l2_law_digits, m1, m2, e_mod, e_mod p1, atI_at hk, hlt]
      simp [show (seed * 48271 + 974711 * (i : Int) + 12345) % 2147483647 = s1 from rfl, d1, m3, e_mod]
      simp [show s1 * (s1 / 65537 + 3) % 2147483629 = t1 from rfl, d2, e_mod p1, atI_at hk, hlt]
theorem rngD_range (n : Nat) : rngD 0 n = (List.range' 0 n).map fun (j : Nat) => D.int (j : Int) := by
  unfold rngD
  rw [List.range_eq_range']
  simp
theorem e_pow18 : powD (.int 10) (.int 18) = some (.int 1000000000000000000) := by
  show (if (0 : Int) ≤ 18 ∧ (18 : Int) ≤ 1000000 ∧ (10 : Int).natAbs < 2 ^ 64 then some (D.int ((10 : Int) ^ (18 : Int).toNat)) else none) = _
  rw [if_pos (by decide)]
  rfl
theorem digits_ok (c : Int) (sz : List Int) (hsz : ∀ s ∈ sz, SizeOk s) (hl : sz.length ≤ 1000) : ∃ row, Fits row sz ∧ f_law_digits [.int c, .lst (sz.map D.int)] = some (.lst (row.map D.int)) := by
  by_cases h : (1000000000000000000 : Int) ≤ c
  · obtain ⟨row, rest', y6, f, e⟩ := dig1 c sz none none none sz [] (c - 1000000000000000000) none hsz (by simpa using hl)
    refine ⟨row, f, ?_⟩
    unfold f_law_digits m_law_digits
    simp [e_pow18, h, e] at e ⊢
    simp [e]
  · obtain ⟨row, seed', y5, y7, f, e⟩ := dig2 c sz c none hsz hl sz.length 0 [] (c % 2147483629) none none (by omega) rfl (Int.emod_nonneg _ (by decide)) (by have := Int.emod_lt_of_pos c (show (0 : Int) < 2147483629 by decide); omega)
    refine ⟨row, by simpa using f, ?_⟩
    unfold f_law_digits m_law_digits
    have hr : ((sz.length : Int) ≤ 1000000 ∧ -1000000 ≤ (sz.length : Int)) := by omega
    rw [← rngD_range] at e
    simp [e_pow18, h, e_mod, hr] at e ⊢
    simp [e]
/-! ### texts of bounded length -/
structure SLe (n : Nat) (s : Str) : Prop where
  len : s.length ≤ n
  cps : ∀ c ∈ s.cps.toList, c < 1114112
theorem SLe.mono {n m : Nat} {s : Str} (h : SLe n s) (hm : n ≤ m) : SLe m s := ⟨Nat.le_trans h.len hm, h.cps⟩
theorem SLe.append {n m : Nat} {s t : Str} (h : SLe n s) (h' : SLe m t) : SLe (n + m) (s ++ t) := by
  refine ⟨?_, fun c hc => ?_⟩
  · have e : (s ++ t).length = s.length + t.length := Str.length_append s t
    have := h.len; have := h'.len
    omega
  · have e : (s ++ t).cps = s.cps ++ t.cps := Str.cps_append s t
    rw [e, Array.toList_append, List.mem_append] at hc
    exact hc.elim (h.cps c) (h'.cps c)
theorem SLe.cut {n : Nat} {s : Str} (h : SLe n s) (lo hi : Option Int) : SLe n (cutS s lo hi) := by
  refine ⟨?_, fun c hc => ?_⟩
  · have h1 := h.len
    have h2 : s.cps.toList.length = s.length := by rw [Array.length_toList]; rfl
    unfold cutS
    show (Array.size _) ≤ n
    rw [List.size_toArray, List.length_take, List.length_drop, h2]
    omega
  · unfold cutS at hc
    have hc : c ∈ ((s.cps.toList.drop (HT.sIx s.length 0 lo)).take (HT.sIx s.length s.length hi - HT.sIx s.length 0 lo)) := by simpa using hc
    exact h.cps c (List.mem_of_mem_drop (List.mem_of_mem_take hc))
theorem SLe.lit {s : Str} {n : Nat} (h : (decide (s.length ≤ n) && s.cps.toList.all fun c => decide (c < 1114112)) = true) : SLe n s := by
  rw [Bool.and_eq_true] at h
  exact ⟨of_decide_eq_true h.1, fun c hc => of_decide_eq_true (List.all_eq_true.mp h.2 c hc)⟩
theorem add_str {s t : Str} {n m : Nat} (h : SLe n s) (h' : SLe m t) (hn : n + m ≤ 100000) : addD (.str s) (.str t) = some (.str (s ++ t)) := by
  have := h.len; have := h'.len
  show (if s.length + t.length ≤ 100000 then some (D.str (s ++ t)) else none) = _
  rw [if_pos (by omega)]
theorem cut_str {s : Str} {n : Nat} (h : SLe n s) (hn : n ≤ 100000) (lo hi : Option Int) : slD (.str s) lo hi = some (.str (cutS s lo hi)) := by
  have := h.len
  show (if s.length ≤ 100000 then some (D.str (cutS s lo hi)) else none) = _
  rw [if_pos (by omega)]
theorem sign_at {z : Str} {n : Nat} (h : SLe n z) (hn : n ≤ 100000) {i : Int} (h0 : 0 ≤ i) (h1 : i < z.length) : ∃ s, ixD (.str z) (.int i) = some (.str s) ∧ SLe 1 s ∧ ∃ j : Nat, (j : Int) = i ∧ ∃ c, z.cps.toList[j]? = some c ∧ s = ⟨#[c]⟩ := by
  obtain ⟨j, rfl⟩ := Int.eq_ofNat_of_zero_le h0
  have hj : j < z.cps.toList.length := by rw [Array.length_toList]; have : j < z.length := by omega
                                          exact this
  have e : z.cps.toList[j]? = some z.cps.toList[j] := List.getElem?_eq_getElem hj
  refine ⟨⟨#[z.cps.toList[j]]⟩, ?_, ⟨Nat.le_refl 1, fun c hc => ?_⟩, j, rfl, _, e, rfl⟩
  · have := h.len
    show (if z.length ≤ 100000 then (atI z.cps.toList (j : Int)).bind fun c => some (D.str ⟨#[c]⟩) else none) = _
    rw [if_pos (by omega), atI_nat e]
    rfl
  · have : c = z.cps.toList[j] := by simpa using hc
    rw [this]
    exact h.cps _ (List.getElem_mem hj)
theorem comp_ex {bnd : D → En → Option En} {tst : En → Option Bool} {elt : En → Option D} {env : En} {P : D → Prop} : ∀ {ds : List D}, (∀ d ∈ ds, ∃ e1 y, bnd d env = some e1 ∧ tst e1 = some true ∧ elt e1 = some y ∧ P y) → ∃ ys, compM bnd tst elt env ds = some ys ∧ ys.length = ds.length ∧ ∀ y ∈ ys, P y
  | [], _ => ⟨[], rfl, rfl, fun y hy => by cases hy⟩
  | d :: ds, h => by
    obtain ⟨e1, y, h1, h2, h3, h4⟩ := h d (List.mem_cons_self ..)
    obtain ⟨ys, i1, i2, i3⟩ := comp_ex fun d' hd => h d' (List.mem_cons_of_mem _ hd)
    refine ⟨y :: ys, ?_, by simp [i2], fun z hz => ?_⟩
    · unfold compM
      simp [h1, h2, h3, i1]
    · rcases List.mem_cons.mp hz with rfl | hz
      · exact h4
      · exact i3 z hz
theorem strs_of {Q : Str → Prop} : ∀ {ys : List D}, (∀ y ∈ ys, ∃ s, y = .str s ∧ Q s) → ∃ ls : List Str, ys = ls.map D.str ∧ ∀ s ∈ ls, Q s
  | [], _ => ⟨[], rfl, fun s hs => by cases hs⟩
  | y :: ys, h => by
    obtain ⟨s, rfl, hs⟩ := h y (List.mem_cons_self ..)
    obtain ⟨ls, rfl, hl⟩ := strs_of fun y' hy => h y' (List.mem_cons_of_mem _ hy)
    refine ⟨s :: ls, rfl, fun t ht => ?_⟩
    rcases List.mem_cons.mp ht with rfl | ht
    · exact hs
    · exact hl t ht
theorem rng_mem {n : Nat} {d : D} (h : d ∈ rngD 0 n) : ∃ k : Nat, k < n ∧ d = .int (k : Int) := by
  unfold rngD at h
  obtain ⟨k, hk, rfl⟩ := List.mem_map.mp h
  exact ⟨k, List.mem_range.mp hk, by simp⟩
theorem rng_len (n : Nat) : (rngD 0 n).length = n := by unfold rngD; rw [List.length_map, List.length_range]
theorem rng_get {n j : Nat} {d : D} (h : (rngD 0 n)[j]? = some d) : j < n ∧ d = .int (j : Int) := by
  unfold rngD at h
  rw [List.getElem?_map] at h
  cases e : (List.range n)[j]? with
  | none => rw [e] at h; cases h
  | some k =>
    rw [e] at h
    obtain ⟨h1, h2⟩ := List.getElem?_eq_some_iff.mp e
    rw [List.getElem_range] at h2
    subst h2
    cases h
    exact ⟨by simpa using h1, by simp⟩
theorem seq_nx {m n : En → Option Out} {env env' : En} (h : m env = some (.nx env')) : seqM m n env = n env' := by simp [h]
/-! ### labels -/
abbrev zSigns : Str := "abcdefghijklmnopqrstuvwxyz0123456789"
theorem signs_ok : SLe 36 zSigns := .lit (by decide +kernel)
theorem signs_len : zSigns.length = 36 := by decide +kernel
theorem fits5 {row : List Int} {a b c d e : Int} (h : Fits row [a, b, c, d, e]) : ∃ v w x y z, row = [v, w, x, y, z] ∧ (0 ≤ v ∧ v < a) ∧ (0 ≤ w ∧ w < b) ∧ (0 ≤ x ∧ x < c) ∧ (0 ≤ y ∧ y < d) ∧ (0 ≤ z ∧ z < e) := by
  cases h with
  | cons p1 p2 h => cases h with
    | cons q1 q2 h => cases h with
      | cons r1 r2 h => cases h with
        | cons s1 s2 h => cases h with
          | cons t1 t2 h => cases h; exact ⟨_, _, _, _, _, rfl, ⟨p1, p2⟩, ⟨q1, q2⟩, ⟨r1, r2⟩, ⟨s1, s2⟩, ⟨t1, t2⟩⟩
theorem at_lit {α : Type} {xs : List α} {v : α} (j : Nat) {i : Int} (hi : i = (j : Int)) (h : xs[j]? = some v) : atI xs i = some v := by subst hi; exact atI_nat h
theorem Fits.at {row sz : List Int} (h : Fits row sz) (j : Nat) {i s : Int} (hi : i = (j : Int)) (hs : sz[j]? = some s) : ∃ r, atI (row.map D.int) i = some (.int r) ∧ 0 ≤ r ∧ r < s := by
  obtain ⟨r, h1, h2, h3⟩ := h.get hs
  exact ⟨r, at_lit j hi (by simp [h1]), h2, h3⟩
/-- a number's text -/
def nt (i : Int) : Str := PySem.Str.ofString (toString i)
theorem num_le {i : Int} (h0 : 0 ≤ i) (h1 : i < 10 ^ 10) : SLe 10 (nt i) := by
  unfold nt
  refine ⟨toString_length_le h0 (by decide) h1, fun c hc => ?_⟩
  by_cases hk : c < 1114112
  · exact hk
  · exact absurd hc (int_text_free' c ⟨by omega, .inr (by omega)⟩ i)
theorem str_of {i : Int} (h0 : 0 ≤ i) (h1 : i < 10 ^ 10) : strOfD [.int i] = some (.str (nt i)) := by
  show (if i.natAbs.log2 < 1920 then some (D.str (toString i)) else none) = _
  have := log_small (i := i) (Nat.lt_of_lt_of_le (show i.natAbs < 2 ^ 64 by omega) (Nat.pow_le_pow_right (by decide) (by decide)))
  rw [if_pos (by omega)]
  rfl
theorem str_ext {a b : Str} (h : a.cps = b.cps) : a = b := by cases a; cases b; congr 1
theorem cancel_l {a b x : Str} (h : x ++ a = x ++ b) : a = b := by
  have e : (x ++ a).cps = (x ++ b).cps := by rw [h]
  rw [show (x ++ a).cps = x.cps ++ a.cps from Str.cps_append x a, show (x ++ b).cps = x.cps ++ b.cps from Str.cps_append x b] at e
  refine str_ext (Array.ext' ?_)
  have e2 := congrArg Array.toList e
  rw [Array.toList_append, Array.toList_append] at e2
  exact List.append_cancel_left e2
theorem cancel_r {a b x : Str} (h : a ++ x = b ++ x) : a = b := by
  have e : (a ++ x).cps = (b ++ x).cps := by rw [h]
  rw [show (a ++ x).cps = a.cps ++ x.cps from Str.cps_append a x, show (b ++ x).cps = b.cps ++ x.cps from Str.cps_append b x] at e
  refine str_ext (Array.ext' ?_)
  have e2 := congrArg Array.toList e
  rw [Array.toList_append, Array.toList_append] at e2
  exact List.append_cancel_right e2
theorem nodup_range {α : Type} {g : Nat → α} {n : Nat} (h : ∀ i j, i < n → j < n → g i = g j → i = j) : ((List.range n).map g).Nodup := by
  refine List.pairwise_map.mpr ?_
  exact (List.nodup_range (n := n)).imp_of_mem fun {a b} ha hb hab e => hab (h a b (List.mem_range.mp ha) (List.mem_range.mp hb) e)
theorem comp_rng {bnd : D → En → Option En} {tst : En → Option Bool} {elt : En → Option D} {env : En} {g : Nat → D} {n : Nat} (h : ∀ k < n, ∃ e1, bnd (.int (k : Int)) env = some e1 ∧ tst e1 = some true ∧ elt e1 = some (g k)) : compM bnd tst elt env (rngD 0 n) = some ((List.range n).map g) := by
  have := comp_map (bnd := bnd) (tst := tst) (elt := elt) (env := env) (f := fun d => match d with | .int i => g i.toNat | d => d) (ds := rngD 0 n) fun d hd => by
    obtain ⟨k, hk, rfl⟩ := rng_mem hd
    exact h k hk
  rw [this]
  congr 1
  unfold rngD
  rw [List.map_map]
  refine List.map_congr_left fun k _ => ?_
  show g (((0 : Int) + (k : Int)).toNat) = g k
  rw [Int.zero_add, Int.toNat_natCast]
def sg (z : Str) (i : Int) : Str := ⟨#[z.cps.toList.getD i.toNat 0]⟩
theorem sg_at {z : Str} {n : Nat} (h : SLe n z) (hn : n ≤ 100000) {i : Int} (h0 : 0 ≤ i) (h1 : i < z.length) : ixD (.str z) (.int i) = some (.str (sg z i)) ∧ SLe 1 (sg z i) := by
  obtain ⟨s, e1, e2, j, rfl, c, e3, e4⟩ := sign_at h hn h0 h1
  have : sg z (j : Int) = s := by
    rw [e4]
    unfold sg
    rw [Int.toNat_natCast, List.getD_eq_getElem?_getD, e3]
    rfl
  rw [this]
  exact ⟨e1, e2⟩
abbrev zCaps : Str := "ABCDEFGHIJKLMNOPQRSTUVWXYZ"
theorem caps_ok : SLe 26 zCaps := .lit (by decide +kernel)
theorem caps_len : zCaps.length = 26 := by decide +kernel
theorem sizes_ok {sz : List Int} (h : (sz.all fun s => decide (0 < s) && decide (s.natAbs < 2 ^ 64)) = true) : ∀ s ∈ sz, SizeOk s := fun s hs => by
  have := List.all_eq_true.mp h s hs
  rw [Bool.and_eq_true] at this
  exact ⟨of_decide_eq_true this.1, big (of_decide_eq_true this.2) (Nat.le_refl _)⟩
theorem draw (ns : List Int) (k : Nat) (hk : k ≤ 1000) {i : Int} (hi : i = (k : Int)) (sz : List Int) (h : (sz.all fun s => decide (0 < s) && decide (s.natAbs < 2 ^ 64)) = true) (hl : sz.length ≤ 1000) : ∃ c row, f_law_cell [.scr (ns.map D.int), .int i] = some (.int c) ∧ Fits row sz ∧ f_law_digits [.int c, .lst (sz.map D.int)] = some (.lst (row.map D.int)) := by
  subst hi
  obtain ⟨c, hc⟩ := cell_ok ns k hk
  obtain ⟨row, h1, h2⟩ := digits_ok c sz (sizes_ok h) hl
  exact ⟨c, row, hc, h1, h2⟩
end My

set_option Elab.async false
set_option linter.all false
set_option maxRecDepth 100000
set_option maxHeartbeats 1000000
namespace My
open PySem PySem.Spec PyProof.Rows L2 Dl
/-! ### names -/
abbrev cs (s : Str) : List Nat := s.cps.toList
theorem cs_len (s : Str) : (cs s).length = s.length := Array.length_toList
theorem cs_app (s t : Str) : cs (s ++ t) = cs s ++ cs t := by
  show (s ++ t).cps.toList = _
  rw [Str.cps_append, Array.toList_append]
theorem cs_cut (s : Str) (lo hi : Option Int) : cs (cutS s lo hi) = ((cs s).drop (HT.sIx s.length 0 lo)).take (HT.sIx s.length s.length hi - HT.sIx s.length 0 lo) := by
  unfold cutS
  simp
theorem cs_inj {s t : Str} (h : cs s = cs t) : s = t := str_ext (Array.ext' h)
def small (c : Nat) : Prop := 97 ≤ c ∧ c ≤ 122
def Sg (c : Nat) : Prop := small c ∨ (48 ≤ c ∧ c ≤ 57)
theorem Sg.lt {c : Nat} (h : Sg c) : c < 1114112 := by
  rcases h with h | h
  · have := h.2; omega
  · have := h.2; omega
def Wd (s : Str) : Prop := ∀ c ∈ cs s, Sg c
structure NmOk (s : Str) : Prop where
  head : ∃ c l, cs s = c :: l ∧ small c
  wd : Wd s
  len : s.length ≤ 8
theorem Wd.sle {s : Str} (h : Wd s) : SLe s.length s := ⟨Nat.le_refl _, fun c hc => (h c hc).lt⟩
theorem NmOk.sle {s : Str} (h : NmOk s) : SLe 8 s := h.wd.sle.mono h.len
theorem NmOk.pos {s : Str} (h : NmOk s) : 1 ≤ s.length := by
  obtain ⟨c, l, e, _⟩ := h.head
  rw [← cs_len, e]
  exact Nat.succ_le_succ (Nat.zero_le _)
theorem Wd.app {s t : Str} (h : Wd s) (h' : Wd t) : Wd (s ++ t) := fun c hc => by
  rw [cs_app, List.mem_append] at hc
  exact hc.elim (h c) (h' c)
theorem Wd.cut {s : Str} (h : Wd s) (lo hi : Option Int) : Wd (cutS s lo hi) := fun c hc => by
  rw [cs_cut] at hc
  exact h c (List.mem_of_mem_drop (List.mem_of_mem_take hc))
theorem Wd.one {c : Nat} (h : Sg c) : Wd ⟨#[c]⟩ := fun x hx => by
  have : x = c := by simpa using hx
  rw [this]
  exact h
theorem cut_len_le {s : Str} {n : Nat} (lo : Option Int) {hi : Int} (h : hi ≤ (n : Int)) (h0 : 0 ≤ hi) : (cutS s lo (some hi)).length ≤ n := by
  rw [← cs_len, cs_cut, List.length_take, List.length_drop]
  have : HT.sIx s.length s.length (some hi) ≤ n := by
    show (if hi < 0 then (hi + (s.length : Int)).toNat else min hi.toNat s.length) ≤ n
    rw [if_neg (by omega)]
    omega
  omega
/-- the beginning of a text -/
theorem cs_first {s : Str} {hi : Int} (h : 0 ≤ hi) : cs (cutS s none (some hi)) = (cs s).take (min hi.toNat s.length) := by
  rw [cs_cut]
  show ((cs s).drop 0).take ((if hi < 0 then (hi + (s.length : Int)).toNat else min hi.toNat s.length) - 0) = _
  rw [if_neg (by omega), List.drop_zero, Nat.sub_zero]
theorem cs_rest {s : Str} {lo : Int} (h : 0 ≤ lo) : cs (cutS s (some lo) none) = (cs s).drop lo.toNat := by
  rw [cs_cut]
  show ((cs s).drop (if lo < 0 then (lo + (s.length : Int)).toNat else min lo.toNat s.length)).take (s.length - (if lo < 0 then (lo + (s.length : Int)).toNat else min lo.toNat s.length)) = _
  rw [if_neg (by omega), List.take_of_length_le (by rw [List.length_drop, cs_len]; exact Nat.le_refl _)]
  by_cases hl : lo.toNat ≤ s.length
  · rw [Nat.min_eq_left hl]
  · rw [Nat.min_eq_right (by omega), List.drop_eq_nil_of_le (by rw [cs_len]; exact Nat.le_refl _), List.drop_eq_nil_of_le (by rw [cs_len]; omega)]
/-- a first part of a name -/
theorem NmOk.first {s : Str} (h : ∃ c l, cs s = c :: l ∧ small c) (w : Wd s) {hi : Int} (h1 : 1 ≤ hi) (h8 : hi ≤ 8) : NmOk (cutS s none (some hi)) := by
  refine ⟨?_, w.cut _ _, cut_len_le (n := 8) none h8 (by omega)⟩
  obtain ⟨c, l, e, hc⟩ := h
  have hl : 1 ≤ s.length := by rw [← cs_len, e]; exact Nat.succ_le_succ (Nat.zero_le _)
  obtain ⟨k, hk⟩ : ∃ k, min hi.toNat s.length = k + 1 := ⟨min hi.toNat s.length - 1, by omega⟩
  exact ⟨c, l.take k, by rw [cs_first (by omega), hk, e, List.take_succ_cons], hc⟩
/-- one of the written signs -/
theorem sign_ok {i : Int} (h0 : 0 ≤ i) (h1 : i < 36) : ∃ c, ixD (.str zSigns) (.int i) = some (.str ⟨#[c]⟩) ∧ Sg c ∧ (i < 26 → small c) := by
  obtain ⟨s, e1, _, j, rfl, c, e2, rfl⟩ := sign_at signs_ok (by decide) h0 (by rw [signs_len]; exact h1)
  refine ⟨c, e1, ?_, ?_⟩
  · have : ∀ j : Fin 36, ∀ c, zSigns.cps.toList[j.val]? = some c → (97 ≤ c ∧ c ≤ 122) ∨ (48 ≤ c ∧ c ≤ 57) := by
      intro j c h
      have key : ((List.range 36).all fun j => match zSigns.cps.toList[j]? with | some c => (decide (97 ≤ c) && decide (c ≤ 122)) || (decide (48 ≤ c) && decide (c ≤ 57)) | none => false) = true := by decide +kernel
      have := List.all_eq_true.mp key j.val (List.mem_range.mpr j.isLt)
      rw [h] at this
      simpa using this
    exact this ⟨j, by omega⟩ c e2
  · intro h
    have key : ((List.range 26).all fun j => match zSigns.cps.toList[j]? with | some c => decide (97 ≤ c) && decide (c ≤ 122) | none => false) = true := by decide +kernel
    have := List.all_eq_true.mp key j (List.mem_range.mpr (by omega))
    rw [e2] at this
    simpa [small] using this
theorem wd_str {s t : Str} (h : Wd s) (h' : Wd t) (hn : s.length + t.length ≤ 1000) : addD (.str s) (.str t) = some (.str (s ++ t)) := add_str h.sle h'.sle (by omega)
theorem app_len (s t : Str) : (s ++ t).length = s.length + t.length := Str.length_append s t
/-! ### _law_label -/
theorem fdiv_ok {i j : Int} (h : 0 < j) (hj : j.natAbs < 2 ^ 64) : fdivD (.int i) (.int j) = some (.int (i / j)) := e_fdiv h (big (b := 2 ^ 64) hj (by decide))
theorem label_ok {n : Int} (h : 0 ≤ n) : ∃ s, f_law_label [.int n] = some (.str s) ∧ NmOk s := by
  obtain ⟨c0, a1, a2, a3⟩ := sign_ok (i := n / 8 % 26) (Int.emod_nonneg _ (by decide)) (by have := Int.emod_lt_of_pos (n / 8) (show (0 : Int) < 26 by decide); omega)
  have hm8 : (n % 8).toNat ≤ 7 := by have := Int.emod_lt_of_pos n (show (0 : Int) < 8 by decide); have := Int.emod_nonneg n (show (8 : Int) ≠ 0 by decide); omega
  obtain ⟨env', e, w, r, y4, rfl, hw, hwl, hh⟩ := for_ok (bnd := bndN 4) (body := l1_law_label) (fun j env => ∃ w r x4, env = [some (.val (.int n)), some (.val (.str zSigns)), some (.val (.str w)), some (.val (.int r)), x4] ∧ Wd w ∧ w.length = 1 + j ∧ ∃ c l, cs w = c :: l ∧ small c) (ds := rngD 0 (n % 8).toNat)
      (env := [some (.val (.int n)), some (.val (.str zSigns)), some (.val (.str ⟨#[c0]⟩)), some (.val (.int (n / 208))), none])
      ⟨⟨#[c0]⟩, n / 208, none, rfl, .one a2, rfl, c0, [], rfl, a3 (Int.emod_lt_of_pos _ (by decide))⟩ fun j d env hd ⟨w, r, x4, he, hw, hwl, c, l, e1, e2⟩ => by
    obtain ⟨hj, rfl⟩ := rng_get hd
    subst he
    obtain ⟨c1, b1, b2, _⟩ := sign_ok (i := r % 36) (Int.emod_nonneg _ (by decide)) (Int.emod_lt_of_pos _ (by decide))
    have h3 := wd_str hw (Wd.one b2) (by rw [hwl]; show 1 + j + 1 ≤ 1000; omega)
    refine ⟨_, _, rfl, ?_, w ++ ⟨#[c1]⟩, r / 36, some (.val (.int (j : Int))), rfl, hw.app (.one b2), by rw [app_len, hwl]; rfl, c, l ++ [c1], by rw [cs_app, e1]; rfl, e2⟩
    simp [l1_law_label, e_mod, b1, h3, fdiv_ok (i := r) (j := 36) (by decide) (by decide)]
  rw [rng_len] at hwl
  refine ⟨w, ?_, hh, hw, by omega⟩
  have hr : n % 8 ≤ 1000000 ∧ -1000000 ≤ n % 8 := by have := Int.emod_lt_of_pos n (show (0 : Int) < 8 by decide); have := Int.emod_nonneg n (show (8 : Int) ≠ 0 by decide); omega
  unfold f_law_label m_law_label
  simp [e_mod, fdiv_ok (i := n) (j := 8) (by decide) (by decide), fdiv_ok (i := n) (j := 208) (by decide) (by decide), a1, hr, e, retF]
end My

set_option Elab.async false
set_option linter.all false
set_option maxRecDepth 100000
set_option maxHeartbeats 1000000
namespace My
open PySem PySem.Spec PyProof.Rows L2 Dl
/-! ### data that may be compared -/
structure Okd (n : Nat) (d : D) : Prop where
  lay : d.py.canLay0 = true
  dep : d.py.depth ≤ n
theorem strOk_of {s : Str} {n : Nat} (h : SLe n s) : PyData.strOk s = true := by
  unfold PyData.strOk
  rw [Array.all_eq_true']
  intro c hc
  exact decide_eq_true (h.cps c (by simpa using hc))
theorem okd_str {s : Str} {n m : Nat} (h : SLe m s) : Okd n (.str s) := ⟨by unfold D.py PyData.canLay0; exact strOk_of h, by unfold D.py PyData.depth; exact Nat.zero_le _⟩
theorem okd_int {i : Int} {n : Nat} : Okd n (.int i) := ⟨by unfold D.py PyData.canLay0; rfl, by unfold D.py PyData.depth; exact Nat.zero_le _⟩
theorem okd_bl {b : Bool} {n : Nat} : Okd n (.bl b) := ⟨by unfold D.py PyData.canLay0; rfl, by unfold D.py PyData.depth; exact Nat.zero_le _⟩
theorem okdL {n : Nat} : ∀ {ds : List D}, (∀ d ∈ ds, Okd n d) → PyData.canLayAll0 (pyL ds) = true ∧ PyData.depthAll (pyL ds) ≤ n
  | [], _ => ⟨by unfold pyL PyData.canLayAll0; rfl, by unfold pyL PyData.depthAll; exact Nat.zero_le _⟩
  | d :: ds, h => by
    obtain ⟨h1, h2⟩ := okdL fun d' hd => h d' (List.mem_cons_of_mem _ hd)
    have h0 := h d (List.mem_cons_self ..)
    unfold pyL PyData.canLayAll0 PyData.depthAll
    refine ⟨by rw [h0.lay, h1]; rfl, ?_⟩
    have := h0.dep
    omega
theorem okd_tup {n : Nat} {ds : List D} (h : ∀ d ∈ ds, Okd n d) : Okd (n + 1) (.tup ds) := by
  obtain ⟨h1, h2⟩ := okdL h
  refine ⟨by unfold D.py PyData.canLay0; exact h1, ?_⟩
  unfold D.py PyData.depth
  omega
theorem okd_lst {n : Nat} {ds : List D} (h : ∀ d ∈ ds, Okd n d) : Okd (n + 1) (.lst ds) := by
  obtain ⟨h1, h2⟩ := okdL h
  refine ⟨by unfold D.py PyData.canLay0; exact h1, ?_⟩
  unfold D.py PyData.depth
  omega
theorem Okd.mono {n m : Nat} {d : D} (h : Okd n d) (hm : n ≤ m) : Okd m d := ⟨h.lay, Nat.le_trans h.dep hm⟩
theorem Okd.shp {d : D} (h : Okd 64 d) : shp d = true := by
  unfold Dl.shp SeqAt.shaped
  rw [h.lay]
  have := h.dep
  simp
  omega
theorem ne_self {d : D} (h : Okd 64 d) : neD d d = some (.bl false) := by
  unfold neD
  rw [if_pos ⟨h.shp, h.shp⟩]
  unfold eqB
  rw [SeqAt.eqv_refl _ h.lay]
  rfl
theorem eq_self {d : D} (h : Okd 64 d) : eqD d d = some (.bl true) := by
  unfold eqD
  rw [if_pos ⟨h.shp, h.shp⟩]
  unfold eqB
  rw [SeqAt.eqv_refl _ h.lay]
theorem ne_ok {d e : D} (h : Okd 64 d) (h' : Okd 64 e) : neD d e = some (.bl (!eqB d e)) := by
  unfold neD
  rw [if_pos ⟨h.shp, h'.shp⟩]
theorem eq_ok {d e : D} (h : Okd 64 d) (h' : Okd 64 e) : eqD d e = some (.bl (eqB d e)) := by
  unfold eqD
  rw [if_pos ⟨h.shp, h'.shp⟩]
theorem eqI (i j : Int) : eqD (.int i) (.int j) = some (.bl (i == j)) := by
  rw [eq_ok okd_int okd_int]
  unfold eqB D.py PyData.eqv
  rfl
theorem neI (i j : Int) : neD (.int i) (.int j) = some (.bl (!(i == j))) := by
  rw [ne_ok okd_int okd_int]
  unfold eqB D.py PyData.eqv
  rfl
/-- a text among texts -/
theorem flat_strs : ∀ l : List Str, flatL (l.map D.str) = some (l.map V.str)
  | [] => rfl
  | s :: l => by
    show (flatD (.str s)).bind (fun v => (flatL (l.map D.str)).bind fun r => some (v :: r)) = _
    rw [flat_strs l]
    rfl
theorem in_strs (s : Str) (l : List Str) : inD (.str s) (.lst (l.map D.str)) = some (.bl (decide (s ∈ l))) := by
  have h : inB (.str s) (.lst (l.map D.str)) = some (inV (.str s) (l.map V.str)) := by
    show ((flatD (.str s)).bind fun v => (flatL (l.map D.str)).bind fun vs => some (inV v vs)) = _
    rw [flat_strs]
    rfl
  have e : inV (.str s) (l.map V.str) = decide (s ∈ l) := by
    unfold inV
    rw [List.any_map, Bool.eq_iff_iff, List.any_eq_true, decide_eq_true_iff]
    constructor
    · rintro ⟨t, ht, e⟩
      have e : (t == s) = true := e
      rw [beq_iff_eq] at e
      rw [← e]; exact ht
    · intro hs
      exact ⟨s, hs, beq_self_eq_true s⟩
  unfold inD
  rw [h, e]
  rfl
/-! ### _law_labels -/
def lsz : List Int := [3, 8, 8, 4, 36] ++ List.replicate 13 16299746131968
/-- the candidate for the k-th name -/
def candM : En → Option Out := (ifM (boolM (bind2 (bind2 (nameV 0) (cI 0) ixD) (cI 0) eqD)) (seqM (setM 7 (bind2 (callM intD (consM (bind2 (nameV 0) (cI 1) ixD) nilM)) (bind2 (bind2 (nameV 0) (cI 2) ixD) (cI 1) addD) modD))
    (seqM (setM 8 (bind2 (nameV 2) (bind2 (callM intD (consM (bind2 (bind2 (nameV 0) (cI 4) ixD) (bind2 (nameV 5) (bind2 (lstM (consM (cI 1) (consM (cI 5) (consM (cI 7) (consM (cI 11) nilM))))) (bind2 (nameV 0) (cI 3) ixD) ixD) mulD) addD) nilM)) (bind2 (lstM (consM (cI 36) (consM (cI 26) nilM))) (callM intD (consM (bind2 (nameV 7) (cI 0) eqD) nilM)) ixD) modD) ixD))
    (setM 9 (slM (bind2 (bind2 (slM (nameV 3) noP (partM (nameV 7))) (nameV 8) addD) (slM (nameV 3) (partM (bind2 (nameV 7) (cI 1) addD)) noP) addD) noP (partM (bind2 (bind2 (nameV 0) (cI 2) ixD) (cI 1) addD)))))) (ifM (boolM (bind2 (bind2 (nameV 0) (cI 0) ixD) (cI 1) eqD)) (setM 9 (slM (bind2 (lstM (consM (nameV 3) (consM (bind2 (bind2 (nameV 2) (bind2 (callM intD (consM (bind2 (nameV 0) (cI 4) ixD) nilM)) (cI 26) modD) ixD) (slM (nameV 3) (partM (cI 1)) noP) addD) nilM))) (bind2 (nameV 5) (cI 8) fdivD) ixD) noP (partM (bind2 (bind2 (nameV 5) (cI 8) modD) (cI 1) addD)))) (setM 9 (callM f_law_label (consM (bind2 (nameV 0) (bind2 (cI 6) (nameV 5) addD) ixD) nilM)))))
theorem l2_labels_split : l2_law_labels = seqM candM (seqM (forM (rngM1 (consM (cI 14) nilM)) (bndN 6) l1_law_labels) (appM 4 (nameV 9))) := rfl
def lenv (row : List D) (many : Int) (wd : Str) (names : List Str) (k : Option Sl) (x6 x7 x8 x9 : Option Sl) : En := [some (.val (.lst row)), some (.val (.int many)), some (.val (.str zSigns)), some (.val (.str wd)), some (.own (names.map D.str)), k, x6, x7, x8, x9]
theorem cut_wd {s : Str} (h : Wd s) (hl : s.length ≤ 1000) (lo hi : Option Int) : slD (.str s) lo hi = some (.str (cutS s lo hi)) := cut_str h.sle (by omega) lo hi
theorem cand_ok {row : List Int} (h : Fits row lsz) {many : Int} {wd : Str} (hw : NmOk wd) (names : List Str) {k : Nat} (hk : k < 12) (x6 x7 x8 x9 : Option Sl) :
    ∃ s y7 y8, NmOk s ∧ candM (lenv (row.map D.int) many wd names (some (.val (.int (k : Int)))) x6 x7 x8 x9) = some (.nx (lenv (row.map D.int) many wd names (some (.val (.int (k : Int)))) x6 y7 y8 (some (.val (.str s))))) := by
  obtain ⟨r0, a0, p0, q0⟩ := h.at 0 (i := 0) rfl rfl
  obtain ⟨r1, a1, p1, q1⟩ := h.at 1 (i := 1) rfl rfl
  obtain ⟨r2, a2, p2, q2⟩ := h.at 2 (i := 2) rfl rfl
  obtain ⟨r3, a3, p3, q3⟩ := h.at 3 (i := 3) rfl rfl
  obtain ⟨r4, a4, p4, q4⟩ := h.at 4 (i := 4) rfl rfl
  have l8 := hw.len
  by_cases h0 : r0 = 0
  · subst h0
    obtain ⟨n3, e3, b0, b1⟩ : ∃ n : Int, atI [D.int 1, .int 5, .int 7, .int 11] r3 = some (.int n) ∧ 0 ≤ n ∧ n ≤ 11 := by
      have : r3 = 0 ∨ r3 = 1 ∨ r3 = 2 ∨ r3 = 3 := by omega
      rcases this with rfl | rfl | rfl | rfl
      · exact ⟨1, rfl, by decide, by decide⟩
      · exact ⟨5, rfl, by decide, by decide⟩
      · exact ⟨7, rfl, by decide, by decide⟩
      · exact ⟨11, rfl, by decide, by decide⟩
    have m0 : mulD (.int (k : Int)) (.int n3) = some (.int ((k : Int) * n3)) := e_mul (big (b := 2 ^ 64) (by omega) (by decide)) (big (b := 2 ^ 64) (by omega) (by decide))
    have kn : 0 ≤ (k : Int) * n3 := Int.mul_nonneg (by omega) b0
    have hat : 0 ≤ r1 % (r2 + 1) := Int.emod_nonneg _ (by omega)
    have hat2 : r1 % (r2 + 1) < r2 + 1 := Int.emod_lt_of_pos _ (by omega)
    -- the sign
    obtain ⟨c, s1, s2, s3⟩ : ∃ c, ixD (.str zSigns) (.int ((r4 + (k : Int) * n3) % (if r1 % (r2 + 1) = 0 then 26 else 36))) = some (.str ⟨#[c]⟩) ∧ Sg c ∧ (r1 % (r2 + 1) = 0 → small c) := by
      by_cases hz : r1 % (r2 + 1) = 0
      · rw [if_pos hz]
        have u := Int.emod_lt_of_pos (r4 + (k : Int) * n3) (show (0 : Int) < 26 by decide)
        obtain ⟨c, t1, t2, t3⟩ := sign_ok (i := (r4 + (k : Int) * n3) % 26) (Int.emod_nonneg _ (by decide)) (by omega)
        exact ⟨c, t1, t2, fun _ => t3 u⟩
      · rw [if_neg hz]
        obtain ⟨c, t1, t2, t3⟩ := sign_ok (i := (r4 + (k : Int) * n3) % 36) (Int.emod_nonneg _ (by decide)) (Int.emod_lt_of_pos _ (by decide))
        exact ⟨c, t1, t2, fun z => absurd z hz⟩
    have i2 : atI [D.int 36, .int 26] (if r1 % (r2 + 1) = 0 then 1 else 0) = some (.int (if r1 % (r2 + 1) = 0 then 26 else 36)) := by
      by_cases hz : r1 % (r2 + 1) = 0
      · rw [if_pos hz, if_pos hz]; rfl
      · rw [if_neg hz, if_neg hz]; rfl
    have hm36 : modD (.int (r4 + (k : Int) * n3)) (.int (if r1 % (r2 + 1) = 0 then 26 else 36)) = some (.int ((r4 + (k : Int) * n3) % (if r1 % (r2 + 1) = 0 then 26 else 36))) := e_mod (by split <;> decide)
    have w1 : Wd (cutS wd none (some (r1 % (r2 + 1)))) := hw.wd.cut _ _
    have w2 : Wd (cutS wd (some (r1 % (r2 + 1) + 1)) none) := hw.wd.cut _ _
    have z1 : (cutS wd none (some (r1 % (r2 + 1)))).length ≤ 8 := by rw [← cs_len, cs_first hat, List.length_take, cs_len]; omega
    have z2 : (cutS wd (some (r1 % (r2 + 1) + 1)) none).length ≤ 8 := by rw [← cs_len, cs_rest (by omega), List.length_drop, cs_len]; omega
    have ad1 := wd_str w1 (Wd.one s2) (by show (cutS wd none (some (r1 % (r2 + 1)))).length + 1 ≤ 1000; omega)
    have w3 := w1.app (Wd.one s2)
    have z3 : (cutS wd none (some (r1 % (r2 + 1))) ++ (⟨#[c]⟩ : Str)).length ≤ 9 := by rw [app_len]; show _ + 1 ≤ 9; omega
    have ad2 := wd_str w3 w2 (by omega)
    have w4 := w3.app w2
    have z4 : (cutS wd none (some (r1 % (r2 + 1))) ++ (⟨#[c]⟩ : Str) ++ cutS wd (some (r1 % (r2 + 1) + 1)) none).length ≤ 1000 := by rw [app_len]; omega
    have hd : ∃ c' l, cs (cutS wd none (some (r1 % (r2 + 1))) ++ (⟨#[c]⟩ : Str) ++ cutS wd (some (r1 % (r2 + 1) + 1)) none) = c' :: l ∧ small c' := by
      rw [cs_app, cs_app, cs_first hat]
      by_cases hz : r1 % (r2 + 1) = 0
      · rw [hz]
        exact ⟨c, _, rfl, s3 hz⟩
      · obtain ⟨c', l, e1, e2⟩ := hw.head
        have hp := hw.pos
        obtain ⟨j, hj⟩ : ∃ j, min (r1 % (r2 + 1)).toNat wd.length = j + 1 := ⟨min (r1 % (r2 + 1)).toNat wd.length - 1, by omega⟩
        rw [hj, e1, List.take_succ_cons]
        exact ⟨c', _, rfl, e2⟩
    have fin := NmOk.first hd w4 (hi := r2 + 1) (by omega) (by omega)
    refine ⟨_, some (.val (.int (r1 % (r2 + 1)))), some (.val (.str ⟨#[c]⟩)), fin, ?_⟩
    unfold candM lenv
    simp [a0, a1, a2, a3, a4, eqI, e_mod (i := r1) (j := r2 + 1) (by omega), e3, m0, i2, hm36, s1, cut_wd hw.wd (by omega), ad1, ad2, cut_wd w4 z4]
  · by_cases h1 : r0 = 1
    · subst h1
      obtain ⟨c, s1, s2, s3⟩ := sign_ok (i := r4 % 26) (Int.emod_nonneg _ (by decide)) (by have := Int.emod_lt_of_pos r4 (show (0 : Int) < 26 by decide); omega)
      have w2 : Wd (cutS wd (some 1) none) := hw.wd.cut _ _
      have z2 : (cutS wd (some 1) none).length ≤ 8 := by rw [← cs_len, cs_rest (by decide), List.length_drop, cs_len]; omega
      have ad := wd_str (Wd.one s2) w2 (by show 1 + _ ≤ 1000; omega)
      have w3 := (Wd.one s2).app w2
      have hd3 : ∃ c' l, cs ((⟨#[c]⟩ : Str) ++ cutS wd (some 1) none) = c' :: l ∧ small c' := ⟨c, _, by rw [cs_app]; rfl, s3 (Int.emod_lt_of_pos _ (by decide))⟩
      have z3 : ((⟨#[c]⟩ : Str) ++ cutS wd (some 1) none).length ≤ 1000 := by rw [app_len]; show 1 + _ ≤ 1000; omega
      have k8 : (k : Int) / 8 = 0 ∨ (k : Int) / 8 = 1 := by omega
      have km : 0 ≤ (k : Int) % 8 ∧ (k : Int) % 8 < 8 := by omega
      rcases k8 with k8 | k8
      · refine ⟨cutS wd none (some ((k : Int) % 8 + 1)), x7, x8, NmOk.first hw.head hw.wd (by omega) (by omega), ?_⟩
        have i0 : atI [D.str wd, .str ((⟨#[c]⟩ : Str) ++ cutS wd (some 1) none)] 0 = some (.str wd) := rfl
        unfold candM lenv
        simp [a0, a1, a2, a3, a4, eqI, e_mod, s1, cut_wd hw.wd (show wd.length ≤ 1000 by omega), ad, fdiv_ok (i := (k : Int)) (j := 8) (by decide) (by decide), k8, i0]
      · refine ⟨cutS ((⟨#[c]⟩ : Str) ++ cutS wd (some 1) none) none (some ((k : Int) % 8 + 1)), x7, x8, NmOk.first hd3 w3 (by omega) (by omega), ?_⟩
        have i1 : atI [D.str wd, .str ((⟨#[c]⟩ : Str) ++ cutS wd (some 1) none)] 1 = some (.str ((⟨#[c]⟩ : Str) ++ cutS wd (some 1) none)) := rfl
        unfold candM lenv
        simp [a0, a1, a2, a3, a4, eqI, e_mod, s1, cut_wd hw.wd (show wd.length ≤ 1000 by omega), ad, fdiv_ok (i := (k : Int)) (j := 8) (by decide) (by decide), k8, i1, cut_wd w3 z3]
    · obtain ⟨r, a, p, q⟩ := h.at (6 + k) (i := 6 + (k : Int)) (s := 16299746131968) (by omega) (by
        show ([3, 8, 8, 4, 36] ++ List.replicate 13 (16299746131968 : Int))[6 + k]? = _
        rw [List.getElem?_append_right (by simp; omega), List.getElem?_replicate, if_pos (by simp; omega)])
      obtain ⟨s, e, hs⟩ := label_ok p
      refine ⟨s, x7, x8, hs, ?_⟩
      have h0' : (r0 == 0) = false := beq_eq_false_iff_ne.mpr h0
      have h1' : (r0 == 1) = false := beq_eq_false_iff_ne.mpr h1
      unfold candM lenv
      simp [a0, eqI, h0', h1', a, e]
theorem fm_all {α : Type} (xs : List α) : (List.range xs.length).filterMap (fun i => xs[i]?) = xs := by
  have h := PySem.W.krv_all xs.toArray
  rw [List.size_toArray] at h
  refine Eq.trans ?_ (h.trans (by simp))
  exact congrArg (fun f => List.filterMap f _) (funext fun i => List.getElem?_toArray.symm)
theorem pick_rev {α : Type} (xs : List α) : pickL xs none none (some (-1)) = xs.reverse := by
  unfold pickL
  rw [PySem.W.krv_bounds]
  show (sliceRange ((xs.length : Int) - 1) (-1) (-1)).filterMap (fun i => xs[i]?) = _
  rw [PySem.W.krv_sliceRange, PySem.W.krv_range, List.filterMap_reverse, fm_all]
theorem nodup_rev {α : Type} {l : List α} (h : l.Nodup) : l.reverse.Nodup := by
  unfold List.Nodup
  rw [List.pairwise_reverse]
  exact h.imp Ne.symm
theorem nodup_le {α : Type} [BEq α] [LawfulBEq α] : ∀ {l m : List α}, l.Nodup → (∀ x ∈ l, x ∈ m) → l.length ≤ m.length
  | [], _, _, _ => Nat.zero_le _
  | x :: l, m, hn, h => by
    have hx := h x (List.mem_cons_self ..)
    rw [List.nodup_cons] at hn
    have ih := nodup_le (l := l) (m := m.erase x) hn.2 fun y hy => by
      have : y ≠ x := fun z => hn.1 (z ▸ hy)
      exact (List.mem_erase_of_ne this).mpr (h y (List.mem_cons_of_mem _ hy))
    have h1 := List.length_erase_of_mem hx
    have h2 : 0 < m.length := List.length_pos_of_mem hx
    rw [List.length_cons]
    omega
def nm (j : Nat) : Str := ⟨#[97 + j, 48]⟩
theorem nm_at {j : Nat} (h : j < 26) : ixD (.str zSigns) (.int (j : Int)) = some (.str ⟨#[97 + j]⟩) := by
  obtain ⟨s, e1, _, i, hi, c, e2, rfl⟩ := sign_at signs_ok (by decide) (i := (j : Int)) (by omega) (by rw [signs_len]; omega)
  have : i = j := by omega
  subst this
  have key : ((List.range 26).all fun j => zSigns.cps.toList[j]? == some (97 + j)) = true := by decide +kernel
  have := List.all_eq_true.mp key i (List.mem_range.mpr h)
  rw [e2, beq_iff_eq] at this
  rw [e1, Option.some.inj this]
theorem nm_add {j : Nat} : addD (.str ⟨#[97 + j]⟩) (.str "0") = some (.str (nm j)) := rfl
theorem nm_ok {j : Nat} (h : j < 26) : NmOk (nm j) := ⟨⟨97 + j, [48], rfl, by unfold small; omega⟩, fun c hc => by
  have : c = 97 + j ∨ c = 48 := by simpa [nm] using hc
  rcases this with rfl | rfl
  · exact .inl (by unfold small; omega)
  · exact .inr (by decide), by show 2 ≤ 8; decide⟩
theorem nm_inj {i j : Nat} (h : nm i = nm j) : i = j := by
  have : (nm i).cps.toList = (nm j).cps.toList := by rw [h]
  simp [nm] at this
  exact this
/-- 14 turns find a name that is not there yet -/
theorem turns_ok {row : List D} {many : Int} {wd : Str} {names : List Str} {k x7 x8 : Option Sl} (hn : names.length ≤ 12) {s0 : Str} (h0 : NmOk s0) (x6 : Option Sl) :
    ∃ s y6, NmOk s ∧ s ∉ names ∧ forM' (bndN 6) l1_law_labels (rngD 0 14) (lenv row many wd names k x6 x7 x8 (some (.val (.str s0)))) = some (.nx (lenv row many wd names k y6 x7 x8 (some (.val (.str s))))) := by
  obtain ⟨env', e, s, y6, rfl, hs, tr⟩ := for_ok (bnd := bndN 6) (body := l1_law_labels)
    (fun j env => ∃ s x6, env = lenv row many wd names k x6 x7 x8 (some (.val (.str s))) ∧ NmOk s ∧ (s ∉ names ∨ ((∀ i, i + 1 < j → nm i ∈ names) ∧ ∀ i, i + 1 = j → s = nm i)))
    (ds := rngD 0 14) ⟨s0, x6, rfl, h0, .inr ⟨fun i h => by omega, fun i h => by omega⟩⟩ fun j d env hd ⟨s, x6, he, hs, tr⟩ => by
    obtain ⟨hj, rfl⟩ := rng_get hd
    subst he
    have hin := in_strs s names
    by_cases hm : s ∈ names
    · refine ⟨_, _, rfl, ?_, nm j, some (.val (.int (j : Int))), rfl, nm_ok (by omega), .inr ⟨fun i hi => ?_, fun i hi => by rw [show i = j by omega]⟩⟩
      · rw [decide_eq_true hm] at hin
        simp [l1_law_labels, lenv, hin, nm_at (show j < 26 by omega), nm_add]
      · rcases tr with z | ⟨z1, z2⟩
        · exact absurd hm z
        · by_cases hi2 : i + 1 < j
          · exact z1 i hi2
          · rw [← z2 i (by omega)]; exact hm
    · refine ⟨_, _, rfl, ?_, s, some (.val (.int (j : Int))), rfl, hs, .inl hm⟩
      rw [decide_eq_false hm] at hin
      simp [l1_law_labels, lenv, hin, nextM]
  refine ⟨s, y6, hs, ?_, e⟩
  rcases tr with z | ⟨z1, _⟩
  · exact z
  · exfalso
    have := nodup_le (l := (List.range 13).map nm) (m := names) (List.pairwise_map.mpr ((List.nodup_range (n := 13)).imp fun {a b} hab z => hab (nm_inj z))) fun x hx => by
      obtain ⟨i, hi, rfl⟩ := List.mem_map.mp hx
      exact z1 i (by rw [rng_len]; have := List.mem_range.mp hi; omega)
    rw [List.length_map, List.length_range] at this
    omega
theorem labels_ok {row : List Int} (h : Fits row lsz) {many : Nat} (hm : many ≤ 12) : ∃ names : List Str, f_law_labels [.lst (row.map D.int), .int (many : Int)] = some (.lst (names.map D.str)) ∧ names.length = many ∧ names.Nodup ∧ ∀ s ∈ names, NmOk s := by
  obtain ⟨r5, a5, p5, q5⟩ := h.at 5 (i := 5) rfl rfl
  obtain ⟨r3, a3, p3, q3⟩ := h.at 3 (i := 3) rfl rfl
  have m8 : mulD (.int r5) (.int 8) = some (.int (r5 * 8)) := e_mul (big (b := 2 ^ 64) (by omega) (by decide)) (big (b := 2 ^ 64) (by decide) (by decide))
  obtain ⟨wd, ew, hw⟩ := label_ok (n := r5 * 8 + 7) (by omega)
  obtain ⟨env', e, names, x6, x7, x8, x9, y5, rfl, hl, hnd, hok⟩ := for_ok (bnd := bndN 5) (body := l2_law_labels)
    (fun j env => ∃ names x6 x7 x8 x9 y5, env = lenv (row.map D.int) (many : Int) wd names y5 x6 x7 x8 x9 ∧ names.length = j ∧ names.Nodup ∧ ∀ s ∈ names, NmOk s) (ds := rngD 0 many)
    (env := lenv (row.map D.int) (many : Int) wd [] none none none none none) ⟨[], none, none, none, none, none, rfl, rfl, .nil, fun s hs => by cases hs⟩ fun j d env hd ⟨names, x6, x7, x8, x9, y5, he, hl, hnd, hok⟩ => by
    obtain ⟨hj, rfl⟩ := rng_get hd
    subst he
    obtain ⟨s0, y7, y8, hs0, e0⟩ := cand_ok h (many := (many : Int)) hw names (k := j) (by omega) x6 x7 x8 x9
    obtain ⟨s, y6, hs, hn, e1⟩ := turns_ok (row := row.map D.int) (many := (many : Int)) (wd := wd) (names := names) (k := some (.val (.int (j : Int)))) (x7 := y7) (x8 := y8) (by omega) hs0 x6
    refine ⟨lenv (row.map D.int) (many : Int) wd names (some (.val (.int (j : Int)))) x6 x7 x8 x9, lenv (row.map D.int) (many : Int) wd (names ++ [s]) (some (.val (.int (j : Int)))) y6 y7 y8 (some (.val (.str s))), rfl, ?_, names ++ [s], y6, y7, y8, some (.val (.str s)), some (.val (.int (j : Int))), rfl, by rw [List.length_append, hl]; rfl, ?_, ?_⟩
    · rw [l2_labels_split, seq_nx e0]
      have e1' : forM (rngM1 (consM (cI 14) nilM)) (bndN 6) l1_law_labels (lenv (row.map D.int) (many : Int) wd names (some (.val (.int (j : Int)))) x6 y7 y8 (some (.val (.str s0)))) = some (.nx (lenv (row.map D.int) (many : Int) wd names (some (.val (.int (j : Int)))) y6 y7 y8 (some (.val (.str s))))) := by
        rw [← e1]; rfl
      rw [seq_nx e1']
      have hlt : names.length < 100000 := by omega
      simp [lenv, hlt]
    · rw [List.nodup_append]
      exact ⟨hnd, by simp, fun a ha b hb => by rw [List.mem_singleton] at hb; subst hb; exact fun z => hn (z ▸ ha)⟩
    · intro t ht
      rcases List.mem_append.mp ht with ht | ht
      · exact hok t ht
      · rw [List.mem_singleton] at ht; subst ht; exact hs
  rw [rng_len] at hl
  have hr : (many : Int) ≤ 1000000 ∧ -1000000 ≤ (many : Int) := by omega
  have pk : pickL (names.map D.str) none none (some (-1)) = names.reverse.map D.str := by rw [pick_rev, List.map_reverse]
  by_cases h3 : r3 % 2 = 1
  · refine ⟨names.reverse, ?_, by rw [List.length_reverse]; exact hl, nodup_rev hnd, fun s hs => hok s (List.mem_reverse.mp hs)⟩
    unfold f_law_labels m_law_labels
    simp [lenv] at e
    simp [a5, a3, m8, ew, hr, e, e_mod, eqI, h3, retF, lstF, pkM, pk]
  · refine ⟨names, ?_, hl, hnd, hok⟩
    have h3' : (r3 % 2 == 1) = false := beq_eq_false_iff_ne.mpr h3
    unfold f_law_labels m_law_labels
    simp [lenv] at e
    simp [a5, a3, m8, ew, hr, e, e_mod, eqI, h3', retF, lstF, nextM]
end My

set_option Elab.async false
set_option linter.all false
set_option maxRecDepth 100000
set_option maxHeartbeats 1000000
namespace My
open PySem PySem.Spec PyProof.Rows L2 Dl
/-! ### symbols -/
abbrev Sy := Str × Int × Bool
def syE (q : Sy) : D := .tup [.str q.1, .int q.2.1, .bl q.2.2]
def kindOk (k : Int × Bool) : Prop := k = (0, false) ∨ k = (1, false) ∨ k = (2, false) ∨ k = (2, true)
structure SyOk (S : List Sy) : Prop where
  nd : (S.map (·.1)).Nodup
  nm : ∀ q ∈ S, NmOk q.1
  kd : ∀ q ∈ S, kindOk q.2
  len : S.length ≤ 12
def kindsL : List (Int × Bool) := [(0, false), (2, true), (1, false), (2, true), (2, false), (0, false), (2, true), (0, false)]
def kinds : List D := kindsL.map fun k => .tup [.int k.1, .bl k.2]
def kindOf (r : Int) : Int × Bool := kindsL.getD r.toNat (0, false)
theorem kind_at {r : Int} (h0 : 0 ≤ r) (h1 : r < 8) : atI kinds r = some (.tup [.int (kindOf r).1, .bl (kindOf r).2]) ∧ kindOk (kindOf r) := by
  have : r = 0 ∨ r = 1 ∨ r = 2 ∨ r = 3 ∨ r = 4 ∨ r = 5 ∨ r = 6 ∨ r = 7 := by omega
  rcases this with rfl | rfl | rfl | rfl | rfl | rfl | rfl | rfl <;> exact ⟨rfl, by unfold kindOk; decide⟩
def manyL : List Int := [5, 4, 6, 7, 5, 4, 3, 8, 5, 6, 4, 7, 5, 6, 4, 3, 5, 2, 6, 4, 12, 10, 1, 0]
theorem at_list {l : List Int} {p : Int → Bool} (hp : l.all p = true) {r : Int} (h0 : 0 ≤ r) (h1 : r < l.length) : ∃ m, atI (l.map D.int) r = some (.int m) ∧ p m = true := by
  obtain ⟨j, rfl⟩ := Int.eq_ofNat_of_zero_le h0
  have hj : j < l.length := by omega
  exact ⟨l[j], at_lit j rfl (by simp [hj]), List.all_eq_true.mp hp _ (List.getElem_mem hj)⟩
theorem e_pow7 : powD (.int 36) (.int 7) = some (.int 78364164096) := by
  show (if (0 : Int) ≤ 7 ∧ (7 : Int) ≤ 1000000 ∧ (36 : Int).natAbs < 2 ^ 64 then some (D.int ((36 : Int) ^ (7 : Int).toNat)) else none) = _
  rw [if_pos (by decide)]
  rfl
theorem e_208 : mulD (.int 208) (.int 78364164096) = some (.int 16299746131968) := e_mul (i := 208) (j := 78364164096) (big (i := 208) (b := 2 ^ 64) (by decide) (by decide)) (big (i := 78364164096) (b := 2 ^ 64) (by decide) (by decide))
def ssz : List Int := [24, 8, 12] ++ List.replicate 12 8
theorem szM1 : bind2 (lstM (consM (cI 24) (consM (cI 8) (consM (cI 12) nilM)))) (bind2 (lstM (consM (cI 8) nilM)) (cI 12) mulD) addD = fun _ => some (.lst (ssz.map D.int)) := funext fun env => rfl
theorem szM2 : bind2 (lstM (consM (cI 3) (consM (cI 8) (consM (cI 8) (consM (cI 4) (consM (cI 36) nilM)))))) (bind2 (lstM (consM (bind2 (cI 208) (bind2 (cI 36) (cI 7) powD) mulD) nilM)) (cI 13) mulD) addD = fun _ => some (.lst (lsz.map D.int)) := funext fun env => by
  have h : lstM (consM (bind2 (cI 208) (bind2 (cI 36) (cI 7) powD) mulD) nilM) env = some (.lst [.int 16299746131968]) := by
    simp [e_pow7, e_208]
  rw [e_bind2, e_bind2, h]
  rfl
theorem set_fst {α β : Type} (l : List (α × β)) (j : Nat) (x : α × β) (h : ∀ y, l[j]? = some y → y.1 = x.1) : (l.set j x).map (·.1) = l.map (·.1) := by
  rw [List.map_set]
  by_cases hj : j < l.length
  · have := h l[j] (List.getElem?_eq_getElem hj)
    rw [← this]
    refine List.ext_getElem? fun i => ?_
    by_cases hi : i = j
    · subst hi
      rw [List.getElem?_set_self (by simpa using hj)]
      simp [hj]
    · rw [List.getElem?_set_ne (Ne.symm hi)]
  · rw [List.set_eq_of_length_le (by simpa using Nat.le_of_not_lt hj)]
theorem getD_at {l : List Str} {k : Nat} (h : k < l.length) : atI (l.map D.str) (k : Int) = some (.str (l.getD k "")) := by
  refine at_lit k rfl ?_
  rw [List.getElem?_map, List.getElem?_eq_getElem h, List.getD_eq_getElem?_getD, List.getElem?_eq_getElem h]
  rfl
def mkS (names : List Str) (row : List Int) (n : Nat) : List Sy := (List.range n).map fun k => (names.getD k "", kindOf (row.getD (3 + k) 0))
theorem mkS_fst {names : List Str} {row : List Int} : (mkS names row names.length).map (·.1) = names := by
  unfold mkS
  rw [List.map_map]
  refine List.ext_getElem? fun i => ?_
  rw [List.getElem?_map]
  by_cases h : i < names.length
  · rw [List.getElem?_range h, List.getElem?_eq_getElem h]
    show some (names.getD i "") = _
    rw [List.getD_eq_getElem?_getD, List.getElem?_eq_getElem h]
    rfl
  · rw [List.getElem?_eq_none (by simpa using Nat.le_of_not_lt h), List.getElem?_eq_none (Nat.le_of_not_lt h)]
    rfl
def sy2 : D → Bool
  | .tup [_, _, .bl b] => b
  | _ => false
theorem symbols_ok (ns : List Int) (a : Nat) (ha : a ≤ 900) {ia : Int} (hia : ia = (a : Int)) : ∃ S : List Sy, SyOk S ∧ f_law_symbols [.scr (ns.map D.int), .int ia] = some (.lst (S.map syE)) := by
  obtain ⟨c0, row, hc0, hf, hd0⟩ := draw ns a (by omega) hia ssz (by decide) (by decide)
  obtain ⟨c1, row1, hc1, hf1, hd1⟩ := draw ns (a + 1) (by omega) (i := ia + 1) (by omega) lsz (by decide) (by decide)
  obtain ⟨r0, a0, p0, q0⟩ := hf.at 0 (i := 0) rfl rfl
  obtain ⟨r1, a1, p1, q1⟩ := hf.at 1 (i := 1) rfl rfl
  obtain ⟨r2, a2, p2, q2⟩ := hf.at 2 (i := 2) rfl rfl
  obtain ⟨m, hm, hp⟩ := at_list (l := manyL) (p := fun m => decide (0 ≤ m) && decide (m ≤ 12)) (by decide) p0 q0
  rw [Bool.and_eq_true] at hp
  have m0 := of_decide_eq_true hp.1
  have m1 := of_decide_eq_true hp.2
  obtain ⟨many, rfl⟩ := Int.eq_ofNat_of_zero_le m0
  obtain ⟨names, hn, hl, hnd, hok⟩ := labels_ok hf1 (many := many) (by omega)
  have rowat : ∀ k, k < many → ∃ r, atI (row.map D.int) (3 + (k : Int)) = some (.int r) ∧ row.getD (3 + k) 0 = r ∧ 0 ≤ r ∧ r < 8 := fun k hk => by
    obtain ⟨r, h1, h2, h3⟩ := hf.get (i := 3 + k) (s := 8) (by
      show ([24, 8, 12] ++ List.replicate 12 (8 : Int))[3 + k]? = _
      rw [List.getElem?_append_right (by simp)]; rw [List.getElem?_replicate, if_pos (by simp; omega)])
    exact ⟨r, at_lit (3 + k) (by omega) (by simp [h1]), by rw [List.getD_eq_getElem?_getD, h1]; rfl, h2, h3⟩
  have hS0 : SyOk (mkS names row many) := by
    subst hl
    refine ⟨by rw [mkS_fst]; exact hnd, fun q hq => ?_, fun q hq => ?_, by unfold mkS; rw [List.length_map, List.length_range]; omega⟩
    · refine hok q.1 ?_
      rw [← mkS_fst (names := names) (row := row)]
      exact List.mem_map.mpr ⟨q, hq, rfl⟩
    · unfold mkS at hq
      obtain ⟨k, hk, rfl⟩ := List.mem_map.mp hq
      obtain ⟨r, _, e, h0, h8⟩ := rowat k (List.mem_range.mp hk)
      rw [e]
      exact (kind_at h0 h8).2
  have comp : ∀ (x0 x1 : Option Sl), compM (bndN 7) yesM (tupM (consM (bind2 (nameV 5) (nameV 7) ixD) (consM (bind2 (bind2 (nameV 2) (bind2 (nameV 3) (bind2 (cI 3) (nameV 7) addD) ixD) ixD) (cI 0) ixD) (consM (bind2 (bind2 (nameV 2) (bind2 (nameV 3) (bind2 (cI 3) (nameV 7) addD) ixD) ixD) (cI 1) ixD) nilM))))
      [x0, x1, some (.val (.lst kinds)), some (.val (.lst (row.map D.int))), some (.val (.int (many : Int))), some (.val (.lst (names.map D.str))), none, none, none] (rngD 0 many) = some ((mkS names row many).map syE) := fun x0 x1 => by
    have := comp_rng (bnd := bndN 7) (tst := yesM) (elt := tupM (consM (bind2 (nameV 5) (nameV 7) ixD) (consM (bind2 (bind2 (nameV 2) (bind2 (nameV 3) (bind2 (cI 3) (nameV 7) addD) ixD) ixD) (cI 0) ixD) (consM (bind2 (bind2 (nameV 2) (bind2 (nameV 3) (bind2 (cI 3) (nameV 7) addD) ixD) ixD) (cI 1) ixD) nilM))))
      (env := [x0, x1, some (.val (.lst kinds)), some (.val (.lst (row.map D.int))), some (.val (.int (many : Int))), some (.val (.lst (names.map D.str))), none, none, none]) (g := fun k => syE (names.getD k "", kindOf (row.getD (3 + k) 0))) (n := many) fun k hk => by
      obtain ⟨r, b1, b2, b3, b4⟩ := rowat k hk
      have b5 := (kind_at b3 b4).1
      have b6 := getD_at (l := names) (k := k) (by omega)
      refine ⟨_, rfl, rfl, ?_⟩
      have t0 : ∀ u v : D, atI [u, v] 0 = some u := fun u v => rfl
      have t1 : ∀ u v : D, atI [u, v] 1 = some v := fun u v => rfl
      have b2' : row[3 + k]?.getD 0 = r := by rw [← b2, List.getD_eq_getElem?_getD]
      simp [b1, b5, b6, b2', t0, t1, syE]
    rw [this]
    unfold mkS
    rw [List.map_map]
    rfl
  have hmr : many ≤ 100000 := by omega
  have hr : (many : Int) ≤ 1000000 ∧ -1000000 ≤ (many : Int) := by omega
  have hk : kinds = [.tup [.int 0, .bl false], .tup [.int 2, .bl true], .tup [.int 1, .bl false], .tup [.int 2, .bl true], .tup [.int 2, .bl false], .tup [.int 0, .bl false], .tup [.int 2, .bl true], .tup [.int 0, .bl false]] := rfl
  have hm' : atI [D.int 5, .int 4, .int 6, .int 7, .int 5, .int 4, .int 3, .int 8, .int 5, .int 6, .int 4, .int 7, .int 5, .int 6, .int 4, .int 3, .int 5, .int 2, .int 6, .int 4, .int 12, .int 10, .int 1, .int 0] r0 = some (.int (many : Int)) := hm
  have hlenS : (mkS names row many).length = many := by unfold mkS; rw [List.length_map, List.length_range]
  have filt : ∀ (x0 x1 x2 x3 x4 x5 x6 x7 : Option Sl), ∃ l : List D, compM (bndN 8) (boolM (bind2 (nameV 8) (cI 2) ixD)) (nameV 8) [x0, x1, x2, x3, x4, x5, x6, x7, none] ((mkS names row many).map syE) = some l := fun x0 x1 x2 x3 x4 x5 x6 x7 => by
    refine ⟨_, comp_filter (p := sy2) (f := id) fun d hd => ?_⟩
    obtain ⟨q, _, rfl⟩ := List.mem_map.mp hd
    have t2 : atI [D.str q.1, .int q.2.1, .bl q.2.2] 2 = some (.bl q.2.2) := rfl
    exact ⟨_, rfl, by simp [syE, t2, sy2], fun _ => by simp⟩
  obtain ⟨lf, hlf⟩ := filt (some (.val (.scr (ns.map D.int)))) (some (.val (.int ia))) (some (.val (.lst kinds))) (some (.val (.lst (row.map D.int)))) (some (.val (.int (many : Int)))) (some (.val (.lst (names.map D.str)))) (some (.own ((mkS names row many).map syE))) none
  have comp' := comp (some (.val (.scr (ns.map D.int)))) (some (.val (.int ia)))
  rw [hk] at comp' hlf
  by_cases hz : 0 < many
  · have hmod0 : 0 ≤ r2 % (many : Int) := Int.emod_nonneg _ (by omega)
    have hmod1 : r2 % (many : Int) < (many : Int) := Int.emod_lt_of_pos _ (by omega)
    obtain ⟨j, hj⟩ := Int.eq_ofNat_of_zero_le hmod0
    have hj2 : j < many := by omega
    have nj := getD_at (l := names) (k := j) (by omega)
    have hset : SyOk ((mkS names row many).set j (names.getD j "", 2, true)) := by
      refine ⟨?_, fun q hq => ?_, fun q hq => ?_, by rw [List.length_set]; omega⟩
      · rw [set_fst _ _ _ fun y hy => ?_]
        · exact hS0.nd
        · unfold mkS at hy
          rw [List.getElem?_map, List.getElem?_range hj2] at hy
          cases hy
          rfl
      · rcases List.mem_or_eq_of_mem_set hq with h | rfl
        · exact hS0.nm q h
        · refine hok _ ?_
          rw [List.getD_eq_getElem?_getD, List.getElem?_eq_getElem (show j < names.length by omega)]
          exact List.getElem_mem _
      · rcases List.mem_or_eq_of_mem_set hq with h | rfl
        · exact hS0.kd q h
        · exact .inr (.inr (.inr rfl))
    have ixj : ixN many (j : Int) = some j := by
      unfold ixN
      have i1 : ¬ ((j : Int) < 0) := by omega
      simp [i1, hj2]
    by_cases hc : 0 < r1 ∧ lf.length = 0
    · refine ⟨(mkS names row many).set j (names.getD j "", 2, true), hset, ?_⟩
      have hll : lf = [] := List.eq_nil_of_length_eq_zero hc.2
      subst hll
      unfold f_law_symbols m_law_symbols
      simp only [szM1, szM2]
      simp [hc0, hd0, hc1, hd1, a0, a1, a2, hm', hn, hr, hmr, hlenS, rng_len, comp', hz, hc.1, hlf, eqI, e_mod (i := r2) (j := (many : Int)) (by omega), hj, nj, setItM, ixj, retF, List.map_set, syE]
    · refine ⟨mkS names row many, hS0, ?_⟩
      unfold f_law_symbols m_law_symbols
      simp only [szM1, szM2]
      by_cases hc1' : 0 < r1
      · have hll : ((lf.length : Int) == 0) = false := by
          have : ¬ ((lf.length : Int) = 0) := fun z => hc ⟨hc1', by omega⟩
          exact beq_eq_false_iff_ne.mpr this
        simp [hc0, hd0, hc1, hd1, a0, a1, a2, hm', hn, hr, hmr, hlenS, rng_len, comp', hz, hc1', hlf, eqI, retF, nextM]
        rw [hll]
        rfl
      · simp [hc0, hd0, hc1, hd1, a0, a1, a2, hm', hn, hr, hmr, hlenS, rng_len, comp', hz, hc1', hlf, eqI, retF, nextM]
  · refine ⟨mkS names row many, hS0, ?_⟩
    unfold f_law_symbols m_law_symbols
    simp only [szM1, szM2]
    simp [hc0, hd0, hc1, hd1, a0, a1, a2, hm', hn, hr, hmr, hlenS, rng_len, comp', hz, retF, nextM]
end My

set_option Elab.async false
set_option linter.all false
set_option maxRecDepth 100000
set_option maxHeartbeats 1000000
namespace My
open PySem PySem.Spec PyProof.Rows L2 Dl
/-! ### variables -/
theorem at_strs {l : List Str} {n : Nat} (hp : (l.all fun s => decide (s.length ≤ n) && s.cps.toList.all fun c => decide (c < 1114112)) = true) {r : Int} (h0 : 0 ≤ r) (h1 : r < l.length) : ∃ s, atI (l.map D.str) r = some (.str s) ∧ SLe n s := by
  obtain ⟨j, rfl⟩ := Int.eq_ofNat_of_zero_le h0
  have hj : j < l.length := by omega
  exact ⟨l[j], at_lit j rfl (by simp [hj]), SLe.lit (List.all_eq_true.mp hp _ (List.getElem_mem hj))⟩
theorem beqI (i j : Int) : (i == j) = decide (i = j) := by
  by_cases h : i = j
  · subst h; simp
  · rw [beq_eq_false_iff_ne.mpr h, decide_eq_false h]
def vsz : List Int := [8, 2] ++ List.replicate 8 15600000
theorem szM3 : bind2 (lstM (consM (cI 8) (consM (cI 2) nilM))) (bind2 (lstM (consM (cI 15600000) nilM)) (cI 8) mulD) addD = fun _ => some (.lst (vsz.map D.int)) := funext fun env => rfl
def venv (cell : D) (row : List D) (names : List Str) (x3 x4 x5 x6 x7 : Option Sl) : En := [some (.val cell), some (.val (.lst row)), some (.own (names.map D.str)), x3, x4, x5, x6, x7]
theorem txt_ok {r : Int} (h0 : 0 ≤ r) : strOfD [.int (100000 + r / 156 % 100000)] = some (.str (nt (100000 + r / 156 % 100000))) ∧ SLe 10 (nt (100000 + r / 156 % 100000)) := by
  have h1 : 0 ≤ r / 156 % 100000 := Int.emod_nonneg _ (by decide)
  have h2 : r / 156 % 100000 < 100000 := Int.emod_lt_of_pos _ (by decide)
  exact ⟨str_of (by omega) (by omega), num_le (by omega) (by omega)⟩
theorem cap_ok (r : Int) : ixD (.str zCaps) (.int (r / 6 % 26)) = some (.str (sg zCaps (r / 6 % 26))) ∧ SLe 1 (sg zCaps (r / 6 % 26)) :=
  sg_at caps_ok (by decide) (Int.emod_nonneg _ (by decide)) (by rw [caps_len]; exact Int.emod_lt_of_pos _ (by decide))
theorem var_body {cell : D} {row : List Int} (hf : Fits row vsz) {names : List Str} (hn : names.length ≤ 100) {k : Nat} (hk : k < 8) (x4 x5 x6 x7 : Option Sl) :
    ∃ v y4 y5 y6 y7, SLe 40 v ∧ l1_law_variables (venv cell (row.map D.int) names (some (.val (.int (k : Int)))) x4 x5 x6 x7) = some (.nx (venv cell (row.map D.int) (names ++ [v]) (some (.val (.int (k : Int)))) y4 y5 y6 y7)) := by
  obtain ⟨r1, a1, p1, q1⟩ := hf.at 1 (i := 1) rfl rfl
  obtain ⟨r2, a2, p2, q2⟩ := hf.at 2 (i := 2) rfl rfl
  obtain ⟨r, a, p, q⟩ := hf.at (2 + k) (i := 2 + (k : Int)) (s := 15600000) (by omega) (by
    show ([8, 2] ++ List.replicate 8 (15600000 : Int))[2 + k]? = _
    rw [List.getElem?_append_right (by simp)]; rw [List.getElem?_replicate, if_pos (by simp; omega)])
  obtain ⟨c1, c2⟩ := cap_ok r
  obtain ⟨d1, d2⟩ := cap_ok r2
  obtain ⟨t1, t2⟩ := txt_ok p
  have f1 : fdivD (.int r) (.int 6) = some (.int (r / 6)) := fdiv_ok (by decide) (by decide)
  have f2 : fdivD (.int r) (.int 156) = some (.int (r / 156)) := fdiv_ok (by decide) (by decide)
  have f3 : fdivD (.int r2) (.int 6) = some (.int (r2 / 6)) := fdiv_ok (by decide) (by decide)
  obtain ⟨e, e1, e2⟩ := at_strs (l := ["", "1", "01", "10", "2", "0", "9", "00001", "11", "001"]) (n := 5) (by decide +kernel) (r := r / 6 % 10) (Int.emod_nonneg _ (by decide)) (Int.emod_lt_of_pos _ (by decide))
  have e1' : atI [D.str "", .str "1", .str "01", .str "10", .str "2", .str "0", .str "9", .str "00001", .str "11", .str "001"] (r / 6 % 10) = some (.str e) := e1
  let v0 : Str := sg zCaps (r / 6 % 26) ++ cutS (nt (100000 + r / 156 % 100000)) (some 1) (some (r % 6 + 1))
  let v1 : Str := sg zCaps (r2 / 6 % 26) ++ e
  have s0 : addD (.str (sg zCaps (r / 6 % 26))) (.str (cutS (nt (100000 + r / 156 % 100000)) (some 1) (some (r % 6 + 1)))) = some (.str v0) := add_str c2 (t2.cut _ _) (by omega)
  have s0' := cut_str t2 (by omega) (some 1) (some (r % 6 + 1))
  have s1 : addD (.str (sg zCaps (r2 / 6 % 26))) (.str e) = some (.str v1) := add_str d2 e2 (by omega)
  have b0 : SLe 40 v0 := (c2.append (t2.cut _ _)).mono (by omega)
  have b1 : SLe 40 v1 := (d2.append e2).mono (by omega)
  have hl : names.length < 100000 := by omega
  by_cases g1 : r1 = 1
  · subst g1
    refine ⟨v1, some (.val (.int r)), some (.val (.str (sg zCaps (r / 6 % 26)))), some (.val (.str v1)), some (.val (.str (sg zCaps (r2 / 6 % 26)))), b1, ?_⟩
    unfold l1_law_variables venv
    simp [a1, a2, a, c1, d1, t1, f1, f2, f3, e1', s0, s0', s1, e_mod, eqI, beqI, hl]
  · refine ⟨v0, some (.val (.int r)), some (.val (.str (sg zCaps (r / 6 % 26)))), some (.val (.str v0)), x7, b0, ?_⟩
    unfold l1_law_variables venv
    simp [a1, a2, a, c1, t1, f1, f2, s0, s0', e_mod, eqI, beqI, hl, g1, nextM]
theorem var_loop {cell : D} {row : List Int} (hf : Fits row vsz) : ∀ (ks : List Nat) (names : List Str) (x3 x4 x5 x6 x7 : Option Sl), (∀ k ∈ ks, k < 8) → names.length + ks.length ≤ 100 →
    ∃ vs y3 y4 y5 y6 y7, vs.length = ks.length ∧ (∀ v ∈ vs, SLe 40 v) ∧ forM' (bndN 3) l1_law_variables (ks.map fun (k : Nat) => D.int (k : Int)) (venv cell (row.map D.int) names x3 x4 x5 x6 x7) = some (.nx (venv cell (row.map D.int) (names ++ vs) y3 y4 y5 y6 y7))
  | [], names, x3, x4, x5, x6, x7, _, _ => ⟨[], x3, x4, x5, x6, x7, rfl, by simp, by rw [List.append_nil]; rfl⟩
  | k :: ks, names, x3, x4, x5, x6, x7, hk, hl => by
    have hl' : names.length + (ks.length + 1) ≤ 100 := hl
    obtain ⟨v, y4, y5, y6, y7, hv, e⟩ := var_body (cell := cell) hf (names := names) (by omega) (hk k (List.mem_cons_self ..)) x4 x5 x6 x7
    obtain ⟨vs, z3, z4, z5, z6, z7, h1, h2, h3⟩ := var_loop hf ks (names ++ [v]) (some (.val (.int (k : Int)))) y4 y5 y6 y7 (fun j hj => hk j (List.mem_cons_of_mem _ hj)) (by rw [List.length_append]; simp; omega)
    refine ⟨v :: vs, z3, z4, z5, z6, z7, by simp [h1], fun w hw => ?_, ?_⟩
    · rcases List.mem_cons.mp hw with rfl | hw
      · exact hv
      · exact h2 w hw
    · rw [List.map_cons, for_cons]
      have : bndN 3 (.int (k : Int)) (venv cell (row.map D.int) names x3 x4 x5 x6 x7) = some (venv cell (row.map D.int) names (some (.val (.int (k : Int)))) x4 x5 x6 x7) := rfl
      rw [this]
      simp only [Option.bind_some]
      rw [e]
      simp only [Option.bind_some]
      rw [h3]
      simp
theorem variables_ok (c : Int) : ∃ vs : List Str, f_law_variables [.int c] = some (.lst (vs.map D.str)) ∧ 1 ≤ vs.length ∧ vs.length ≤ 8 ∧ ∀ v ∈ vs, SLe 40 v := by
  obtain ⟨row, hf, hd⟩ := digits_ok c vsz (sizes_ok (by decide)) (by decide)
  obtain ⟨r0, a0, p0, q0⟩ := hf.at 0 (i := 0) rfl rfl
  obtain ⟨m, hm, hp⟩ := at_list (l := [3, 1, 4, 2, 3, 2, 6, 8]) (p := fun m => decide (1 ≤ m) && decide (m ≤ 8)) (by decide) p0 q0
  rw [Bool.and_eq_true] at hp
  have m0 := of_decide_eq_true hp.1
  have m1 := of_decide_eq_true hp.2
  obtain ⟨many, rfl⟩ := Int.eq_ofNat_of_zero_le (show 0 ≤ m by omega)
  have hm' : atI [D.int 3, .int 1, .int 4, .int 2, .int 3, .int 2, .int 6, .int 8] r0 = some (.int (many : Int)) := hm
  have hr : (many : Int) ≤ 1000000 ∧ -1000000 ≤ (many : Int) := by omega
  obtain ⟨vs, y3, y4, y5, y6, y7, h1, h2, h3⟩ := var_loop (cell := .int c) hf (List.range many) [] none none none none none (fun k hk => by have := List.mem_range.mp hk; omega) (by simp; omega)
  have hx : ((List.range many).map fun (k : Nat) => D.int (k : Int)) = rngD 0 many := by unfold rngD; simp
  rw [hx] at h3
  rw [List.length_range] at h1
  refine ⟨vs, ?_, by omega, by omega, h2⟩
  unfold f_law_variables m_law_variables
  simp only [szM3]
  unfold venv at h3
  simp [hd, a0, hm', hr] at h3 ⊢
  simp [h3, retF]
end My

set_option Elab.async false
set_option linter.all false
set_option maxRecDepth 100000
set_option maxHeartbeats 1000000
namespace My
open PySem PySem.Spec PyProof.Rows L2 Dl
/-! ### terms -/
inductive T where
  | v (s : Str)
  | c (f : Str)
  | u (f : Str) (t : T)
  | b (f : Str) (s t : T)
  deriving DecidableEq
def enc : T → D
  | .v s => .str s
  | .c f => .tup [.str f]
  | .u f t => .tup [.str f, enc t]
  | .b f s t => .tup [.str f, enc s, enc t]
def T.size : T → Nat
  | .v _ => 1
  | .c _ => 1
  | .u _ t => 1 + t.size
  | .b _ s t => 1 + s.size + t.size
def Has (S : List Sy) (f : Str) (n : Int) : Prop := ∃ b, (f, n, b) ∈ S
def WT (S : List Sy) (Z : List Str) : T → Prop
  | .v s => SLe 40 s ∧ s ∈ Z
  | .c f => Has S f 0
  | .u f t => Has S f 1 ∧ WT S Z t
  | .b f s t => Has S f 2 ∧ WT S Z s ∧ WT S Z t
theorem T.pos : ∀ t : T, 1 ≤ t.size
  | .v _ => Nat.le_refl _
  | .c _ => Nat.le_refl _
  | .u _ t => Nat.le_add_right _ _
  | .b _ s t => by show 1 ≤ 1 + s.size + t.size; omega
theorem nodup_get {L : List Str} (h : L.Nodup) {i j : Nat} (hi : i < L.length) (hj : j < L.length) (e : L[i] = L[j]) : i = j := by
  have p := List.pairwise_iff_getElem.mp h
  rcases Nat.lt_trichotomy i j with z | z | z
  · exact absurd e (p i j hi hj z)
  · exact z
  · exact absurd e.symm (p j i hj hi z)
theorem nodup_fst {S : List Sy} (hS : SyOk S) {p q : Sy} (hp : p ∈ S) (hq : q ∈ S) (h : p.1 = q.1) : p = q := by
  obtain ⟨i, hi, rfl⟩ := List.getElem_of_mem hp
  obtain ⟨j, hj, rfl⟩ := List.getElem_of_mem hq
  have hn := hS.nd
  have : i = j := by
    refine nodup_get hn (i := i) (j := j) (by simpa using hi) (by simpa using hj) ?_
    simpa using h
  subst this
  rfl
def twos (S : List Sy) : List Str := (S.filter fun q => q.2.2).map (·.1)
theorem two_two {S : List Sy} (hS : SyOk S) {f : Str} {n : Int} (h : f ∈ twos S) (hn : Has S f n) : n = 2 := by
  obtain ⟨q, hq, rfl⟩ := List.mem_map.mp h
  obtain ⟨b, hb⟩ := hn
  obtain ⟨h1, h2⟩ := List.mem_filter.mp hq
  have e := nodup_fst hS hb h1 rfl
  have k := hS.kd q h1
  unfold kindOk at k
  rw [← e] at k h2
  rcases k with k | k | k | k <;> simp at k h2 <;> simp_all
theorem Has.nm {S : List Sy} (hS : SyOk S) {f : Str} {n : Int} (h : Has S f n) : NmOk f := by
  obtain ⟨b, hb⟩ := h
  exact hS.nm _ hb
theorem enc_ok {S : List Sy} {Z : List Str} (hS : SyOk S) : ∀ {t : T} {n : Nat}, WT S Z t → t.size ≤ n → Okd n (enc t)
  | .v s, n, h, _ => okd_str h.1
  | .c f, n, h, hn => by
    have h1 : 1 ≤ n := hn
    refine Okd.mono (n := 1) (okd_tup (n := 0) fun d hd => ?_) hn
    have : d = .str f := by simpa using hd
    rw [this]
    exact okd_str (h.nm hS).sle
  | .u f t, n, h, hn => by
    have h1 : 1 + t.size ≤ n := hn
    obtain ⟨m, rfl⟩ : ∃ m, n = m + 1 := ⟨n - 1, by omega⟩
    refine okd_tup fun d hd => ?_
    have hd' : d = .str f ∨ d = enc t := by simpa using hd
    rcases hd' with rfl | rfl
    · exact okd_str (h.1.nm hS).sle
    · exact enc_ok hS h.2 (by omega)
  | .b f s t, n, h, hn => by
    have h1 : 1 + s.size + t.size ≤ n := hn
    obtain ⟨m, rfl⟩ : ∃ m, n = m + 1 := ⟨n - 1, by omega⟩
    refine okd_tup fun d hd => ?_
    have hd' : d = .str f ∨ d = enc s ∨ d = enc t := by simpa using hd
    rcases hd' with rfl | rfl | rfl
    · exact okd_str (h.1.nm hS).sle
    · exact enc_ok hS h.2.1 (by omega)
    · exact enc_ok hS h.2.2 (by omega)
/-! ### turned -/
theorem isi_str (s : Str) : isiD "str" (.str s) = some (.bl true) := by
  have : kitB "str" "str" = some true := by decide +kernel
  unfold isiD
  rw [if_neg (fun h => nomatch h)]
  show (kitB "str" "str").bind _ = _
  rw [this]
  rfl
theorem isi_tup (ds : List D) : isiD "str" (.tup ds) = some (.bl false) := by
  have : kitB "tuple" "str" = some false := by decide +kernel
  unfold isiD
  rw [if_neg (fun h => nomatch h)]
  show (kitB "tuple" "str").bind _ = _
  rw [this]
  rfl
theorem cut1 (x : D) : slD (.tup [x]) (some 1) none = some (.tup []) := rfl
theorem cut2 (x y : D) : slD (.tup [x, y]) (some 1) none = some (.tup [y]) := rfl
theorem cut3 (x y z : D) : slD (.tup [x, y, z]) (some 1) none = some (.tup [y, z]) := rfl
theorem cut_tail (d : D) (ds : List D) : cutL (d :: ds) (some 1) none = ds := by
  unfold cutL
  rw [HT.sIx_none]
  have : HT.sIx (d :: ds).length 0 (some 1) = 1 := by
    rw [show (1 : Int) = ((1 : Nat) : Int) from rfl, HT.sIx_nat]
    simp
  rw [this]
  simp
theorem t10 (x : D) : atI [x] 0 = some x := rfl
theorem t20 (x y : D) : atI [x, y] 0 = some x := rfl
theorem t21 (x y : D) : atI [x, y] 1 = some y := rfl
theorem t30 (x y z : D) : atI [x, y, z] 0 = some x := rfl
theorem t31 (x y z : D) : atI [x, y, z] 1 = some y := rfl
theorem t32 (x y z : D) : atI [x, y, z] 2 = some z := rfl
theorem isi_enc (t : T) : (match t with | .v _ => true | _ => false) = (match enc t with | .str _ => true | _ => false) := by cases t <;> rfl
inductive Trn (S : List Sy) : T → T → Prop where
  | v (s : Str) : Trn S (.v s) (.v s)
  | c (f : Str) : Trn S (.c f) (.c f)
  | u (f : Str) {t t' : T} : Trn S t t' → Trn S (.u f t) (.u f t')
  | b (f : Str) {s t s' t' : T} : Trn S s s' → Trn S t t' → Trn S (.b f s t) (.b f s' t')
  | w (f : Str) {s t s' t' : T} : f ∈ twos S → Trn S s s' → Trn S t t' → Trn S (.b f s t) (.b f t' s')
theorem turned_ok {S : List Sy} {Z : List Str} (hS : SyOk S) (row : List Int) (hr : row.length ≤ 1000) : ∀ (t : T) (k a : Nat), WT S Z t → t.size ≤ k → ∃ t' b, f_law_turned_ k [.lst ((twos S).map D.str), enc t, .lst (row.map D.int), .int (a : Int)] = some (.lst [enc t', .int ((b : Nat) : Int)]) ∧ WT S Z t' ∧ t'.size = t.size ∧ Trn S t t'
  | .v s, k, a, h, hk => by
    obtain ⟨k, rfl⟩ : ∃ k', k = k' + 1 := ⟨k - 1, by have : 1 ≤ k := hk; omega⟩
    refine ⟨.v s, a, ?_, h, rfl, .v s⟩
    show bodyM 4 9 (m_law_turned (f_law_turned_ k)) _ = _
    unfold m_law_turned
    simp [enc, isi_str, isi_tup, unM, retF]
  | .c f, k, a, h, hk => by
    obtain ⟨k, rfl⟩ : ∃ k', k = k' + 1 := ⟨k - 1, by have : 1 ≤ k := hk; omega⟩
    have hf : f ∉ twos S := fun hf => by have := two_two hS hf h; omega
    refine ⟨.c f, a, ?_, h, rfl, .c f⟩
    show bodyM 4 9 (m_law_turned (f_law_turned_ k)) _ = _
    unfold m_law_turned
    simp [enc, isi_str, isi_tup, unM, retF, lstF, addD, tupleD, cut_tail, for_nil, for_cons, truM, truD, in_strs, hf, cut1, t10, nextM]
  | .u f t, k, a, h, hk => by
    have h1 : 1 + t.size ≤ k := hk
    obtain ⟨k, rfl⟩ : ∃ k', k = k' + 1 := ⟨k - 1, by omega⟩
    have hf : f ∉ twos S := fun hf => by have := two_two hS hf h.1; omega
    obtain ⟨t', b, e, w, z, q⟩ := turned_ok hS row hr t k a h.2 (by omega)
    refine ⟨.u f t', b, ?_, ⟨h.1, w⟩, by show 1 + t'.size = 1 + t.size; omega, .u f q⟩
    show bodyM 4 9 (m_law_turned (f_law_turned_ k)) _ = _
    unfold m_law_turned
    simp [enc, isi_str, isi_tup, unM, retF, lstF, addD, tupleD, cut_tail, for_nil, for_cons, truM, truD, in_strs, hf, cut2, t20, t21, nextM, l1_law_turned, e]
  | .b f s t, k, a, h, hk => by
    have h1 : 1 + s.size + t.size ≤ k := hk
    obtain ⟨k, rfl⟩ : ∃ k', k = k' + 1 := ⟨k - 1, by omega⟩
    by_cases hf : f ∈ twos S
    · obtain ⟨s', b1, e1, w1, z1, q1⟩ := turned_ok hS row hr s k (a + 1) h.2.1 (by omega)
      obtain ⟨t', b2, e2, w2, z2, q2⟩ := turned_ok hS row hr t k b1 h.2.2 (by omega)
      have hcast : ((a + 1 : Nat) : Int) = (a : Int) + 1 := by omega
      rw [hcast] at e1
      by_cases ha : a < row.length
      · have c1 : atI (row.map D.int) (a : Int) = some (.int row[a]) := atI_nat (by simp [ha])
        by_cases hm : row[a] % 2 = 1
        · refine ⟨.b f t' s', b2, ?_, ⟨h.1, w2, w1⟩, by show 1 + t'.size + s'.size = 1 + s.size + t.size; omega, .w f hf q1 q2⟩
          show bodyM 4 9 (m_law_turned (f_law_turned_ k)) _ = _
          unfold m_law_turned
          simp [enc, isi_str, isi_tup, unM, retF, lstF, addD, tupleD, cut_tail, for_nil, for_cons, truM, truD, in_strs, hf, cut3, t20, t21, t30, t31, t32, nextM, l1_law_turned, e1, e2, ha, c1, hm, e_mod, eqI, beqI]
        · refine ⟨.b f s' t', b2, ?_, ⟨h.1, w1, w2⟩, by show 1 + s'.size + t'.size = 1 + s.size + t.size; omega, .b f q1 q2⟩
          show bodyM 4 9 (m_law_turned (f_law_turned_ k)) _ = _
          unfold m_law_turned
          simp [enc, isi_str, isi_tup, unM, retF, lstF, addD, tupleD, cut_tail, for_nil, for_cons, truM, truD, in_strs, hf, cut3, t20, t21, t30, t31, t32, nextM, l1_law_turned, e1, e2, ha, c1, hm, e_mod, eqI, beqI]
      · refine ⟨.b f s' t', b2, ?_, ⟨h.1, w1, w2⟩, by show 1 + s'.size + t'.size = 1 + s.size + t.size; omega, .b f q1 q2⟩
        show bodyM 4 9 (m_law_turned (f_law_turned_ k)) _ = _
        unfold m_law_turned
        simp [enc, isi_str, isi_tup, unM, retF, lstF, addD, tupleD, cut_tail, for_nil, for_cons, truM, truD, in_strs, hf, cut3, t20, t21, t30, t31, t32, nextM, l1_law_turned, e1, e2, ha, e_mod, eqI, beqI]
    · obtain ⟨s', b1, e1, w1, z1, q1⟩ := turned_ok hS row hr s k a h.2.1 (by omega)
      obtain ⟨t', b2, e2, w2, z2, q2⟩ := turned_ok hS row hr t k b1 h.2.2 (by omega)
      refine ⟨.b f s' t', b2, ?_, ⟨h.1, w1, w2⟩, by show 1 + s'.size + t'.size = 1 + s.size + t.size; omega, .b f q1 q2⟩
      show bodyM 4 9 (m_law_turned (f_law_turned_ k)) _ = _
      unfold m_law_turned
      simp [enc, isi_str, isi_tup, unM, retF, lstF, addD, tupleD, cut_tail, for_nil, for_cons, truM, truD, in_strs, hf, cut3, t20, t21, t30, t31, t32, nextM, l1_law_turned, e1, e2]
end My

set_option Elab.async false
set_option linter.all false
set_option maxRecDepth 100000
set_option maxHeartbeats 2000000
namespace My
open PySem PySem.Spec PyProof.Rows L2 Dl
/-! ### renamed -/
theorem index_ok {vs : List Str} {s : Str} (h : s ∈ vs) : ∃ j : Nat, indexD (.lst (vs.map D.str)) (.str s) = some (.int (j : Int)) := by
  cases e : (vs.map V.str).findIdx? fun z => eqV z (.str s) with
  | none =>
    have h2 := List.findIdx?_eq_none_iff.mp e (.str s) (List.mem_map.mpr ⟨s, h, rfl⟩)
    have h3 : eqV (.str s) (.str s) = (s == s) := rfl
    rw [h3, beq_self_eq_true] at h2
    cases h2
  | some j =>
    refine ⟨j, ?_⟩
    show ((flatD (.str s)).bind fun v => (flatL (vs.map D.str)).bind fun us => (us.findIdx? fun z => eqV z v).bind fun j => some (D.int (j : Int))) = _
    rw [flat_strs]
    show ((vs.map V.str).findIdx? fun z => eqV z (.str s)).bind _ = _
    rw [e]
    rfl
theorem pick0 {α : Type} (f : α → D) (l : List α) (hl : 0 < l.length) (i : Int) : ∃ a, a ∈ l ∧ atI (l.map f) (i % (l.length : Int)) = some (f a) := by
  have h0 := Int.emod_nonneg i (show (l.length : Int) ≠ 0 by omega)
  have h1 := Int.emod_lt_of_pos i (show (0 : Int) < (l.length : Int) by omega)
  obtain ⟨k, hk⟩ := Int.eq_ofNat_of_zero_le h0
  have hk2 : k < l.length := by omega
  refine ⟨l[k], List.getElem_mem hk2, at_lit k hk ?_⟩
  simp [hk2]
theorem renamed_ok {S : List Sy} {vs : List Str} (hv : ∀ v ∈ vs, SLe 40 v) (hl : 1 ≤ vs.length) : ∀ (t : T) (k : Nat), WT S vs t → t.size ≤ k → ∃ t', f_law_renamed_ k [enc t, .lst (vs.map D.str)] = some (enc t') ∧ WT S vs t' ∧ t'.size = t.size
  | .v s, k, h, hk => by
    obtain ⟨k, rfl⟩ : ∃ k', k = k' + 1 := ⟨k - 1, by have : 1 ≤ k := hk; omega⟩
    obtain ⟨j, hj⟩ := index_ok h.2
    obtain ⟨a, ha, e⟩ := pick0 D.str vs (by omega) ((j : Int) + 1)
    have hm := e_mod (i := (j : Int) + 1) (j := (vs.length : Int)) (by omega)
    refine ⟨.v a, ?_, ⟨hv a ha, ha⟩, rfl⟩
    show bodyM 2 3 (m_law_renamed (f_law_renamed_ k)) _ = _
    unfold m_law_renamed
    simp [enc, isi_str, unM, retF, hj, hm, e]
  | .c f, k, h, hk => by
    obtain ⟨k, rfl⟩ : ∃ k', k = k' + 1 := ⟨k - 1, by have : 1 ≤ k := hk; omega⟩
    refine ⟨.c f, ?_, h, rfl⟩
    show bodyM 2 3 (m_law_renamed (f_law_renamed_ k)) _ = _
    unfold m_law_renamed
    simp [enc, isi_tup, unM, retF, t10, cut_tail, compM, addD, tupleD, nextM]
  | .u f t, k, h, hk => by
    have h1 : 1 + t.size ≤ k := hk
    obtain ⟨k, rfl⟩ : ∃ k', k = k' + 1 := ⟨k - 1, by omega⟩
    obtain ⟨t', e, w, z⟩ := renamed_ok hv hl t k h.2 (by omega)
    refine ⟨.u f t', ?_, ⟨h.1, w⟩, by show 1 + t'.size = 1 + t.size; omega⟩
    show bodyM 2 3 (m_law_renamed (f_law_renamed_ k)) _ = _
    unfold m_law_renamed
    simp [enc, isi_tup, unM, retF, t20, cut_tail, compM, addD, tupleD, nextM, e]
  | .b f s t, k, h, hk => by
    have h1 : 1 + s.size + t.size ≤ k := hk
    obtain ⟨k, rfl⟩ : ∃ k', k = k' + 1 := ⟨k - 1, by omega⟩
    obtain ⟨s', e1, w1, z1⟩ := renamed_ok hv hl s k h.2.1 (by omega)
    obtain ⟨t', e2, w2, z2⟩ := renamed_ok hv hl t k h.2.2 (by omega)
    refine ⟨.b f s' t', ?_, ⟨h.1, w1, w2⟩, by show 1 + s'.size + t'.size = 1 + s.size + t.size; omega⟩
    show bodyM 2 3 (m_law_renamed (f_law_renamed_ k)) _ = _
    unfold m_law_renamed
    simp [enc, isi_tup, unM, retF, t30, cut_tail, compM, addD, tupleD, nextM, e1, e2]
/-! ### drawn terms -/
theorem pick {α : Type} (f : α → D) (l : List α) (hl : 0 < l.length) (i : Int) : ∃ a, a ∈ l ∧ atI (l.map f) (i % (l.length : Int)) = some (f a) := by
  have h0 := Int.emod_nonneg i (show (l.length : Int) ≠ 0 by omega)
  have h1 := Int.emod_lt_of_pos i (show (0 : Int) < (l.length : Int) by omega)
  obtain ⟨k, hk⟩ := Int.eq_ofNat_of_zero_le h0
  have hk2 : k < l.length := by omega
  refine ⟨l[k], List.getElem_mem hk2, at_lit k hk ?_⟩
  simp [hk2]
theorem sift {i : Nat} {env : En} {c : En → Option Bool} {e : En → Option D} {p : Sy → Bool} {f : Sy → D} : ∀ {S : List Sy}, (∀ q ∈ S, c (env.set i (some (.val (syE q)))) = some (p q)) → (∀ q ∈ S, e (env.set i (some (.val (syE q)))) = some (f q)) → compM (bndN i) c e env (S.map syE) = some ((S.filter p).map f)
  | [], _, _ => rfl
  | q :: S, h, h' => by
    have hq := h q (List.mem_cons_self ..)
    have hq' := h' q (List.mem_cons_self ..)
    have ih := sift (S := S) (fun q' m => h q' (List.mem_cons_of_mem _ m)) fun q' m => h' q' (List.mem_cons_of_mem _ m)
    rw [List.map_cons]
    unfold compM bndN
    simp only [Option.bind_some, hq, hq']
    have ih2 : compM (fun d env => some (env.set i (some (.val d)))) c e env (S.map syE) = some ((S.filter p).map f) := ih
    cases hp : p q with
    | true => simp [hp, ih2]
    | false => simp [hp, ih2]
theorem twos_map (S : List Sy) : (S.filter fun q => q.2.2).map (fun q => D.str q.1) = (twos S).map D.str := by
  unfold twos
  rw [List.map_map]
  rfl
def leaves (S : List Sy) (vs : List Str) : List T := vs.map T.v ++ (S.filter fun q => q.2.1 == 0).map fun q => T.c q.1
theorem leaves_map (S : List Sy) (vs : List Str) : (leaves S vs).map enc = vs.map D.str ++ (S.filter fun q => q.2.1 == 0).map fun q => D.tup [.str q.1] := by
  unfold leaves
  rw [List.map_append, List.map_map, List.map_map]
  rfl
theorem leaf_ok {S : List Sy} {vs : List Str} (hv : ∀ v ∈ vs, SLe 40 v) {t : T} (h : t ∈ leaves S vs) : WT S vs t ∧ t.size = 1 := by
  rcases List.mem_append.mp h with h | h
  · obtain ⟨v, hm, rfl⟩ := List.mem_map.mp h
    exact ⟨⟨hv v hm, hm⟩, rfl⟩
  · obtain ⟨q, hm, rfl⟩ := List.mem_map.mp h
    obtain ⟨h1, h2⟩ := List.mem_filter.mp hm
    have : q.2.1 = 0 := by simpa using h2
    exact ⟨⟨q.2.2, by rw [← this]; exact h1⟩, rfl⟩
def fitP (R t : Int) (q : Sy) : Bool := decide (q.2.1 < R) && (decide (0 < t) || !q.2.2)
def menu (S : List Sy) (R t : Int) : List Sy := ((S.filter (fitP R t)).filter fun q => decide (0 < q.2.1)) ++ (S.filter (fitP R t)).filter fun q => q.2.2
theorem menu_mem {S : List Sy} (hS : SyOk S) {R t : Int} {q : Sy} (h : q ∈ menu S R t) : q ∈ S ∧ q.2.1 < R ∧ ((q.2.1 = 1 ∧ q.2.2 = false) ∨ q.2.1 = 2) := by
  have : q ∈ S.filter (fitP R t) ∧ (0 < q.2.1 ∨ q.2.2 = true) := by
    rcases List.mem_append.mp h with h | h
    · obtain ⟨h1, h2⟩ := List.mem_filter.mp h
      exact ⟨h1, .inl (of_decide_eq_true h2)⟩
    · obtain ⟨h1, h2⟩ := List.mem_filter.mp h
      exact ⟨h1, .inr h2⟩
  obtain ⟨h1, h2⟩ := this
  obtain ⟨h3, h4⟩ := List.mem_filter.mp h1
  unfold fitP at h4
  rw [Bool.and_eq_true] at h4
  refine ⟨h3, of_decide_eq_true h4.1, ?_⟩
  have k := hS.kd q h3
  unfold kindOk at k
  obtain ⟨f, n, b⟩ := q
  simp only [Prod.mk.injEq] at k h2 ⊢
  rcases k with ⟨rfl, rfl⟩ | ⟨rfl, rfl⟩ | ⟨rfl, rfl⟩ | ⟨rfl, rfl⟩ <;> simp at h2 ⊢
theorem digit_ok (row : List Int) (a : Nat) : ∃ g : Int, ∀ (e0 e1 e4 e5 e6 e8 e9 e10 e11 e12 e13 e14 e15 e16 e17 e18 : Option Sl), ifM (boolM (bind2 (nameV 3) (callM lenD (consM (nameV 2) nilM)) (cmpD fun i j => decide (i < j)))) (setM 7 (callM intD (consM (bind2 (nameV 2) (nameV 3) ixD) nilM))) nextM [e0, e1, some (.val (.lst (row.map D.int))), some (.val (.int (a : Int))), e4, e5, e6, some (.val (.int 0)), e8, e9, e10, e11, e12, e13, e14, e15, e16, e17, e18] =
    some (.nx [e0, e1, some (.val (.lst (row.map D.int))), some (.val (.int (a : Int))), e4, e5, e6, some (.val (.int g)), e8, e9, e10, e11, e12, e13, e14, e15, e16, e17, e18]) := by
  by_cases ha : a < row.length
  · have c1 : atI (row.map D.int) (a : Int) = some (.int row[a]) := atI_nat (by simp [ha])
    exact ⟨row[a], fun _ _ _ _ _ _ _ _ _ _ _ _ _ _ _ _ => by simp [ha, c1]⟩
  · exact ⟨0, fun _ _ _ _ _ _ _ _ _ _ _ _ _ _ _ _ => by simp [ha, nextM]⟩
def tl_term (self : List D → Option D) : En → Option Out :=
    (seqM (ifM (boolM (bind2 (bind2 (nameV 10) (cI 1) ixD) (cI 1) eqD)) (seqM (setM 16 (callM self (consM (nameV 0) (consM (nameV 1) (consM (nameV 2) (consM (bind2 (nameV 3) (cI 1) addD) (consM (bind2 (nameV 4) (cI 1) subD) (consM (nameV 11) (consM (nameV 6) nilM)))))))))
    (retF (lstM (consM (tupM (consM (bind2 (nameV 10) (cI 0) ixD) (consM (bind2 (nameV 16) (cI 0) ixD) nilM))) (consM (bind2 (nameV 16) (cI 1) ixD) (consM (bind2 (nameV 16) (cI 2) ixD) nilM)))))) nextM)
    (seqM (ifM (andM (boolM (bind2 (nameV 10) (cI 2) ixD)) (boolM (bind2 (bind2 (nameV 7) (cI 72000) fdivD) (nameV 6) (cmpD fun i j => decide (i ≤ j))))) (seqM (setM 13 (callM self (consM (nameV 0) (consM (nameV 1) (consM (nameV 2) (consM (bind2 (nameV 3) (cI 1) addD) (consM (bind2 (bind2 (nameV 4) (cI 1) subD) (cI 2) fdivD) (consM (bind2 (nameV 11) (cI 2) fdivD) (consM (nameV 6) nilM)))))))))
    (seqM (setM 17 (callM f_law_turned (consM (asLst (lcM [18] (itemsA (nameV 0)) (bndN 18) (boolM (bind2 (nameV 18) (cI 2) ixD)) (bind2 (nameV 18) (cI 0) ixD))) (consM (bind2 (nameV 13) (cI 0) ixD) (consM (nameV 2) (consM (bind2 (nameV 13) (cI 1) ixD) nilM))))))
    (seqM (ifM (boolM (bind2 (bind2 (nameV 7) (cI 72000) fdivD) (nameV 6) eqD)) (setM 17 (lstM (consM (callM f_law_renamed (consM (bind2 (nameV 17) (cI 0) ixD) (consM (nameV 1) nilM))) (consM (bind2 (nameV 17) (cI 1) ixD) nilM)))) nextM)
    (retF (lstM (consM (tupM (consM (bind2 (nameV 10) (cI 0) ixD) (consM (bind2 (nameV 13) (cI 0) ixD) (consM (bind2 (nameV 17) (cI 0) ixD) nilM)))) (consM (bind2 (nameV 17) (cI 1) ixD) (consM (bind2 (cI 1) (bind2 (cI 2) (bind2 (nameV 13) (cI 2) ixD) mulD) addD) nilM)))))))) nextM)
    (seqM (setM 12 (bind2 (cI 1) (bind2 (bind2 (bind2 (nameV 7) (cI 1200) fdivD) (cI 60) modD) (bind2 (nameV 4) (cI 2) subD) modD) addD))
    (seqM (setM 13 (callM self (consM (nameV 0) (consM (nameV 1) (consM (nameV 2) (consM (bind2 (nameV 3) (cI 1) addD) (consM (nameV 12) (consM (nameV 11) (consM (nameV 6) nilM)))))))))
    (seqM (setM 14 (callM self (consM (nameV 0) (consM (nameV 1) (consM (nameV 2) (consM (bind2 (nameV 13) (cI 1) ixD) (consM (bind2 (bind2 (nameV 4) (cI 1) subD) (nameV 12) subD) (consM (bind2 (nameV 11) (bind2 (nameV 13) (cI 2) ixD) subD) (consM (nameV 6) nilM)))))))))
    (retF (lstM (consM (tupM (consM (bind2 (nameV 10) (cI 0) ixD) (consM (bind2 (nameV 13) (cI 0) ixD) (consM (bind2 (nameV 14) (cI 0) ixD) nilM)))) (consM (bind2 (nameV 14) (cI 1) ixD) (consM (bind2 (bind2 (callM intD (consM (bind2 (nameV 10) (cI 2) ixD) nilM)) (bind2 (nameV 13) (cI 2) ixD) addD) (bind2 (nameV 14) (cI 2) ixD) addD) nilM))))))))))
theorem term_head (self : List D → Option D) : m_law_term self = (seqM (setM 7 (cI 0))
    (seqM (ifM (boolM (bind2 (nameV 3) (callM lenD (consM (nameV 2) nilM)) (cmpD fun i j => decide (i < j)))) (setM 7 (callM intD (consM (bind2 (nameV 2) (nameV 3) ixD) nilM))) nextM)
    (seqM (setM 8 (asLst (lcM [18] (itemsA (nameV 0)) (bndN 18) (andM (boolM (bind2 (bind2 (nameV 18) (cI 1) ixD) (nameV 4) (cmpD fun i j => decide (i < j)))) (orM (boolM (bind2 (nameV 5) (cI 0) (cmpD fun i j => decide (j < i)))) (notM (boolM (bind2 (nameV 18) (cI 2) ixD))))) (nameV 18))))
    (seqM (setM 9 (bind2 (asLst (lcM [18] (itemsA (nameV 8)) (bndN 18) (boolM (bind2 (bind2 (nameV 18) (cI 1) ixD) (cI 0) (cmpD fun i j => decide (j < i)))) (nameV 18))) (asLst (lcM [18] (itemsA (nameV 8)) (bndN 18) (boolM (bind2 (nameV 18) (cI 2) ixD)) (nameV 18))) addD))
    (seqM (ifM (orM (boolM (bind2 (callM lenD (consM (nameV 9) nilM)) (cI 0) eqD)) (boolM (bind2 (bind2 (nameV 7) (cI 20) modD) (bind2 (lstM (consM (cI 6) (consM (cI 1) nilM))) (callM intD (consM (bind2 (nameV 4) (cI 6) (cmpD fun i j => decide (j < i))) nilM)) ixD) (cmpD fun i j => decide (i < j))))) (seqM (setM 15 (bind2 (nameV 1) (asLst (lcM [18] (itemsA (nameV 0)) (bndN 18) (boolM (bind2 (bind2 (nameV 18) (cI 1) ixD) (cI 0) eqD)) (tupM (consM (bind2 (nameV 18) (cI 0) ixD) nilM)))) addD))
    (retF (lstM (consM (bind2 (nameV 15) (bind2 (bind2 (bind2 (nameV 7) (cI 20) fdivD) (cI 60) modD) (callM lenD (consM (nameV 15) nilM)) modD) ixD) (consM (bind2 (nameV 3) (cI 1) addD) (consM (cI 0) nilM)))))) nextM)
    (seqM (setM 10 (bind2 (nameV 9) (bind2 (bind2 (bind2 (nameV 7) (cI 20) fdivD) (cI 60) modD) (callM lenD (consM (nameV 9) nilM)) modD) ixD))
    (seqM (setM 11 (bind2 (nameV 5) (callM intD (consM (bind2 (nameV 10) (cI 2) ixD) nilM)) subD))
    (tl_term self)))))))) := rfl
def bI (b : Bool) : Int := if b = true then 1 else 0
/-- what is left once a symbol is chosen -/
theorem term_tail {S : List Sy} (hS : SyOk S) {vs : List Str} {row : List Int} (hv : ∀ v ∈ vs, SLe 40 v) (hl : 1 ≤ vs.length) (hr : row.length ≤ 1000) {self : List D → Option D} {R t g cp : Int} {room a : Nat} (hR : R = (room : Int)) (h64 : room ≤ 64)
    (ih : ∀ (room' b : Nat) (R' A' t' : Int), R' = (room' : Int) → A' = (b : Int) → 1 ≤ room' → room' < room → ∃ tm b' m, self [.lst (S.map syE), .lst (vs.map D.str), .lst (row.map D.int), .int A', .int R', .int t', .int cp] = some (.lst [enc tm, .int ((b' : Nat) : Int), .int ((m : Nat) : Int)]) ∧ WT S vs tm ∧ tm.size ≤ room' ∧ m ≤ tm.size)
    {q : Sy} (hq : q ∈ S) (hlt : q.2.1 < R) (hk : (q.2.1 = 1 ∧ q.2.2 = false) ∨ q.2.1 = 2) (x8 x9 : Option Sl) (l : Int) :
    ∃ tm b' m, tl_term self [some (.val (.lst (S.map syE))), some (.val (.lst (vs.map D.str))), some (.val (.lst (row.map D.int))), some (.val (.int (a : Int))), some (.val (.int R)), some (.val (.int t)), some (.val (.int cp)), some (.val (.int g)), x8, x9, some (.val (syE q)), some (.val (.int l)), none, none, none, none, none, none, none] = some (.rt (.lst [enc tm, .int ((b' : Nat) : Int), .int ((m : Nat) : Int)])) ∧ WT S vs tm ∧ tm.size ≤ room ∧ m ≤ tm.size := by
  obtain ⟨f, n, w⟩ := q
  simp only at hlt hk
  have hsl : S.length ≤ 100000 := by have := hS.len; omega
  rcases hk with ⟨rfl, rfl⟩ | rfl
  · obtain ⟨tm, b', m, e, h1, h2, h3⟩ := ih (room - 1) (a + 1) (R - 1) ((a : Int) + 1) l (by omega) (by omega) (by omega) (by omega)
    refine ⟨.u f tm, b', m, ?_, ⟨⟨_, hq⟩, h1⟩, by show 1 + tm.size ≤ room; omega, by show m ≤ 1 + tm.size; omega⟩
    unfold tl_term
    simp [syE, t30, t31, t32, eqI, beqI, e, retF, lstF, enc]
  · by_cases hc : w = true ∧ g / 72000 ≤ cp
    · obtain ⟨rfl, hg⟩ := hc
      obtain ⟨tm, b', m, e, h1, h2, h3⟩ := ih ((room - 1) / 2) (a + 1) ((R - 1) / 2) ((a : Int) + 1) (l / 2) (by omega) (by omega) (by omega) (by omega)
      obtain ⟨tm2, b2, e2, w2, z2, _⟩ := turned_ok hS row hr tm 64 b' h1 (by omega)
      have f1 : fdivD (.int g) (.int 72000) = some (.int (g / 72000)) := fdiv_ok (by decide) (by decide)
      have f2 : fdivD (.int (R - 1)) (.int 2) = some (.int ((R - 1) / 2)) := fdiv_ok (by decide) (by decide)
      have f3 : fdivD (.int l) (.int 2) = some (.int (l / 2)) := fdiv_ok (by decide) (by decide)
      have f4 : mulD (.int 2) (.int (m : Int)) = some (.int (2 * (m : Int))) := e_mul (big (b := 2 ^ 64) (by decide) (by decide)) (big (b := 2 ^ 64) (by omega) (by decide))
      have cT : ∀ (e0 e1 e2 e3 e4 e5 e6 e7 e8 e9 e10 e11 e12 e13 e14 e15 e16 e17 : Option Sl), compM (bndN 18) (boolM (bind2 (nameV 18) (cI 2) ixD)) (bind2 (nameV 18) (cI 0) ixD) [e0, e1, e2, e3, e4, e5, e6, e7, e8, e9, e10, e11, e12, e13, e14, e15, e16, e17, none] (S.map syE) = some ((twos S).map D.str) := fun _ _ _ _ _ _ _ _ _ _ _ _ _ _ _ _ _ _ => by
        rw [← twos_map]
        exact sift (fun q hq => by simp [syE, t32]) fun q hq => by simp [syE, t30]
      have e2' : f_law_turned [.lst ((twos S).map D.str), enc tm, .lst (row.map D.int), .int (b' : Int)] = _ := e2
      by_cases hg1 : g / 72000 = cp
      · obtain ⟨tm3, e3, w3, z3⟩ := renamed_ok hv hl tm2 64 w2 (by omega)
        have e3' : f_law_renamed [enc tm2, .lst (vs.map D.str)] = _ := e3
        refine ⟨.b f tm tm3, b2, 1 + 2 * m, ?_, ⟨⟨_, hq⟩, h1, w3⟩, by show 1 + tm.size + tm3.size ≤ room; omega, by show 1 + 2 * m ≤ 1 + tm.size + tm3.size; omega⟩
        unfold tl_term
        simp [syE, t30, t31, t32, t20, t21, eqI, beqI, e, e2', e3', e_mod, f1, f2, f3, f4, hg, hg1, hsl, cT, retF, lstF, enc, nextM]
      · refine ⟨.b f tm tm2, b2, 1 + 2 * m, ?_, ⟨⟨_, hq⟩, h1, w2⟩, by show 1 + tm.size + tm2.size ≤ room; omega, by show 1 + 2 * m ≤ 1 + tm.size + tm2.size; omega⟩
        unfold tl_term
        simp [syE, t30, t31, t32, t20, t21, eqI, beqI, e, e2', e_mod, f1, f2, f3, f4, hg, hg1, hsl, cT, retF, lstF, enc, nextM]
    · have hz : 0 < R - 2 := by omega
      have s0 : 0 ≤ g / 1200 % 60 % (R - 2) := Int.emod_nonneg _ (by omega)
      have s1 : g / 1200 % 60 % (R - 2) < R - 2 := Int.emod_lt_of_pos _ hz
      obtain ⟨tm, b', m, e, h1, h2, h3⟩ := ih (1 + g / 1200 % 60 % (R - 2)).toNat (a + 1) (1 + g / 1200 % 60 % (R - 2)) ((a : Int) + 1) l (by omega) (by omega) (by omega) (by omega)
      obtain ⟨tm2, b2, m2, e2, k1, k2, k3⟩ := ih (R - 1 - (1 + g / 1200 % 60 % (R - 2))).toNat b' (R - 1 - (1 + g / 1200 % 60 % (R - 2))) (b' : Int) (l - (m : Int)) (by omega) rfl (by omega) (by omega)
      have f1 : fdivD (.int g) (.int 72000) = some (.int (g / 72000)) := fdiv_ok (by decide) (by decide)
      have f2 : fdivD (.int g) (.int 1200) = some (.int (g / 1200)) := fdiv_ok (by decide) (by decide)
      refine ⟨.b f tm tm2, b2, (if w = true then 1 else 0) + m + m2, ?_, ⟨⟨_, hq⟩, h1, k1⟩, by show 1 + tm.size + tm2.size ≤ room; omega, by show _ ≤ 1 + tm.size + tm2.size; split <;> omega⟩
      have hm := e_mod (i := g / 1200 % 60) hz
      unfold tl_term
      cases w with
      | true =>
        have hg : ¬ g / 72000 ≤ cp := fun z => hc ⟨rfl, z⟩
        simp [syE, t30, t31, t32, t20, t21, eqI, beqI, e, e2, f1, f2, hg, hsl, retF, lstF, enc, nextM, e_mod, hm]
      | false =>
        simp [syE, t30, t31, t32, t20, t21, eqI, beqI, e, e2, f1, f2, hsl, retF, lstF, enc, nextM, e_mod, hm]
end My

set_option Elab.async false
set_option linter.all false
set_option maxRecDepth 100000
set_option maxHeartbeats 2000000
namespace My
open PySem PySem.Spec PyProof.Rows L2 Dl
theorem body_rt {np n : Nat} {m : En → Option Out} {ds : List D} {X : D} (hl : ds.length = np) (h : m (ds.map (fun d => some (Sl.val d)) ++ List.replicate (n - ds.length) none) = some (.rt X)) : bodyM np n m ds = some X := by
  unfold bodyM runM
  rw [if_pos hl, h]
  rfl
theorem term_ok {S : List Sy} (hS : SyOk S) {vs : List Str} (hv : ∀ v ∈ vs, SLe 40 v) (hl : 1 ≤ vs.length) (hl8 : vs.length ≤ 8) {row : List Int} (hr : row.length ≤ 1000) : ∀ (k room a : Nat) (R A t cp : Int), R = (room : Int) → A = (a : Int) → 1 ≤ room → room ≤ k → room ≤ 64 →
    ∃ tm b m, f_law_term_ k [.lst (S.map syE), .lst (vs.map D.str), .lst (row.map D.int), .int A, .int R, .int t, .int cp] = some (.lst [enc tm, .int ((b : Nat) : Int), .int ((m : Nat) : Int)]) ∧ WT S vs tm ∧ tm.size ≤ room ∧ m ≤ tm.size
  | 0, room, a, R, A, t, cp, _, _, h1, h2, _ => by omega
  | k + 1, room, a, R, A, t, cp, hR, hA, h1, h2, h64 => by
    subst hA
    show ∃ tm b m, bodyM 7 19 (m_law_term (f_law_term_ k)) _ = _ ∧ _
    have hsl : S.length ≤ 100000 := by have := hS.len; omega
    have hsz := hS.len
    have cF : ∀ (e0 e1 e2 e3 e6 e7 e8 e9 e10 e11 e12 e13 e14 e15 e16 e17 : Option Sl), compM (bndN 18) (andM (boolM (bind2 (bind2 (nameV 18) (cI 1) ixD) (nameV 4) (cmpD fun i j => decide (i < j)))) (orM (boolM (bind2 (nameV 5) (cI 0) (cmpD fun i j => decide (j < i)))) (notM (boolM (bind2 (nameV 18) (cI 2) ixD))))) (nameV 18) [e0, e1, e2, e3, some (.val (.int R)), some (.val (.int t)), e6, e7, e8, e9, e10, e11, e12, e13, e14, e15, e16, e17, none] (S.map syE) = some ((S.filter (fitP R t)).map syE) := fun _ _ _ _ _ _ _ _ _ _ _ _ _ _ _ _ => by
      refine sift (fun q hq => ?_) fun q hq => by simp
      unfold fitP
      by_cases x : q.2.1 < R
      · by_cases y : 0 < t
        · simp [syE, t31, t32, x, y]
        · simp [syE, t31, t32, x, y]
      · simp [syE, t31, t32, x]
    have cG : ∀ (e0 e1 e2 e3 e4 e5 e6 e7 e8 e9 e10 e11 e12 e13 e14 e15 e16 e17 : Option Sl) (M : List Sy), compM (bndN 18) (boolM (bind2 (bind2 (nameV 18) (cI 1) ixD) (cI 0) (cmpD fun i j => decide (j < i)))) (nameV 18) [e0, e1, e2, e3, e4, e5, e6, e7, e8, e9, e10, e11, e12, e13, e14, e15, e16, e17, none] (M.map syE) = some ((M.filter fun q => decide (0 < q.2.1)).map syE) := fun _ _ _ _ _ _ _ _ _ _ _ _ _ _ _ _ _ _ M => sift (fun q hq => by simp [syE, t31]) fun q hq => by simp
    have cH : ∀ (e0 e1 e2 e3 e4 e5 e6 e7 e8 e9 e10 e11 e12 e13 e14 e15 e16 e17 : Option Sl) (M : List Sy), compM (bndN 18) (boolM (bind2 (nameV 18) (cI 2) ixD)) (nameV 18) [e0, e1, e2, e3, e4, e5, e6, e7, e8, e9, e10, e11, e12, e13, e14, e15, e16, e17, none] (M.map syE) = some ((M.filter fun q => q.2.2).map syE) := fun _ _ _ _ _ _ _ _ _ _ _ _ _ _ _ _ _ _ M => sift (fun q hq => by simp [syE, t32]) fun q hq => by simp
    have cL : ∀ (e0 e1 e2 e3 e4 e5 e6 e7 e8 e9 e10 e11 e12 e13 e14 e15 e16 e17 : Option Sl), compM (bndN 18) (boolM (bind2 (bind2 (nameV 18) (cI 1) ixD) (cI 0) eqD)) (tupM (consM (bind2 (nameV 18) (cI 0) ixD) nilM)) [e0, e1, e2, e3, e4, e5, e6, e7, e8, e9, e10, e11, e12, e13, e14, e15, e16, e17, none] (S.map syE) = some ((S.filter fun q => q.2.1 == 0).map fun q => .tup [.str q.1]) := fun _ _ _ _ _ _ _ _ _ _ _ _ _ _ _ _ _ _ => sift (fun q hq => by simp [syE, t31, eqI]) fun q hq => by simp [syE, t30]
    obtain ⟨g, hg⟩ := digit_ok row a
    obtain ⟨C, hC⟩ : ∃ C, (S.filter fun q => q.2.1 == 0) = C := ⟨_, rfl⟩
    rw [hC] at cL
    obtain ⟨F, hF⟩ : ∃ F, S.filter (fitP R t) = F := ⟨_, rfl⟩
    rw [hF] at cF
    have lF : F.length ≤ S.length := by rw [← hF]; exact List.length_filter_le _ _
    have lF' : F.length ≤ 100000 := by omega
    have lG : (F.filter fun q => decide (0 < q.2.1)).length ≤ F.length := List.length_filter_le _ _
    have lH : (F.filter fun q => q.2.2).length ≤ F.length := List.length_filter_le _ _
    have lGH : (F.filter fun q => decide (0 < q.2.1)).length + (F.filter fun q => q.2.2).length ≤ 100000 := by omega
    have lL : C.length ≤ S.length := by rw [← hC]; exact List.length_filter_le _ _
    have lL' : vs.length + C.length ≤ 100000 := by omega
    have hM : ((F.filter fun q => decide (0 < q.2.1)).map syE) ++ ((F.filter fun q => q.2.2).map syE) = (menu S R t).map syE := by unfold menu; rw [hF, List.map_append]
    have f1 : fdivD (.int g) (.int 20) = some (.int (g / 20)) := fdiv_ok (by decide) (by decide)
    obtain ⟨tl, tm1, tm2⟩ := pick enc (leaves S vs) (by unfold leaves; rw [List.length_append, List.length_map]; omega) (g / 20 % 60)
    obtain ⟨w1, w2⟩ := leaf_ok hv tm1
    have hll : (leaves S vs).length = vs.length + C.length := by unfold leaves; rw [List.length_append, List.length_map, List.length_map, hC]
    rw [leaves_map, hC, hll] at tm2
    have head : ∀ n : En → Option Out, seqM (setM 8 (asLst (lcM [18] (itemsA (nameV 0)) (bndN 18) (andM (boolM (bind2 (bind2 (nameV 18) (cI 1) ixD) (nameV 4) (cmpD fun i j => decide (i < j)))) (orM (boolM (bind2 (nameV 5) (cI 0) (cmpD fun i j => decide (j < i)))) (notM (boolM (bind2 (nameV 18) (cI 2) ixD))))) (nameV 18))))
        (seqM (setM 9 (bind2 (asLst (lcM [18] (itemsA (nameV 8)) (bndN 18) (boolM (bind2 (bind2 (nameV 18) (cI 1) ixD) (cI 0) (cmpD fun i j => decide (j < i)))) (nameV 18))) (asLst (lcM [18] (itemsA (nameV 8)) (bndN 18) (boolM (bind2 (nameV 18) (cI 2) ixD)) (nameV 18))) addD)) n)
        [some (.val (.lst (S.map syE))), some (.val (.lst (vs.map D.str))), some (.val (.lst (row.map D.int))), some (.val (.int (a : Int))), some (.val (.int R)), some (.val (.int t)), some (.val (.int cp)), some (.val (.int g)), none, none, none, none, none, none, none, none, none, none, none]
        = n [some (.val (.lst (S.map syE))), some (.val (.lst (vs.map D.str))), some (.val (.lst (row.map D.int))), some (.val (.int (a : Int))), some (.val (.int R)), some (.val (.int t)), some (.val (.int cp)), some (.val (.int g)), some (.val (.lst (F.map syE))), some (.val (.lst ((menu S R t).map syE))), none, none, none, none, none, none, none, none, none] := fun n => by
      simp only [g_seqM, g_setM]
      simp [cF, cG, cH, hsl, lF', hM, addD, lGH]
    by_cases hc : (menu S R t).length = 0 ∨ g % 20 < (if 6 < R then 1 else 6)
    · refine ⟨tl, a + 1, 0, body_rt rfl ?_, w1, by omega, Nat.zero_le _⟩
      show m_law_term (f_law_term_ k) [some (.val (.lst (S.map syE))), some (.val (.lst (vs.map D.str))), some (.val (.lst (row.map D.int))), some (.val (.int (a : Int))), some (.val (.int R)), some (.val (.int t)), some (.val (.int cp)), none, none, none, none, none, none, none, none, none, none, none, none] = _
      rw [term_head, seq_nx (show setM 7 (cI 0) _ = some (.nx [some (.val (.lst (S.map syE))), some (.val (.lst (vs.map D.str))), some (.val (.lst (row.map D.int))), some (.val (.int (a : Int))), some (.val (.int R)), some (.val (.int t)), some (.val (.int cp)), some (.val (.int 0)), none, none, none, none, none, none, none, none, none, none, none]) by rfl), seq_nx (hg _ _ _ _ _ _ _ _ _ _ _ _ _ _ _ _), head]
      have hcc : (((menu S R t).length : Int) == 0) = true ∨ g % 20 < (if 6 < R then 1 else 6) := hc.imp (fun z => by rw [z]; rfl) id
      by_cases x : (menu S R t).length = 0
      · have hnil : menu S R t = [] := List.eq_nil_of_length_eq_zero x
        rw [show (((vs.length + C.length : Nat)) : Int) = (vs.length : Int) + (C.length : Int) by omega] at tm2
        simp [hnil, tm2, beqI, eqI, cL, hsl, addD, lL', f1, e_mod, e_mod (i := g / 20 % 60) (j := ((vs.length : Int) + (C.length : Int))) (by omega), retF, lstF]
      · have y := hc.resolve_left x
        have hm0 : ¬ menu S R t = [] := fun z => x (by rw [z]; rfl)
        have t6 : atI [D.int 6, .int 1] (if 6 < R then (1 : Int) else 0) = some (.int (if 6 < R then 1 else 6)) := by split <;> rfl
        rw [show (((vs.length + C.length : Nat)) : Int) = (vs.length : Int) + (C.length : Int) by omega] at tm2
        simp [hm0, y, t6, tm2, beqI, eqI, cL, hsl, addD, lL', f1, e_mod, e_mod (i := g / 20 % 60) (j := ((vs.length : Int) + (C.length : Int))) (by omega), retF, lstF]
    · have hm : 0 < (menu S R t).length := by omega
      obtain ⟨q, q1, q2⟩ := pick syE (menu S R t) hm (g / 20 % 60)
      obtain ⟨q3, q4, q5⟩ := menu_mem hS q1
      obtain ⟨tm, b, m, e, r1, r2, r3⟩ := term_tail hS (vs := vs) (a := a) (t := t) (g := g) (cp := cp) hv hl hr hR h64 (self := f_law_term_ k) (fun room' b R' A' t' z1 z2 z3 z4 => term_ok hS hv hl hl8 hr k room' b R' A' t' cp z1 z2 z3 (by omega) (by omega)) q3 q4 q5 (some (.val (.lst (F.map syE)))) (some (.val (.lst ((menu S R t).map syE)))) (t - (if q.2.2 = true then 1 else 0))
      refine ⟨tm, b, m, body_rt rfl ?_, r1, r2, r3⟩
      show m_law_term (f_law_term_ k) [some (.val (.lst (S.map syE))), some (.val (.lst (vs.map D.str))), some (.val (.lst (row.map D.int))), some (.val (.int (a : Int))), some (.val (.int R)), some (.val (.int t)), some (.val (.int cp)), none, none, none, none, none, none, none, none, none, none, none, none] = _
      rw [term_head, seq_nx (show setM 7 (cI 0) _ = some (.nx [some (.val (.lst (S.map syE))), some (.val (.lst (vs.map D.str))), some (.val (.lst (row.map D.int))), some (.val (.int (a : Int))), some (.val (.int R)), some (.val (.int t)), some (.val (.int cp)), some (.val (.int 0)), none, none, none, none, none, none, none, none, none, none, none]) by rfl), seq_nx (hg _ _ _ _ _ _ _ _ _ _ _ _ _ _ _ _), head]
      have hm0 : ¬ menu S R t = [] := fun z => by rw [z] at hm; exact Nat.lt_irrefl _ hm
      have hm1 : ¬ g % 20 < (if 6 < R then 1 else 6) := fun z => hc (.inr z)
      have t6 : atI [D.int 6, .int 1] (if 6 < R then (1 : Int) else 0) = some (.int (if 6 < R then 1 else 6)) := by split <;> rfl
      rw [← e]
      have hmm := e_mod (i := g / 20 % 60) (j := ((menu S R t).length : Int)) (by omega)
      simp [hm0, hm1, t6, (show ixD (syE q) (.int 2) = some (.bl q.2.2) from rfl), beqI, eqI, f1, e_mod, hmm, q2, nextM]
end My

set_option Elab.async false
set_option linter.all false
set_option maxRecDepth 100000
set_option maxHeartbeats 2000000
namespace My
open PySem PySem.Spec PyProof.Rows L2 Dl
/-! ### places -/
def ip (p : List Nat) : D := .tup (p.map fun (j : Nat) => D.int (j : Int))
def pl : T → List (List Nat × T)
  | .v s => [([], .v s)]
  | .c f => [([], .c f)]
  | .u f t => ([], .u f t) :: (pl t).map fun x => (0 :: x.1, x.2)
  | .b f s t => ([], .b f s t) :: (((pl s).map fun x => (0 :: x.1, x.2)) ++ (pl t).map fun x => (1 :: x.1, x.2))
def pe (p : List Nat) (x : List Nat × T) : D := .lst [ip (p ++ x.1), enc x.2]
theorem pl_len : ∀ t : T, (pl t).length = t.size
  | .v _ => rfl
  | .c _ => rfl
  | .u f t => by
    show ((pl t).map _).length + 1 = 1 + t.size
    rw [List.length_map, pl_len t]; omega
  | .b f s t => by
    show (((pl s).map _) ++ (pl t).map _).length + 1 = 1 + s.size + t.size
    rw [List.length_append, List.length_map, List.length_map, pl_len s, pl_len t]; omega
theorem pe_cons (p : List Nat) (j : Nat) (l : List (List Nat × T)) : (l.map fun x => (j :: x.1, x.2)).map (pe p) = l.map (pe (p ++ [j])) := by
  rw [List.map_map]
  refine List.map_congr_left fun x _ => ?_
  show D.lst [ip (p ++ (j :: x.1)), enc x.2] = D.lst [ip (p ++ [j] ++ x.1), enc x.2]
  rw [List.append_assoc]
  rfl
theorem ip_snoc (p : List Nat) (j : Nat) : ip (p ++ [j]) = .tup ((p.map fun (j : Nat) => D.int (j : Int)) ++ [.int (j : Int)]) := by unfold ip; rw [List.map_append]; rfl
theorem places_ok : ∀ (t : T) (k : Nat) (p : List Nat), t.size ≤ k → p.length + t.size ≤ 1000 → f_law_places_ k [enc t, ip p] = some (.lst ((pl t).map (pe p)))
  | .v s, k, p, hk, hl => by
    obtain ⟨k, rfl⟩ : ∃ k', k = k' + 1 := ⟨k - 1, by have : 1 ≤ k := hk; omega⟩
    show bodyM 2 4 (m_law_places (f_law_places_ k)) _ = _
    unfold m_law_places
    simp [enc, isi_str, isi_tup, unM, retF, nextM, pl, pe]
  | .c f, k, p, hk, hl => by
    obtain ⟨k, rfl⟩ : ∃ k', k = k' + 1 := ⟨k - 1, by have : 1 ≤ k := hk; omega⟩
    have r0 : rngD 0 0 = [] := rfl
    show bodyM 2 4 (m_law_places (f_law_places_ k)) _ = _
    unfold m_law_places
    simp [enc, isi_str, isi_tup, unM, retF, nextM, pl, pe, r0, for_nil, for_cons]
  | .u f t, k, p, hk, hl => by
    have h1 : 1 + t.size ≤ k := hk
    have h2 : p.length + (1 + t.size) ≤ 1000 := hl
    obtain ⟨k, rfl⟩ : ∃ k', k = k' + 1 := ⟨k - 1, by omega⟩
    have e := places_ok t k (p ++ [0]) (by omega) (by simp; omega)
    rw [ip_snoc] at e
    have r1 : rngD 0 1 = [.int 0] := rfl
    have hpl : p.length + 1 ≤ 100000 := by omega
    have hz := pl_len t
    have hlen : 1 + (pl t).length ≤ 100000 := by omega
    have pc := pe_cons p 0 (pl t)
    show bodyM 2 4 (m_law_places (f_law_places_ k)) _ = _
    unfold m_law_places
    simp at e pc
    simp [enc, isi_str, isi_tup, unM, retF, nextM, pl, r1, for_nil, for_cons, l1_law_places, ip, addD, hpl, t21, e, hlen, pc]
    simp [pe, enc, ip]
  | .b f s t, k, p, hk, hl => by
    have h1 : 1 + s.size + t.size ≤ k := hk
    have h2 : p.length + (1 + s.size + t.size) ≤ 1000 := hl
    obtain ⟨k, rfl⟩ : ∃ k', k = k' + 1 := ⟨k - 1, by omega⟩
    have e1 := places_ok s k (p ++ [0]) (by omega) (by simp; omega)
    have e2 := places_ok t k (p ++ [1]) (by omega) (by simp; omega)
    rw [ip_snoc] at e1 e2
    have r1 : rngD 0 2 = [.int 0, .int 1] := rfl
    have hpl : p.length + 1 ≤ 100000 := by omega
    have hz := pl_len t
    have hy := pl_len s
    have hlen : 1 + (pl s).length ≤ 100000 := by omega
    have hlen2 : (pl s).length + 1 + (pl t).length ≤ 100000 := by omega
    have pc1 := pe_cons p 0 (pl s)
    have pc2 := pe_cons p 1 (pl t)
    show bodyM 2 4 (m_law_places (f_law_places_ k)) _ = _
    unfold m_law_places
    simp at e1 e2 pc1 pc2
    simp [enc, isi_str, isi_tup, unM, retF, nextM, pl, r1, for_nil, for_cons, l1_law_places, ip, addD, hpl, t31, t32, e1, e2, hlen, hlen2, pc1, pc2]
    simp only [← pe_cons, List.map_map] at *
    simp [pe, enc, ip]
end My

set_option Elab.async false
set_option linter.all false
set_option maxRecDepth 100000
set_option maxHeartbeats 2000000
namespace My
open PySem PySem.Spec PyProof.Rows L2 Dl
theorem pick_map {α : Type} (f : α → D) (l : List α) {i : Nat} (h : i < l.length) : atI (l.map f) (i : Int) = some (f l[i]) := at_lit i rfl (by simp [h])
/-! ### ranks -/
def rkK (S : List Sy) : List Key := S.map fun q => .inr q.1
def rkV (o n : Nat) : List D := (List.range' o n).map fun (k : Nat) => D.int (k : Int)
def rkD (S : List Sy) : D := .dic (rkK S) (rkV 0 S.length)
def rkN : List Sy → Str → Nat
  | [], _ => 0
  | q :: S, f => if q.1 = f then 0 else rkN S f + 1
theorem look_rk (f : Str) : ∀ (S : List Sy) (o : Nat), f ∈ S.map (·.1) → lookD (rkK S) (rkV o S.length) (.inr f) = some (.int ((o + rkN S f : Nat) : Int))
  | [], o, h => by cases h
  | q :: S, o, h => by
    show lookD (Sum.inr q.1 :: rkK S) (rkV o (S.length + 1)) (.inr f) = _
    unfold rkV
    rw [List.range'_succ, List.map_cons]
    unfold lookD rkN
    by_cases hq : q.1 = f
    · rw [if_pos (by rw [hq]), if_pos hq]; rfl
    · rw [if_neg (fun z => hq (by cases z; rfl)), if_neg hq]
      have hm : f ∈ S.map (·.1) := by
        rcases List.mem_cons.mp h with z | z
        · exact absurd z.symm hq
        · exact z
      have := look_rk f S (o + 1) hm
      unfold rkV at this
      rw [this]
      congr 3
      omega
theorem look_no (f : Str) : ∀ (S : List Sy) (o n : Nat), f ∉ S.map (·.1) → lookD (rkK S) (rkV o n) (.inr f) = none
  | [], o, n, h => by unfold rkK lookD; rfl
  | q :: S, o, 0, h => by unfold rkV rkK lookD; rfl
  | q :: S, o, n + 1, h => by
    have h1 : ¬ q.1 = f := fun z => h (by rw [← z]; exact List.mem_cons_self ..)
    have h2 : f ∉ S.map (·.1) := fun z => h (List.mem_cons_of_mem _ z)
    show lookD (Sum.inr q.1 :: rkK S) (rkV o (n + 1)) (.inr f) = _
    unfold rkV
    rw [List.range'_succ, List.map_cons]
    unfold lookD
    rw [if_neg (fun z => h1 (by cases z; rfl))]
    exact look_no f S (o + 1) n h2
theorem rkN_lt (f : Str) : ∀ {S : List Sy}, f ∈ S.map (·.1) → rkN S f < S.length
  | [], h => by cases h
  | q :: S, h => by
    unfold rkN
    by_cases hq : q.1 = f
    · rw [if_pos hq]; exact Nat.succ_pos _
    · rw [if_neg hq]
      have hm : f ∈ S.map (·.1) := by
        rcases List.mem_cons.mp h with z | z
        · exact absurd z.symm hq
        · exact z
      have := rkN_lt f hm
      show _ < S.length + 1
      omega
theorem rkN_inj {f g : Str} : ∀ {S : List Sy}, f ∈ S.map (·.1) → g ∈ S.map (·.1) → rkN S f = rkN S g → f = g
  | [], h, _, _ => by cases h
  | q :: S, h, h', e => by
    unfold rkN at e
    by_cases hq : q.1 = f
    · rw [if_pos hq] at e
      by_cases hg : q.1 = g
      · rw [← hq, hg]
      · rw [if_neg hg] at e; omega
    · rw [if_neg hq] at e
      by_cases hg : q.1 = g
      · rw [if_pos hg] at e; omega
      · rw [if_neg hg] at e
        have hm : f ∈ S.map (·.1) := by
          rcases List.mem_cons.mp h with z | z
          · exact absurd z.symm hq
          · exact z
        have hm' : g ∈ S.map (·.1) := by
          rcases List.mem_cons.mp h' with z | z
          · exact absurd z.symm hg
          · exact z
        exact rkN_inj hm hm' (by omega)
theorem rkN_at : ∀ {S : List Sy} {i : Nat} (h : i < S.length), (S.map (·.1)).Nodup → rkN S S[i].1 = i
  | q :: S, 0, h, hn => by unfold rkN; exact if_pos rfl
  | q :: S, i + 1, h, hn => by
    have hi : i < S.length := by simpa using h
    rw [List.map_cons, List.nodup_cons] at hn
    unfold rkN
    rw [List.getElem_cons_succ, if_neg (fun z => hn.1 (by rw [z]; exact List.mem_map.mpr ⟨S[i], List.getElem_mem hi, rfl⟩)), rkN_at hi hn.2]
theorem Has.mem {S : List Sy} {f : Str} {n : Int} (h : Has S f n) : f ∈ S.map (·.1) := by
  obtain ⟨b, hb⟩ := h
  exact List.mem_map.mpr ⟨_, hb, rfl⟩
theorem put_new {S : List Sy} {f : Str} (h : f ∉ S.map (·.1)) (ds : List D) (d : D) : putD (rkK S) ds (.inr f) d = (rkK S ++ [.inr f], ds ++ [d]) := by
  unfold putD
  rw [if_neg]
  intro z
  obtain ⟨k, hk, hz⟩ := List.any_eq_true.mp z
  obtain ⟨q, hq, rfl⟩ := List.mem_map.mp hk
  have : (Sum.inr q.1 : Key) = .inr f := of_decide_eq_true hz
  cases this
  exact h (List.mem_map.mpr ⟨q, hq, rfl⟩)
theorem rkV_snoc (n : Nat) : rkV 0 (n + 1) = rkV 0 n ++ [.int (n : Int)] := by
  unfold rkV
  rw [List.range'_concat]
  simp
theorem rkK_snoc {S : List Sy} {j : Nat} (hj : j < S.length) : rkK (S.take (j + 1)) = rkK (S.take j) ++ [.inr S[j].1] := by
  unfold rkK
  rw [List.take_succ, List.getElem?_eq_getElem hj, List.map_append]
  rfl
theorem fresh_nm {S : List Sy} (hn : (S.map (·.1)).Nodup) {j : Nat} (hj : j < S.length) : S[j].1 ∉ (S.take j).map (·.1) := fun z => by
  obtain ⟨q, hq, e⟩ := List.mem_map.mp z
  obtain ⟨i, hi, rfl⟩ := List.getElem_of_mem hq
  have hi' : i < j ∧ i < S.length := by simpa [Nat.lt_min] using hi
  have := nodup_get hn (i := i) (j := j) (by simpa using hi'.2) (by simpa using hj) (by simpa using e)
  omega
theorem consists_ok {al : Str} : ∀ {l : List Nat}, (∀ c ∈ l, c ∈ al.cps.toList) → ∀ (x0 : Option Sl) (x2 : Option Sl), ∃ y2, forM' (bndN 2) l1_consists_of (l.map fun c => D.str ⟨#[c]⟩) [x0, some (.val (.str al)), x2] = some (.nx [x0, some (.val (.str al)), y2])
  | [], h, x0, x2 => ⟨x2, rfl⟩
  | c :: l, h, x0, x2 => by
    obtain ⟨y2, e⟩ := consists_ok (l := l) (fun d hd => h d (List.mem_cons_of_mem _ hd)) x0 (some (.val (.str ⟨#[c]⟩)))
    refine ⟨y2, ?_⟩
    have hc := h c (List.mem_cons_self ..)
    have hb : notinD (.str ⟨#[c]⟩) (.str al) = some (.bl false) := by
      unfold notinD inB
      show (some (decide (c ∈ al.cps.toList))).bind _ = _
      rw [decide_eq_true hc]
      rfl
    rw [List.map_cons, for_cons]
    have e1 : bndN 2 (D.str ⟨#[c]⟩) [x0, some (.val (.str al)), x2] = some [x0, some (.val (.str al)), some (.val (.str ⟨#[c]⟩))] := rfl
    rw [e1]
    simp only [Option.bind_some]
    have e2 : l1_consists_of [x0, some (.val (.str al)), some (.val (.str ⟨#[c]⟩))] = some (.nx [x0, some (.val (.str al)), some (.val (.str ⟨#[c]⟩))]) := by
      unfold l1_consists_of
      simp [hb, nextM]
    rw [e2]
    simp only [Option.bind_some]
    exact e
theorem lenS {s : Str} (h : s.length ≤ 100000) : lenD [.str s] = some (.int s.length) := by
  show (if s.length ≤ 100000 then some (D.int (s.length : Int)) else none) = _
  rw [if_pos h]
theorem cmpI (f : Int → Int → Bool) (i j : Int) : cmpD f (.int i) (.int j) = some (.bl (f i j)) := rfl
theorem symname_ok {s : Str} (h : NmOk s) : f_is_symbol_name [.str s] = some (.bl true) := by
  obtain ⟨c, l, e, hc⟩ := h.head
  have hl := h.len
  have hp := h.pos
  have hlen : s.length ≤ 100000 := by omega
  have hall : ∀ d ∈ l, Sg d := fun d hd => h.wd d (by rw [e]; exact List.mem_cons_of_mem _ hd)
  have hcut : cs (cutS s (some 1) none) = l := by rw [cs_rest (by decide), e]; rfl
  let al : Str := "abcdefghijklmnopqrstuvwxyz" ++ "0123456789"
  have hal : ∀ d ∈ l, d ∈ al.cps.toList := fun d hd => by
    have : ∀ d, d < 123 → (97 ≤ d ∧ d ≤ 122) ∨ (48 ≤ d ∧ d ≤ 57) → d ∈ al.cps.toList := by decide +kernel
    have hs := hall d hd
    unfold Sg small at hs
    exact this d (by omega) hs
  obtain ⟨y2, el⟩ := consists_ok hal (some (.val (.str (cutS s (some 1) none)))) none
  have hz : strD (cutS s (some 1) none) = l.map fun c => D.str ⟨#[c]⟩ := by unfold strD; rw [show (cutS s (some 1) none).cps.toList = l from hcut]
  have h0 : ixD (.str s) (.int 0) = some (.str ⟨#[c]⟩) := by
    show (if s.length ≤ 100000 then (atI s.cps.toList 0).bind fun c => some (D.str ⟨#[c]⟩) else none) = _
    rw [if_pos hlen, show s.cps.toList = c :: l from e, show atI (c :: l) 0 = some c from atI_nat (j := 0) rfl]
    rfl
  have h1 : inD (.str ⟨#[c]⟩) (.str "abcdefghijklmnopqrstuvwxyz") = some (.bl true) := by
    unfold inD inB
    show (some (decide (c ∈ ("abcdefghijklmnopqrstuvwxyz" : Str).cps.toList))).bind _ = _
    have : ∀ d, d < 123 → 97 ≤ d → d ∈ ("abcdefghijklmnopqrstuvwxyz" : Str).cps.toList := by decide +kernel
    unfold small at hc
    rw [decide_eq_true (this c (by omega) hc.1)]
    rfl
  have h2 : addD (.str "abcdefghijklmnopqrstuvwxyz") (.str "0123456789") = some (.str al) := add_str (n := 26) (m := 10) (.lit (by decide +kernel)) (.lit (by decide +kernel)) (by decide)
  have h3 : f_consists_of [.str (cutS s (some 1) none), .str al] = some (.bl true) := by
    unfold f_consists_of m_consists_of
    simp [hz, el, retF]
  have h4 := cut_str h.sle (by decide) (some 1) none
  have g1 : (1 : Int) ≤ (s.length : Int) := by omega
  have g2 : (s.length : Int) ≤ 8 := by omega
  unfold f_is_symbol_name m_is_symbol_name
  simp [chainM, hlen, lenS hlen, cmpI, g1, g2, h0, h1, h2, h4, h3, retF]
end My

set_option Elab.async false
set_option linter.all false
set_option maxRecDepth 100000
set_option maxHeartbeats 2000000
namespace My
open PySem PySem.Spec PyProof.Rows L2 Dl
theorem symbol_ok {S : List Sy} (hS : SyOk S) {q : Sy} (hq : q ∈ S) : f_is_symbol [.str q.1, .int q.2.1, .bl q.2.2] = some (.bl true) := by
  have h1 := symname_ok (hS.nm q hq)
  have h2 := hS.kd q hq
  obtain ⟨f, n, b⟩ := q
  unfold kindOk at h2
  simp only [Prod.mk.injEq] at h2
  unfold f_is_symbol m_is_symbol
  rcases h2 with ⟨rfl, rfl⟩ | ⟨rfl, rfl⟩ | ⟨rfl, rfl⟩ | ⟨rfl, rfl⟩ <;> simp [h1, chainM, cmpI, eqI, notV, retF]
def bInit : D → En → Option En := bndT 2 (bndC (bndN 3) (bndC (bndT 3 (bndC (bndN 4) (bndC (bndN 5) (bndC (bndN 6) bndNil)))) bndNil))
theorem enum_get {S : List Sy} {j : Nat} {d : D} (h : (enumD (S.map syE))[j]? = some d) : ∃ hj : j < S.length, d = .tup [.int (j : Int), syE S[j]] := by
  letI : TbA := ⟨[]⟩
  obtain ⟨x, h1, h2⟩ := enumD_get h
  rw [List.getElem?_map] at h1
  by_cases hj : j < S.length
  · rw [List.getElem?_eq_getElem hj] at h1
    cases h1
    exact ⟨hj, h2⟩
  · rw [List.getElem?_eq_none (by omega)] at h1
    cases h1
theorem enum_len (ds : List D) : (enumD ds).length = ds.length := by unfold enumD; rw [List.length_zipWith, List.length_range]; omega
def sgD (c : Addr) (S : List Sy) : D := .obj c ["symbols", "_ranks"] [.tup (S.map syE), rkD S]
theorem init_ok (c : Addr) {S : List Sy} (hS : SyOk S) : f_Signature_init c [.lst (S.map syE)] = some ((["symbols", "_ranks"] : List Str), [.tup (S.map syE), rkD S]) := by
  have hsz := hS.len
  letI : TbA := ⟨[]⟩
  refine allP_some fun p => ?_
  obtain ⟨env', el, y3, y4, y5, y6, rfl⟩ := for_ok (bnd := bInit) (body := l1_Signature_init c)
    (fun j env => ∃ y3 y4 y5 y6 : Option Sl, env = [some (.owni p c [] []), some (.val (.lst (S.map syE))), some (.ownd (rkK (S.take j)) (rkV 0 j)), y3, y4, y5, y6])
    (ds := enumD (S.map syE)) (env := [some (.owni p c [] []), some (.val (.lst (S.map syE))), some (.ownd [] []), none, none, none, none]) ⟨none, none, none, none, rfl⟩ fun j d env hd ⟨y3, y4, y5, y6, he⟩ => by
      obtain ⟨hj, rfl⟩ := enum_get hd
      subst he
      have hp := put_new (fresh_nm hS.nd hj) (rkV 0 j) (.int (j : Int))
      have hk := symbol_ok hS (List.getElem_mem hj)
      have hlk : (rkK (S.take j)).length < 100000 := by unfold rkK; rw [List.length_map, List.length_take]; omega
      have hno : inD (.str S[j].1) (.dic (rkK (S.take j)) (rkV 0 j)) = some (.bl false) := by
        unfold inD inB
        show (some (lookD (rkK (S.take j)) (rkV 0 j) (.inr S[j].1)).isSome).bind _ = _
        rw [look_no _ _ _ _ (fresh_nm hS.nd hj)]
        rfl
      refine ⟨_, _, rfl, ?_, some (.val (.int (j : Int))), some (.val (.str S[j].1)), some (.val (.int S[j].2.1)), some (.val (.bl S[j].2.2)), rfl⟩
      rw [rkV_snoc, rkK_snoc hj]
      unfold l1_Signature_init
      simp [dputM, owndAt, keyD, hp, hk, hlk, hno, nextM]
  rw [enum_len, List.length_map, List.take_length] at el
  unfold bInit at el
  have hm : ∃ y2, m_Signature_init c [some (.owni p c [] []), some (.val (.lst (S.map syE))), none, none, none, none, none] = some (.nx [some (.owni p c ["symbols", "_ranks"] [.tup (S.map syE), rkD S]), some (.val (.lst (S.map syE))), y2, y3, y4, y5, y6]) := by
    refine ⟨some (.val (rkD S)), ?_⟩
    unfold m_Signature_init
    simp [Dl.newDict, enumM, el, setFldM, owniAt, frzM, frzL, rkD]
    decide
  obtain ⟨y2, hm⟩ := hm
  unfold initP
  rw [if_pos (show [D.lst (S.map syE)].length + 1 = 2 from rfl)]
  show (match m_Signature_init c [some (.owni p c [] []), some (.val (.lst (S.map syE))), none, none, none, none, none] with
    | some (.nx env) => (match owniAt 0 env with
      | some r => if r.1 = p ∧ r.2.1 = c then some r.2.2 else none
      | none => none)
    | _ => none) = _
  rw [hm]
  show (if p = p ∧ c = c then some _ else none) = _
  rw [if_pos ⟨rfl, rfl⟩]
end My

set_option Elab.async false
set_option linter.all false
set_option maxRecDepth 100000
set_option maxHeartbeats 2000000
namespace My
open PySem PySem.Spec PyProof.Rows L2 Dl
/-! ### order texts as lists of codes -/
def mk (l : List Nat) : Str := ⟨l.toArray⟩
theorem cs_mk (l : List Nat) : cs (mk l) = l := rfl
theorem mk_cs (s : Str) : mk (cs s) = s := cs_inj (cs_mk _)
theorem mk_app (a b : List Nat) : mk a ++ mk b = mk (a ++ b) := cs_inj (by rw [cs_app]; rfl)
theorem mk_len (l : List Nat) : (mk l).length = l.length := by rw [← cs_len]; rfl
theorem mk_empty : Str.empty = mk [] := rfl
def tw (n : Nat) : List Nat := [48 + n / 10, 48 + n % 10]
theorem two_cs : ∀ n : Nat, n < 100 → cs (two (n : Int)) = tw n := by decide +kernel
theorem two_mk {n : Nat} (h : n < 100) : two (n : Int) = mk (tw n) := cs_inj (by rw [two_cs n h]; rfl)
def sgC (S : List Sy) : T → List Nat
  | .v s => 48 :: (tw s.length ++ cs s)
  | .c f => 49 :: tw (rkN S f)
  | .u f _ => 49 :: tw (rkN S f)
  | .b f _ _ => 49 :: tw (rkN S f)
theorem fmt02 {n : Nat} (h : n < 100) : fmt02D (.int (n : Int)) = some (.str (mk (tw n))) := by
  show (if (0 : Int) ≤ (n : Int) ∧ (n : Int) < 100 then some (D.str (two (n : Int))) else none) = _
  rw [if_pos (by omega), two_mk h]
theorem fmtS {s : Str} (h : s.length ≤ 100000) : fmtD (.str s) = some (.str s) := by
  show (if s.length ≤ 100000 then some (D.str s) else none) = _
  rw [if_pos h]
theorem cat3 {a b c : List Nat} (h : a.length + b.length + c.length ≤ 1000) : catD [.str (mk a), .str (mk b), .str (mk c)] = some (.str (mk (a ++ (b ++ c)))) := by
  show (if ([mk a, mk b, mk c].map (·.length)).sum ≤ 100000 then some (D.str (mk a ++ (mk b ++ (mk c ++ Str.empty)))) else none) = _
  rw [if_pos (by simp [mk_len]; omega), mk_empty, mk_app, mk_app, mk_app, List.append_nil]
theorem cat2 {a b : List Nat} (h : a.length + b.length ≤ 1000) : catD [.str (mk a), .str (mk b)] = some (.str (mk (a ++ b))) := by
  show (if ([mk a, mk b].map (·.length)).sum ≤ 100000 then some (D.str (mk a ++ (mk b ++ Str.empty))) else none) = _
  rw [if_pos (by simp [mk_len]; omega), mk_empty, mk_app, mk_app, List.append_nil]
theorem rank_ok (c : Addr) {S : List Sy} {f : Str} (h : f ∈ S.map (·.1)) : f_Signature_rank c [sgD c S, .str f] = some (.int (rkN S f : Int)) := by
  have h1 := look_rk f S 0 h
  rw [Nat.zero_add] at h1
  have h2 : fldM [c] "_ranks" (nameV 0) [some (.val (sgD c S)), some (.val (.str f))] = some (rkD S) := by
    show (if c ∈ [c] then lkF ["symbols", "_ranks"] [.tup (S.map syE), rkD S] "_ranks" else none) = _
    rw [if_pos (List.mem_singleton.mpr rfl)]
    rfl
  have h3 : get1D (rkD S) (.str f) = some (.int (rkN S f : Int)) := by
    show some ((lookD (rkK S) (rkV 0 S.length) (.inr f)).getD .non) = _
    rw [h1]
    rfl
  unfold f_Signature_rank m_Signature_rank
  simp [h2, h3, retF]
theorem strL2 (a b : Str) : True := trivial
theorem lit0 : (Str.ofString "0") = mk [48] := cs_inj (by decide +kernel)
theorem lit1 : (Str.ofString "1") = mk [49] := cs_inj (by decide +kernel)
theorem sign_order_ok (c : Addr) {S : List Sy} {Z : List Str} (hS : SyOk S) : ∀ {t : T}, WT S Z t → f_sign_order c [sgD c S, enc t] = some (.str (mk (sgC S t)))
  | .v s, h => by
    have hl := h.1.len
    have e := cat3 (a := [48]) (b := tw s.length) (c := cs s) (by show 1 + 2 + _ ≤ _; rw [cs_len]; omega)
    rw [mk_cs] at e
    have f1 := fmt02 (n := s.length) (by omega)
    have f2 := fmtS (s := s) (by omega)
    have f3 := lenS (s := s) (by omega)
    unfold f_sign_order m_sign_order
    simp [enc, isi_str, unM, f1, f2, f3, lit0, e, retF, sgC]
  | .c f, h => app f h.mem
  | .u f t, h => app2 f [enc t] h.1.mem
  | .b f s t, h => app2 f [enc s, enc t] h.1.mem
where
  app2 (f : Str) (as : List D) (hm : f ∈ S.map (·.1)) : f_sign_order c [sgD c S, .tup (.str f :: as)] = some (.str (mk (49 :: tw (rkN S f)))) := by
    have hr := rkN_lt f hm
    have hsz := hS.len
    have e := cat2 (a := [49]) (b := tw (rkN S f)) (by show 1 + 2 ≤ _; omega)
    have f1 := fmt02 (n := rkN S f) (by omega)
    have a0 : ∀ (x : D) (l : List D), atI (x :: l) 0 = some x := fun x l => atI_nat (j := 0) rfl
    have hm2 : ∀ e2 : Option Sl, methM c "rank" (f_Signature_rank c) (nameV 0) (consM (bind2 (nameV 1) (cI 0) ixD) nilM) [some (.val (sgD c S)), some (.val (.tup (.str f :: as)))] = some (.int (rkN S f : Int)) := fun _ => by
      have := rank_ok c hm
      unfold methM
      simp [a0, sgD] at this ⊢
      exact ⟨by decide, this⟩
    unfold f_sign_order m_sign_order
    simp [isi_tup, unM, f1, hm2 none, lit1, e, retF, nextM]
  app (f : Str) (hm : f ∈ S.map (·.1)) : f_sign_order c [sgD c S, enc (.c f)] = some (.str (mk (sgC S (.c f)))) := app2 f [] hm
end My

set_option Elab.async false
set_option linter.all false
set_option maxRecDepth 100000
set_option maxHeartbeats 2000000
namespace My
open PySem PySem.Spec PyProof.Rows L2 Dl
/-! ### parts in order -/
def pre : T → List T
  | .v s => [.v s]
  | .c f => [.c f]
  | .u f t => .u f t :: pre t
  | .b f s t => .b f s t :: (pre s ++ pre t)
theorem pre_len : ∀ t : T, (pre t).length = t.size
  | .v _ => rfl
  | .c _ => rfl
  | .u f t => by show (pre t).length + 1 = 1 + t.size; rw [pre_len t]; omega
  | .b f s t => by show (pre s ++ pre t).length + 1 = 1 + s.size + t.size; rw [List.length_append, pre_len s, pre_len t]; omega
theorem pre_wt {S : List Sy} {Z : List Str} : ∀ {t : T}, WT S Z t → ∀ x ∈ pre t, WT S Z x
  | .v s, h, x, hx => by have : x = .v s := by simpa [pre] using hx
                         subst this; exact h
  | .c f, h, x, hx => by have : x = .c f := by simpa [pre] using hx
                         subst this; exact h
  | .u f t, h, x, hx => by
    rcases List.mem_cons.mp hx with rfl | hx
    · exact h
    · exact pre_wt (t := t) h.2 x hx
  | .b f s t, h, x, hx => by
    rcases List.mem_cons.mp hx with rfl | hx
    · exact h
    · rcases List.mem_append.mp hx with hx | hx
      · exact pre_wt (t := s) h.2.1 x hx
      · exact pre_wt (t := t) h.2.2 x hx
def args : T → List T
  | .v _ => []
  | .c _ => []
  | .u _ t => [t]
  | .b _ s t => [s, t]
theorem pre_args : ∀ t : T, pre t = t :: (args t).flatMap pre
  | .v _ => rfl
  | .c _ => rfl
  | .u f t => by show T.u f t :: pre t = _; simp [args]
  | .b f s t => by show T.b f s t :: (pre s ++ pre t) = _; simp [args]
theorem size_args : ∀ t : T, t.size = 1 + ((args t).map T.size).sum
  | .v _ => rfl
  | .c _ => rfl
  | .u f t => by show 1 + t.size = _; simp [args]
  | .b f s t => by show 1 + s.size + t.size = _; simp [args]; omega
/-! ### the order text -/
def kc (S : List Sy) (t : T) : List Nat := (pre t).flatMap (sgC S)
theorem foldl_cps : ∀ (l : List Str) (a : Array Nat), (l.foldl (fun acc (p : Str) => acc ++ (Str.ofString "").cps ++ p.cps) a).toList = a.toList ++ l.flatMap cs
  | [], a => by simp
  | p :: l, a => by
    rw [List.foldl_cons, foldl_cps l]
    have : (Str.ofString "").cps = #[] := by decide +kernel
    rw [this]
    simp [cs]
theorem join_cs (l : List Str) : cs (Txt.join "" l) = l.flatMap cs := by
  show ((l.drop 1).foldl _ (l.headD Str.empty).cps).toList = _
  rw [foldl_cps]
  cases l with
  | nil => rfl
  | cons a l => simp [cs]
theorem strL_map : ∀ l : List Str, strL (l.map D.str) = some l
  | [] => rfl
  | s :: l => by
    show (strL (l.map D.str)).bind _ = _
    rw [strL_map l]
    rfl
theorem sum_le {α : Type} {f : α → Nat} {n : Nat} : ∀ {l : List α}, (∀ a ∈ l, f a ≤ n) → (l.map f).sum ≤ n * l.length
  | [], _ => by simp
  | a :: l, h => by
    have h1 := h a (List.mem_cons_self ..)
    have h2 := sum_le (l := l) fun b hb => h b (List.mem_cons_of_mem _ hb)
    rw [List.map_cons, List.sum_cons, List.length_cons, Nat.mul_succ]
    omega
theorem sgC_len {S : List Sy} {Z : List Str} {t : T} (h : WT S Z t) : (sgC S t).length ≤ 43 := by
  cases t with
  | v s =>
    have := h.1.len
    show (tw s.length ++ cs s).length + 1 ≤ 43
    rw [List.length_append, cs_len]
    show 2 + s.length + 1 ≤ 43
    omega
  | c f => show 3 ≤ 43; decide
  | u f t => show 3 ≤ 43; decide
  | b f s t => show 3 ≤ 43; decide
end My

set_option Elab.async false
set_option linter.all false
set_option maxRecDepth 100000
set_option maxHeartbeats 2000000
namespace My
open PySem PySem.Spec PyProof.Rows L2 Dl
/-! ### the order of terms -/
def hdC (S : List Sy) (f g : Str) : Int := if rkN S f < rkN S g then -1 else 1
def sym : T → Str
  | .v s => s
  | .c f => f
  | .u f _ => f
  | .b f _ _ => f
def cmpT (S : List Sy) : T → T → Int
  | .v s, .v t => if s.length = t.length then (if s = t then 0 else if cs s < cs t then -1 else 1) else if s.length < t.length then -1 else 1
  | .v _, _ => -1
  | _, .v _ => 1
  | .c f, .c g => if f = g then 0 else hdC S f g
  | .u f a, .u g b => if f = g then cmpT S a b else hdC S f g
  | .b f a b, .b g c d => if f = g then (if cmpT S a c = 0 then cmpT S b d else cmpT S a c) else hdC S f g
  | x, y => hdC S (sym x) (sym y)
structure CmpOk (S : List Sy) (x y : T) : Prop where
  lt : ∀ p q, kc S x ++ p < kc S y ++ q ↔ cmpT S x y = -1 ∨ cmpT S x y = 0 ∧ p < q
  eq : cmpT S x y = 0 → x = y
  val : cmpT S x y = -1 ∨ cmpT S x y = 0 ∨ cmpT S x y = 1
theorem tw_lt {i j : Nat} (p q : List Nat) : tw i ++ p < tw j ++ q ↔ i < j ∨ i = j ∧ p < q := by
  show (48 + i / 10) :: (48 + i % 10) :: p < (48 + j / 10) :: (48 + j % 10) :: q ↔ _
  rw [List.cons_lt_cons_iff, List.cons_lt_cons_iff]
  constructor
  · rintro (h | ⟨h1, h2 | ⟨h2, h3⟩⟩)
    · exact .inl (by omega)
    · exact .inl (by omega)
    · exact .inr ⟨by omega, h3⟩
  · rintro (h | ⟨rfl, h⟩)
    · by_cases e : i / 10 = j / 10
      · exact .inr ⟨by omega, .inl (by omega)⟩
      · exact .inl (by omega)
    · exact .inr ⟨rfl, .inr ⟨rfl, h⟩⟩
theorem same_lt : ∀ {a b : List Nat} (p q : List Nat), a.length = b.length → (a ++ p < b ++ q ↔ a < b ∨ a = b ∧ p < q)
  | [], [], p, q, _ => by simp
  | [], _ :: _, p, q, h => by cases h
  | _ :: _, [], p, q, h => by cases h
  | x :: a, y :: b, p, q, hl => by
    have ih := same_lt (a := a) (b := b) p q (by simpa using hl)
    rw [List.cons_append, List.cons_append, List.cons_lt_cons_iff, ih, List.cons_lt_cons_iff]
    constructor
    · rintro (h | ⟨rfl, h | ⟨rfl, h⟩⟩)
      · exact .inl (.inl h)
      · exact .inl (.inr ⟨rfl, h⟩)
      · exact .inr ⟨rfl, h⟩
    · rintro ((h | ⟨rfl, h⟩) | ⟨h, h'⟩)
      · exact .inl h
      · exact .inr ⟨rfl, .inl h⟩
      · cases h
        exact .inr ⟨rfl, .inr ⟨rfl, h'⟩⟩
theorem kc_v (S : List Sy) (s : Str) : kc S (.v s) = 48 :: (tw s.length ++ cs s) := by unfold kc; simp [pre, sgC]
theorem kc_c (S : List Sy) (f : Str) : kc S (.c f) = 49 :: tw (rkN S f) := by unfold kc; simp [pre, sgC]
theorem kc_c0 (S : List Sy) (f : Str) : kc S (.c f) = 49 :: (tw (rkN S f) ++ []) := by rw [kc_c, List.append_nil]
theorem kc_u (S : List Sy) (f : Str) (t : T) : kc S (.u f t) = 49 :: (tw (rkN S f) ++ kc S t) := by unfold kc; simp [pre, sgC]
theorem kc_b (S : List Sy) (f : Str) (s t : T) : kc S (.b f s t) = 49 :: (tw (rkN S f) ++ (kc S s ++ kc S t)) := by unfold kc; simp [pre, sgC]
theorem hd_ok {S : List Sy} {x y : T} {f g : Str} {rx ry : List Nat} (hx : kc S x = 49 :: (tw (rkN S f) ++ rx)) (hy : kc S y = 49 :: (tw (rkN S g) ++ ry)) (hc : cmpT S x y = hdC S f g) (hf : f ∈ S.map (·.1)) (hg : g ∈ S.map (·.1)) (hne : f ≠ g) : CmpOk S x y := by
  have hr : rkN S f ≠ rkN S g := fun z => hne (rkN_inj hf hg z)
  refine ⟨fun p q => ?_, fun z => ?_, ?_⟩
  · rw [hx, hy, hc, List.cons_append, List.cons_append, List.append_assoc, List.append_assoc, List.cons_lt_cons_iff, tw_lt]
    unfold hdC
    constructor
    · rintro (h | ⟨_, h | ⟨h, _⟩⟩)
      · omega
      · rw [if_pos h]; exact .inl rfl
      · exact absurd h hr
    · intro h
      by_cases hlt : rkN S f < rkN S g
      · exact .inr ⟨rfl, .inl hlt⟩
      · rw [if_neg hlt] at h
        rcases h with h | ⟨h, _⟩ <;> omega
  · rw [hc] at z
    unfold hdC at z
    split at z <;> omega
  · rw [hc]
    unfold hdC
    split
    · exact .inl rfl
    · exact .inr (.inr rfl)
theorem Has.ne {S : List Sy} (hS : SyOk S) {f g : Str} {n m : Int} (h : Has S f n) (h' : Has S g m) (hn : n ≠ m) : f ≠ g := fun e => by
  subst e
  obtain ⟨b, hb⟩ := h
  obtain ⟨b', hb'⟩ := h'
  have := nodup_fst hS hb hb' rfl
  cases this
  exact hn rfl
theorem kc_app {S : List Sy} : ∀ {t : T}, (∀ s, t ≠ .v s) → ∃ r, kc S t = 49 :: (tw (rkN S (sym t)) ++ r)
  | .v s, h => absurd rfl (h s)
  | .c f, _ => ⟨[], by rw [kc_c, List.append_nil]; rfl⟩
  | .u f t, _ => ⟨_, kc_u S f t⟩
  | .b f s t, _ => ⟨_, kc_b S f s t⟩
theorem v_app {S : List Sy} {s : Str} {y : T} (hy : ∀ s, y ≠ .v s) : CmpOk S (.v s) y := by
  obtain ⟨r, hr⟩ := kc_app (S := S) hy
  have hc : cmpT S (.v s) y = -1 := by cases y <;> first | rfl | exact absurd rfl (hy _)
  refine ⟨fun p q => ?_, fun z => by omega, .inl hc⟩
  rw [hc, kc_v, hr, List.cons_append, List.cons_append, List.cons_lt_cons_iff]
  exact ⟨fun _ => .inl rfl, fun _ => .inl (by decide)⟩
theorem app_v {S : List Sy} {s : Str} {y : T} (hy : ∀ s, y ≠ .v s) : CmpOk S y (.v s) := by
  obtain ⟨r, hr⟩ := kc_app (S := S) hy
  have hc : cmpT S y (.v s) = 1 := by cases y <;> first | rfl | exact absurd rfl (hy _)
  refine ⟨fun p q => ?_, fun z => by omega, .inr (.inr hc)⟩
  rw [hc, kc_v, hr, List.cons_append, List.cons_append, List.cons_lt_cons_iff]
  constructor
  · rintro (h | ⟨h, _⟩) <;> omega
  · rintro (h | ⟨h, _⟩) <;> omega
theorem cmp_ok {S : List Sy} {Z : List Str} (hS : SyOk S) : ∀ {x y : T}, WT S Z x → WT S Z y → CmpOk S x y
  | .v s, .v t, hx, hy => by
    refine ⟨fun p q => ?_, fun z => ?_, ?_⟩
    · rw [kc_v, kc_v, List.cons_append, List.cons_append, List.append_assoc, List.append_assoc, List.cons_lt_cons_iff, tw_lt]
      unfold cmpT
      by_cases hl : s.length = t.length
      · rw [if_pos hl, same_lt _ _ (by rw [cs_len, cs_len]; exact hl)]
        by_cases he : s = t
        · subst he
          rw [if_pos rfl]
          constructor
          · rintro (h | ⟨_, h | ⟨_, h | ⟨_, h⟩⟩⟩)
            · omega
            · omega
            · exact absurd h (List.lt_irrefl _)
            · exact .inr ⟨rfl, h⟩
          · rintro (h | ⟨_, h⟩)
            · omega
            · exact .inr ⟨rfl, .inr ⟨rfl, .inr ⟨rfl, h⟩⟩⟩
        · rw [if_neg he]
          have hne : cs s ≠ cs t := fun z => he (cs_inj z)
          by_cases hlt : cs s < cs t
          · rw [if_pos hlt]
            exact ⟨fun _ => .inl rfl, fun _ => .inr ⟨rfl, .inr ⟨hl, .inl hlt⟩⟩⟩
          · rw [if_neg hlt]
            constructor
            · rintro (h | ⟨_, h | ⟨_, h | ⟨h, _⟩⟩⟩)
              · omega
              · omega
              · exact absurd h hlt
              · exact absurd h hne
            · rintro (h | ⟨h, _⟩) <;> omega
      · rw [if_neg hl]
        by_cases hlt : s.length < t.length
        · rw [if_pos hlt]
          exact ⟨fun _ => .inl rfl, fun _ => .inr ⟨rfl, .inl hlt⟩⟩
        · rw [if_neg hlt]
          constructor
          · rintro (h | ⟨_, h | ⟨h, _⟩⟩)
            · omega
            · exact absurd h hlt
            · exact absurd h hl
          · rintro (h | ⟨h, _⟩) <;> omega
    · unfold cmpT at z
      split at z
      · split at z
        · rename_i e; rw [e]
        · split at z <;> omega
      · split at z <;> omega
    · unfold cmpT
      split
      · split
        · exact .inr (.inl rfl)
        · split
          · exact .inl rfl
          · exact .inr (.inr rfl)
      · split
        · exact .inl rfl
        · exact .inr (.inr rfl)
  | .v s, .c g, hx, hy => v_app fun _ z => by cases z
  | .v s, .u g b, hx, hy => v_app fun _ z => by cases z
  | .v s, .b g c d, hx, hy => v_app fun _ z => by cases z
  | .c g, .v s, hx, hy => app_v fun _ z => by cases z
  | .u g b, .v s, hx, hy => app_v fun _ z => by cases z
  | .b g c d, .v s, hx, hy => app_v fun _ z => by cases z
  | .c f, .u g b, hx, hy => hd_ok (rx := []) (kc_c0 ..) (kc_u ..) rfl hx.mem hy.1.mem (hx.ne hS hy.1 (by decide))
  | .c f, .b g c d, hx, hy => hd_ok (rx := []) (kc_c0 ..) (kc_b ..) rfl hx.mem hy.1.mem (hx.ne hS hy.1 (by decide))
  | .u g b, .c f, hx, hy => hd_ok (ry := []) (kc_u ..) (kc_c0 ..) rfl hx.1.mem hy.mem (hx.1.ne hS hy (by decide))
  | .b g c d, .c f, hx, hy => hd_ok (ry := []) (kc_b ..) (kc_c0 ..) rfl hx.1.mem hy.mem (hx.1.ne hS hy (by decide))
  | .u f a, .b g c d, hx, hy => hd_ok (kc_u ..) (kc_b ..) rfl hx.1.mem hy.1.mem (hx.1.ne hS hy.1 (by decide))
  | .b g c d, .u f a, hx, hy => hd_ok (kc_b ..) (kc_u ..) rfl hx.1.mem hy.1.mem (hx.1.ne hS hy.1 (by decide))
  | .c f, .c g, hx, hy => by
    by_cases e : f = g
    · subst e
      have hc : cmpT S (.c f) (.c f) = 0 := if_pos rfl
      refine ⟨fun p q => ?_, fun _ => rfl, .inr (.inl hc)⟩
      rw [hc, kc_c, List.cons_append, List.cons_append, List.cons_lt_cons_iff, tw_lt]
      constructor
      · rintro (h | ⟨_, h | ⟨_, h⟩⟩)
        · omega
        · omega
        · exact .inr ⟨rfl, h⟩
      · rintro (h | ⟨_, h⟩)
        · omega
        · exact .inr ⟨rfl, .inr ⟨rfl, h⟩⟩
    · exact hd_ok (rx := []) (ry := []) (kc_c0 ..) (kc_c0 ..) (if_neg e) hx.mem hy.mem e
  | .u f a, .u g b, hx, hy => by
    by_cases e : f = g
    · subst e
      have ih := cmp_ok hS hx.2 hy.2
      have hc : cmpT S (.u f a) (.u f b) = cmpT S a b := if_pos rfl
      refine ⟨fun p q => ?_, fun z => ?_, by rw [hc]; exact ih.val⟩
      · rw [hc, kc_u, kc_u, List.cons_append, List.cons_append, List.append_assoc, List.append_assoc, List.cons_lt_cons_iff, tw_lt, ih.lt]
        constructor
        · rintro (h | ⟨_, h | ⟨_, h⟩⟩)
          · omega
          · omega
          · exact h
        · exact fun h => .inr ⟨rfl, .inr ⟨rfl, h⟩⟩
      · rw [hc] at z
        rw [ih.eq z]
    · exact hd_ok (kc_u ..) (kc_u ..) (if_neg e) hx.1.mem hy.1.mem e
  | .b f a b, .b g c d, hx, hy => by
    by_cases e : f = g
    · subst e
      have ih1 := cmp_ok hS hx.2.1 hy.2.1
      have ih2 := cmp_ok hS hx.2.2 hy.2.2
      have hc : cmpT S (.b f a b) (.b f c d) = if cmpT S a c = 0 then cmpT S b d else cmpT S a c := if_pos rfl
      refine ⟨fun p q => ?_, fun z => ?_, ?_⟩
      · rw [hc, kc_b, kc_b, List.cons_append, List.cons_append, List.append_assoc, List.append_assoc, List.append_assoc, List.append_assoc, List.cons_lt_cons_iff, tw_lt, ih1.lt, ih2.lt]
        by_cases h0 : cmpT S a c = 0
        · rw [if_pos h0, h0]
          constructor
          · rintro (h | ⟨_, h | ⟨_, h | ⟨_, h⟩⟩⟩)
            · omega
            · omega
            · omega
            · exact h
          · exact fun h => .inr ⟨rfl, .inr ⟨rfl, .inr ⟨rfl, h⟩⟩⟩
        · rw [if_neg h0]
          constructor
          · rintro (h | ⟨_, h | ⟨_, h | ⟨h, _⟩⟩⟩)
            · omega
            · omega
            · exact .inl h
            · exact absurd h h0
          · rintro (h | ⟨h, _⟩)
            · exact .inr ⟨rfl, .inr ⟨rfl, .inl h⟩⟩
            · exact absurd h h0
      · rw [hc] at z
        by_cases h0 : cmpT S a c = 0
        · rw [if_pos h0] at z
          rw [ih1.eq h0, ih2.eq z]
        · rw [if_neg h0] at z
          exact absurd z h0
      · rw [hc]
        by_cases h0 : cmpT S a c = 0
        · rw [if_pos h0]; exact ih2.val
        · rw [if_neg h0]; exact ih1.val
    · exact hd_ok (kc_b ..) (kc_b ..) (if_neg e) hx.1.mem hy.1.mem e
theorem cmp_refl (S : List Sy) : ∀ x : T, cmpT S x x = 0
  | .v s => by unfold cmpT; rw [if_pos rfl, if_pos rfl]
  | .c f => if_pos rfl
  | .u f a => by
    have : cmpT S (.u f a) (.u f a) = cmpT S a a := if_pos rfl
    rw [this]; exact cmp_refl S a
  | .b f a b => by
    have : cmpT S (.b f a b) (.b f a b) = if cmpT S a a = 0 then cmpT S b b else cmpT S a a := if_pos rfl
    rw [this, if_pos (cmp_refl S a)]; exact cmp_refl S b
end My

set_option Elab.async false
set_option linter.all false
set_option maxRecDepth 100000
set_option maxHeartbeats 2000000
namespace My
open PySem PySem.Spec PyProof.Rows L2 Dl
/-! ### the law's walk -/
theorem eqS (s t : Str) (hs : SLe 1000 s) (ht : SLe 1000 t) : eqD (.str s) (.str t) = some (.bl (decide (s = t))) := by
  rw [eq_ok (okd_str hs) (okd_str ht)]
  unfold eqB D.py PyData.eqv
  congr 2
theorem neS (s t : Str) (hs : SLe 1000 s) (ht : SLe 1000 t) : neD (.str s) (.str t) = some (.bl (!decide (s = t))) := by
  rw [ne_ok (okd_str hs) (okd_str ht)]
  have := eqS s t hs ht
  rw [eq_ok (okd_str hs) (okd_str ht)] at this
  simp only [Option.some.injEq, D.bl.injEq] at this
  rw [this]
theorem ltS (s t : Str) : ltD (.str s) (.str t) = some (.bl (decide (cs s < cs t))) := rfl
theorem ltI (i j : Int) : ltD (.int i) (.int j) = some (.bl (decide (i < j))) := rfl
theorem at_b (b : Bool) : atI [D.int 1, .int (-1)] (if b = true then (1 : Int) else 0) = some (.int (if b = true then -1 else 1)) := by cases b <;> rfl
theorem at_e (b : Bool) (x : Int) : atI [D.int x, .int 0] (if b = true then (1 : Int) else 0) = some (.int (if b = true then 0 else x)) := by cases b <;> rfl
theorem rk_get {S : List Sy} {f : Str} (h : f ∈ S.map (·.1)) : ixD (rkD S) (.str f) = some (.int (rkN S f : Int)) := by
  have := look_rk f S 0 h
  rw [Nat.zero_add] at this
  exact this
theorem hd_int (S : List Sy) (f g : Str) : (if decide ((rkN S f : Int) < (rkN S g : Int)) = true then (-1 : Int) else 1) = hdC S f g := by
  unfold hdC
  by_cases h : rkN S f < rkN S g
  · rw [if_pos h, if_pos (decide_eq_true (by omega))]
  · rw [if_neg h, if_neg (fun z => h (by have := of_decide_eq_true z; omega))]
theorem r22 : rngD 1 1 = [.int 1] := rfl
theorem r23 : rngD 1 2 = [.int 1, .int 2] := rfl
theorem a0 (x : D) (l : List D) : atI (x :: l) 0 = some x := atI_nat (j := 0) rfl
end My

set_option Elab.async false
set_option linter.all false
set_option maxRecDepth 100000
set_option maxHeartbeats 1000000
namespace My
open PySem PySem.Spec PyProof.Rows L2 Dl
/-! ### the least writing -/
def mf (S : List Sy) : T → T
  | .v s => .v s
  | .c f => .c f
  | .u f t => .u f (mf S t)
  | .b f s t => if f ∈ twos S ∧ cmpT S (mf S t) (mf S s) = -1 then .b f (mf S t) (mf S s) else .b f (mf S s) (mf S t)
theorem mf_b (S : List Sy) (f : Str) (s t : T) : mf S (.b f s t) = .b f (mf S s) (mf S t) ∨ f ∈ twos S ∧ mf S (.b f s t) = .b f (mf S t) (mf S s) := by
  have e : mf S (.b f s t) = if f ∈ twos S ∧ cmpT S (mf S t) (mf S s) = -1 then .b f (mf S t) (mf S s) else .b f (mf S s) (mf S t) := rfl
  rw [e]
  split
  · rename_i h; exact .inr ⟨h.1, rfl⟩
  · exact .inl rfl
theorem mf_wt {S : List Sy} {Z : List Str} : ∀ {t : T}, WT S Z t → WT S Z (mf S t)
  | .v s, h => h
  | .c f, h => h
  | .u f t, h => ⟨h.1, mf_wt h.2⟩
  | .b f s t, h => by
    rcases mf_b S f s t with e | ⟨_, e⟩
    · rw [e]; exact ⟨h.1, mf_wt h.2.1, mf_wt h.2.2⟩
    · rw [e]; exact ⟨h.1, mf_wt h.2.2, mf_wt h.2.1⟩
theorem mf_size (S : List Sy) : ∀ t : T, (mf S t).size = t.size
  | .v s => rfl
  | .c f => rfl
  | .u f t => by show 1 + (mf S t).size = 1 + t.size; rw [mf_size S t]
  | .b f s t => by
    have h1 := mf_size S s
    have h2 := mf_size S t
    rcases mf_b S f s t with e | ⟨_, e⟩
    · rw [e]; show 1 + (mf S s).size + (mf S t).size = 1 + s.size + t.size; omega
    · rw [e]; show 1 + (mf S t).size + (mf S s).size = 1 + s.size + t.size; omega
theorem trn_wt {S : List Sy} {Z : List Str} {t x : T} (h : Trn S t x) : WT S Z t → WT S Z x := by
  induction h with
  | v s => exact fun h => h
  | c f => exact fun h => h
  | u f _ ih => exact fun h => ⟨h.1, ih h.2⟩
  | b f _ _ i1 i2 => exact fun h => ⟨h.1, i1 h.2.1, i2 h.2.2⟩
  | w f _ _ _ i1 i2 => exact fun h => ⟨h.1, i2 h.2.2, i1 h.2.1⟩
theorem trn_size {S : List Sy} {t x : T} (h : Trn S t x) : x.size = t.size := by
  induction h with
  | v s => rfl
  | c f => rfl
  | @u f t t' _ ih => show 1 + t'.size = 1 + t.size; omega
  | @b f s t s' t' _ _ i1 i2 => show 1 + s'.size + t'.size = 1 + s.size + t.size; omega
  | @w f s t s' t' _ _ _ i1 i2 => show 1 + t'.size + s'.size = 1 + s.size + t.size; omega
theorem trn_mf (S : List Sy) : ∀ t : T, Trn S t (mf S t)
  | .v s => .v s
  | .c f => .c f
  | .u f t => .u f (trn_mf S t)
  | .b f s t => by
    rcases mf_b S f s t with e | ⟨h, e⟩
    · rw [e]; exact .b f (trn_mf S s) (trn_mf S t)
    · rw [e]; exact .w f h (trn_mf S s) (trn_mf S t)
section
variable {S : List Sy} (hS : SyOk S) {Z : List Str}
include hS
theorem lt_kc {x y : T} (hx : WT S Z x) (hy : WT S Z y) : cmpT S x y = -1 ↔ kc S x < kc S y := by
  have := (cmp_ok hS hx hy).lt [] []
  rw [List.append_nil, List.append_nil] at this
  rw [this]
  constructor
  · exact .inl
  · rintro (h | ⟨_, h⟩)
    · exact h
    · exact absurd h (List.lt_irrefl _)
theorem kc_inj {x y : T} (hx : WT S Z x) (hy : WT S Z y) (e : kc S x = kc S y) : x = y := by
  have c := cmp_ok hS hx hy
  have h1 := c.lt [0] [1]
  rw [e] at h1
  have h2 : kc S y ++ [0] < kc S y ++ [1] := List.append_left_lt (by decide)
  rcases h1.mp h2 with h | ⟨h, _⟩
  · have := (lt_kc hS hx hy).mp h
    rw [e] at this
    exact absurd this (List.lt_irrefl _)
  · exact c.eq h
theorem le_u {f : Str} {a b : T} (ha : WT S Z (.u f a)) (hb : WT S Z (.u f b)) (h : kc S a ≤ kc S b) : kc S (.u f a) ≤ kc S (.u f b) := fun z => by
  have z1 := (lt_kc hS hb ha).mpr z
  have e : cmpT S (.u f b) (.u f a) = cmpT S b a := if_pos rfl
  rw [e] at z1
  exact h ((lt_kc hS hb.2 ha.2).mp z1)
theorem le_b {f : Str} {a b c d : T} (hx : WT S Z (.b f a b)) (hy : WT S Z (.b f c d)) (h : kc S a ≤ kc S c) (h' : a = c → kc S b ≤ kc S d) : kc S (.b f a b) ≤ kc S (.b f c d) := fun z => by
  have z1 := (lt_kc hS hy hx).mpr z
  have e : cmpT S (.b f c d) (.b f a b) = if cmpT S c a = 0 then cmpT S d b else cmpT S c a := if_pos rfl
  rw [e] at z1
  by_cases h0 : cmpT S c a = 0
  · rw [if_pos h0] at z1
    have := (cmp_ok hS hy.2.1 hx.2.1).eq h0
    exact h' this.symm ((lt_kc hS hy.2.2 hx.2.2).mp z1)
  · rw [if_neg h0] at z1
    exact h ((lt_kc hS hy.2.1 hx.2.1).mp z1)
theorem mf_least {t x : T} (h : Trn S t x) : WT S Z t → kc S (mf S t) ≤ kc S x := by
  induction h with
  | v s => exact fun _ => List.le_refl _
  | c f => exact fun _ => List.le_refl _
  | @u f t t' q ih => exact fun w => le_u hS (mf_wt w : WT S Z (.u f (mf S t))) (⟨w.1, trn_wt q w.2⟩ : WT S Z (.u f t')) (ih w.2)
  | @b f s t s' t' q1 q2 i1 i2 =>
    intro w
    have i1 := i1 w.2.1
    have i2 := i2 w.2.2
    have m1 := mf_wt w.2.1
    have m2 := mf_wt w.2.2
    have w' : WT S Z (.b f s' t') := ⟨w.1, trn_wt q1 w.2.1, trn_wt q2 w.2.2⟩
    have e : mf S (.b f s t) = if f ∈ twos S ∧ cmpT S (mf S t) (mf S s) = -1 then .b f (mf S t) (mf S s) else .b f (mf S s) (mf S t) := rfl
    rw [e]
    split
    · rename_i hc
      have l := (lt_kc hS m2 m1).mp hc.2
      have l2 : kc S (mf S t) < kc S s' := by
        by_cases q : kc S (mf S t) < kc S s'
        · exact q
        · exact absurd l (List.le_trans i1 q)
      refine le_b hS ⟨w.1, m2, m1⟩ w' (List.le_of_lt l2) fun z => ?_
      rw [z] at l2
      exact absurd l2 (List.lt_irrefl _)
    · exact le_b hS ⟨w.1, m1, m2⟩ w' i1 fun _ => i2
  | @w f s t s' t' hf q1 q2 i1 i2 =>
    intro w
    have i1 := i1 w.2.1
    have i2 := i2 w.2.2
    have m1 := mf_wt w.2.1
    have m2 := mf_wt w.2.2
    have w' : WT S Z (.b f t' s') := ⟨w.1, trn_wt q2 w.2.2, trn_wt q1 w.2.1⟩
    have e : mf S (.b f s t) = if f ∈ twos S ∧ cmpT S (mf S t) (mf S s) = -1 then .b f (mf S t) (mf S s) else .b f (mf S s) (mf S t) := rfl
    rw [e]
    split
    · exact le_b hS ⟨w.1, m2, m1⟩ w' i2 fun _ => i1
    · rename_i hc
      have l : kc S (mf S s) ≤ kc S (mf S t) := fun z => hc ⟨hf, (lt_kc hS m2 m1).mpr z⟩
      refine le_b hS ⟨w.1, m1, m2⟩ w' (List.le_trans l i2) fun z => ?_
      have : kc S (mf S t) = kc S (mf S s) := List.le_antisymm (by rw [z]; exact i2) l
      rw [this]
      exact i1
theorem mf_eq {t x : T} (h : Trn S t x) : WT S Z t → mf S x = mf S t := by
  induction h with
  | v s => exact fun _ => rfl
  | c f => exact fun _ => rfl
  | @u f t t' q ih => exact fun w => by show T.u f (mf S t') = T.u f (mf S t); rw [ih w.2]
  | @b f s t s' t' q1 q2 i1 i2 =>
    intro w
    have i1 := i1 w.2.1
    have i2 := i2 w.2.2
    show (if f ∈ twos S ∧ cmpT S (mf S t') (mf S s') = -1 then T.b f (mf S t') (mf S s') else T.b f (mf S s') (mf S t')) = (if f ∈ twos S ∧ cmpT S (mf S t) (mf S s) = -1 then .b f (mf S t) (mf S s) else .b f (mf S s) (mf S t))
    rw [i1, i2]
  | @w f s t s' t' hf q1 q2 i1 i2 =>
    intro w
    have i1 := i1 w.2.1
    have i2 := i2 w.2.2
    have m1 := mf_wt w.2.1
    have m2 := mf_wt w.2.2
    show (if f ∈ twos S ∧ cmpT S (mf S s') (mf S t') = -1 then T.b f (mf S s') (mf S t') else T.b f (mf S t') (mf S s')) = (if f ∈ twos S ∧ cmpT S (mf S t) (mf S s) = -1 then .b f (mf S t) (mf S s) else .b f (mf S s) (mf S t))
    rw [i1, i2]
    by_cases h1 : cmpT S (mf S s) (mf S t) = -1
    · have l1 := (lt_kc hS m1 m2).mp h1
      have h2 : ¬ cmpT S (mf S t) (mf S s) = -1 := fun z => List.lt_asymm l1 ((lt_kc hS m2 m1).mp z)
      rw [if_pos ⟨hf, h1⟩, if_neg fun z => h2 z.2]
    · by_cases h2 : cmpT S (mf S t) (mf S s) = -1
      · rw [if_neg fun z => h1 z.2, if_pos ⟨hf, h2⟩]
      · have : mf S s = mf S t := kc_inj hS m1 m2 (List.le_antisymm (fun z => h2 ((lt_kc hS m2 m1).mpr z)) (fun z => h1 ((lt_kc hS m1 m2).mpr z)))
        rw [if_neg fun z => h1 z.2, if_neg fun z => h2 z.2, this]
end
theorem trn_of {S : List Sy} : ∀ {b a : T}, mf S a = mf S b → Trn S b a
  | .v s, a, e => by
    cases a with
    | v s' => cases e; exact .v s
    | c f => cases e
    | u f t => cases e
    | b f s t => rcases mf_b S f s t with z | ⟨_, z⟩ <;> (rw [z] at e; cases e)
  | .c g, a, e => by
    cases a with
    | v s' => cases e
    | c f => cases e; exact .c g
    | u f t => cases e
    | b f s t => rcases mf_b S f s t with z | ⟨_, z⟩ <;> (rw [z] at e; cases e)
  | .u g t', a, e => by
    cases a with
    | v s' => cases e
    | c f => cases e
    | u f t =>
      have e2 : T.u f (mf S t) = T.u g (mf S t') := e
      injection e2 with e3 e4
      subst e3
      exact .u f (trn_of e4)
    | b f s t => rcases mf_b S f s t with z | ⟨_, z⟩ <;> (rw [z] at e; cases e)
  | .b g s' t', a, e => by
    cases a with
    | v s => rcases mf_b S g s' t' with z | ⟨_, z⟩ <;> (rw [z] at e; cases e)
    | c f => rcases mf_b S g s' t' with z | ⟨_, z⟩ <;> (rw [z] at e; cases e)
    | u f t => rcases mf_b S g s' t' with z | ⟨_, z⟩ <;> (rw [z] at e; cases e)
    | b f s t =>
      rcases mf_b S f s t with z | ⟨hf, z⟩
      · rcases mf_b S g s' t' with z' | ⟨hg, z'⟩
        · rw [z, z'] at e
          injection e with e1 e2 e3
          subst e1
          exact .b f (trn_of e2) (trn_of e3)
        · rw [z, z'] at e
          injection e with e1 e2 e3
          subst e1
          exact .w f hg (trn_of e3) (trn_of e2)
      · rcases mf_b S g s' t' with z' | ⟨hg, z'⟩
        · rw [z, z'] at e
          injection e with e1 e2 e3
          subst e1
          exact .w f hf (trn_of e2) (trn_of e3)
        · rw [z, z'] at e
          injection e with e1 e2 e3
          subst e1
          exact .b f (trn_of e3) (trn_of e2)
/-! ### all turnings -/
def two2 (b : Bool) (r : List (T × T)) : List (T × T) := r ++ if b = true then r.map (fun p => (p.2, p.1)) else []
def prs (xs ys : List T) : List (T × T) := ys.flatMap fun y => xs.map fun x => (x, y)
def all (S : List Sy) : T → List T
  | .v s => [.v s]
  | .c f => [.c f]
  | .u f t => (all S t).map (.u f)
  | .b f s t => (two2 (decide (f ∈ twos S)) (prs (all S s) (all S t))).map fun p => .b f p.1 p.2
theorem mem_prs {xs ys : List T} {p : T × T} : p ∈ prs xs ys ↔ p.1 ∈ xs ∧ p.2 ∈ ys := by
  unfold prs
  rw [List.mem_flatMap]
  constructor
  · rintro ⟨y, hy, h⟩
    obtain ⟨x, hx, rfl⟩ := List.mem_map.mp h
    exact ⟨hx, hy⟩
  · rintro ⟨h1, h2⟩
    exact ⟨p.2, h2, List.mem_map.mpr ⟨p.1, h1, rfl⟩⟩
theorem all_trn {S : List Sy} : ∀ {t x : T}, x ∈ all S t → Trn S t x
  | .v s, x, h => by rw [List.mem_singleton.mp h]; exact .v s
  | .c f, x, h => by rw [List.mem_singleton.mp h]; exact .c f
  | .u f t, x, h => by
    obtain ⟨y, hy, rfl⟩ := List.mem_map.mp h
    exact .u f (all_trn hy)
  | .b f s t, x, h => by
    obtain ⟨p, hp, rfl⟩ := List.mem_map.mp h
    rcases List.mem_append.mp hp with hp | hp
    · obtain ⟨h1, h2⟩ := mem_prs.mp hp
      exact .b f (all_trn h1) (all_trn h2)
    · by_cases hf : f ∈ twos S
      · rw [decide_eq_true hf, if_pos rfl] at hp
        obtain ⟨q, hq, rfl⟩ := List.mem_map.mp hp
        obtain ⟨h1, h2⟩ := mem_prs.mp hq
        exact .w f hf (all_trn h1) (all_trn h2)
      · rw [decide_eq_false hf] at hp
        simp at hp
theorem trn_all {S : List Sy} {t x : T} (h : Trn S t x) : x ∈ all S t := by
  induction h with
  | v s => exact List.mem_singleton.mpr rfl
  | c f => exact List.mem_singleton.mpr rfl
  | u f _ ih => exact List.mem_map.mpr ⟨_, ih, rfl⟩
  | @b f s t s' t' _ _ i1 i2 => exact List.mem_map.mpr ⟨(s', t'), List.mem_append.mpr (.inl (mem_prs.mpr ⟨i1, i2⟩)), rfl⟩
  | @w f s t s' t' hf _ _ i1 i2 =>
    refine List.mem_map.mpr ⟨(t', s'), List.mem_append.mpr (.inr ?_), rfl⟩
    rw [decide_eq_true hf, if_pos rfl]
    exact List.mem_map.mpr ⟨(s', t'), mem_prs.mpr ⟨i1, i2⟩, rfl⟩
def nb : T → Nat
  | .v _ => 0
  | .c _ => 0
  | .u _ t => nb t
  | .b _ s t => 1 + nb s + nb t
theorem nb_size : ∀ t : T, 2 * nb t + 1 ≤ t.size
  | .v _ => Nat.le_refl _
  | .c _ => Nat.le_refl _
  | .u _ t => by have := nb_size t; show 2 * nb t + 1 ≤ 1 + t.size; omega
  | .b _ s t => by have := nb_size s; have := nb_size t; show 2 * (1 + nb s + nb t) + 1 ≤ 1 + s.size + t.size; omega
theorem prs_len (xs ys : List T) : (prs xs ys).length = ys.length * xs.length := by
  unfold prs
  rw [List.length_flatMap]
  induction ys with
  | nil => simp
  | cons y ys ih => rw [List.map_cons, List.sum_cons, ih, List.length_map, List.length_cons, Nat.succ_mul]; omega
theorem all_len {S : List Sy} : ∀ t : T, (all S t).length ≤ 2 ^ nb t
  | .v _ => Nat.le_refl _
  | .c _ => Nat.le_refl _
  | .u f t => by show ((all S t).map _).length ≤ _; rw [List.length_map]; exact all_len t
  | .b f s t => by
    have h1 := all_len (S := S) s
    have h2 := all_len (S := S) t
    have h3 : (prs (all S s) (all S t)).length ≤ 2 ^ nb s * 2 ^ nb t := by
      rw [prs_len, Nat.mul_comm]
      exact Nat.mul_le_mul h1 h2
    show ((two2 _ (prs (all S s) (all S t))).map _).length ≤ 2 ^ (1 + nb s + nb t)
    rw [List.length_map, Nat.add_assoc, Nat.pow_add, Nat.pow_add 2 (nb s)]
    unfold two2
    rw [List.length_append]
    split
    · rw [List.length_map]; omega
    · simp; omega
theorem all_ne {S : List Sy} : ∀ t : T, all S t ≠ [] := fun t z => by
  have := trn_all (trn_mf S t)
  rw [z] at this
  cases this
end My

set_option Elab.async false
set_option linter.all false
set_option maxRecDepth 100000
set_option maxHeartbeats 2000000
namespace My
open PySem PySem.Spec PyProof.Rows L2 Dl
/-! ### equal terms -/
theorem py_str (s : Str) : (D.str s).py = .str s := by unfold D.py; rfl
theorem py_tup (ds : List D) : (D.tup ds).py = .tuple (pyL ds) := by unfold D.py; rfl
theorem pyL_nil : pyL [] = [] := by unfold pyL; rfl
theorem pyL_cons (d : D) (ds : List D) : pyL (d :: ds) = d.py :: pyL ds := by rw [pyL]
theorem eqv_enc : ∀ a b : T, PyData.eqv (enc a).py (enc b).py = decide (a = b)
  | .v s, .v t => by rw [Bool.eq_iff_iff]; simp [enc, py_str, PyData.eqv]
  | .v s, .c g => by rw [Bool.eq_iff_iff]; simp [enc, py_str, py_tup, PyData.eqv]
  | .v s, .u g b => by rw [Bool.eq_iff_iff]; simp [enc, py_str, py_tup, PyData.eqv]
  | .v s, .b g c d => by rw [Bool.eq_iff_iff]; simp [enc, py_str, py_tup, PyData.eqv]
  | .c f, .v t => by rw [Bool.eq_iff_iff]; simp [enc, py_str, py_tup, PyData.eqv]
  | .c f, .c g => by rw [Bool.eq_iff_iff]; simp [enc, py_str, py_tup, pyL_nil, pyL_cons, PyData.eqv, PyData.eqvAll]
  | .c f, .u g b => by rw [Bool.eq_iff_iff]; simp [enc, py_str, py_tup, pyL_nil, pyL_cons, PyData.eqv, PyData.eqvAll]
  | .c f, .b g c d => by rw [Bool.eq_iff_iff]; simp [enc, py_str, py_tup, pyL_nil, pyL_cons, PyData.eqv, PyData.eqvAll]
  | .u f a, .v t => by rw [Bool.eq_iff_iff]; simp [enc, py_str, py_tup, PyData.eqv]
  | .u f a, .c g => by rw [Bool.eq_iff_iff]; simp [enc, py_str, py_tup, pyL_nil, pyL_cons, PyData.eqv, PyData.eqvAll]
  | .u f a, .u g b => by
    have h := eqv_enc a b
    rw [Bool.eq_iff_iff]; simp [enc, py_str, py_tup, pyL_nil, pyL_cons, PyData.eqv, PyData.eqvAll, h]
  | .u f a, .b g c d => by rw [Bool.eq_iff_iff]; simp [enc, py_str, py_tup, pyL_nil, pyL_cons, PyData.eqv, PyData.eqvAll]
  | .b f a b, .v t => by rw [Bool.eq_iff_iff]; simp [enc, py_str, py_tup, PyData.eqv]
  | .b f a b, .c g => by rw [Bool.eq_iff_iff]; simp [enc, py_str, py_tup, pyL_nil, pyL_cons, PyData.eqv, PyData.eqvAll]
  | .b f a b, .u g c => by rw [Bool.eq_iff_iff]; simp [enc, py_str, py_tup, pyL_nil, pyL_cons, PyData.eqv, PyData.eqvAll]
  | .b f a b, .b g c d => by
    have h := eqv_enc a c
    have h' := eqv_enc b d
    rw [Bool.eq_iff_iff]; simp [enc, py_str, py_tup, pyL_nil, pyL_cons, PyData.eqv, PyData.eqvAll, h, h']
theorem eqT {a b : T} (h : Okd 64 (enc a)) (h' : Okd 64 (enc b)) : eqD (enc a) (enc b) = some (.bl (decide (a = b))) := by
  rw [eq_ok h h']
  unfold eqB
  rw [eqv_enc]
theorem neT {a b : T} (h : Okd 64 (enc a)) (h' : Okd 64 (enc b)) : neD (enc a) (enc b) = some (.bl (!decide (a = b))) := by
  rw [ne_ok h h']
  unfold eqB
  rw [eqv_enc]
/-! ### texts -/
theorem add_mk {a b : List Nat} (h : a.length + b.length ≤ 100000) : addD (.str (mk a)) (.str (mk b)) = some (.str (mk (a ++ b))) := by
  show (if (mk a).length + (mk b).length ≤ 100000 then some (D.str (mk a ++ mk b)) else none) = _
  rw [mk_len, mk_len, if_pos h, mk_app]
theorem kc_len {S : List Sy} {Z : List Str} {t : T} (h : WT S Z t) : (kc S t).length ≤ 43 * t.size := by
  unfold kc
  rw [List.length_flatMap, ← pre_len t]
  exact sum_le fun a ha => sgC_len (pre_wt h a ha)
theorem tw_lo {n : Nat} (h : n < 100) : ∀ c ∈ tw n, c < 1114112 := fun c hc => by
  have : c = 48 + n / 10 ∨ c = 48 + n % 10 := by simpa [tw] using hc
  omega
theorem sgC_lo {S : List Sy} (hS : SyOk S) {Z : List Str} {t : T} (h : WT S Z t) : ∀ c ∈ sgC S t, c < 1114112 := by
  have hz := hS.len
  cases t with
  | v s =>
    intro c hc
    rcases List.mem_cons.mp hc with rfl | hc
    · decide
    · rcases List.mem_append.mp hc with hc | hc
      · have := h.1.len; exact tw_lo (by omega) c hc
      · exact h.1.cps c hc
  | c f =>
    intro c hc
    rcases List.mem_cons.mp hc with rfl | hc
    · decide
    · have := rkN_lt f (Has.mem h); exact tw_lo (by omega) c hc
  | u f t =>
    intro c hc
    rcases List.mem_cons.mp hc with rfl | hc
    · decide
    · have := rkN_lt f h.1.mem; exact tw_lo (by omega) c hc
  | b f s t =>
    intro c hc
    rcases List.mem_cons.mp hc with rfl | hc
    · decide
    · have := rkN_lt f h.1.mem; exact tw_lo (by omega) c hc
theorem kc_sle {S : List Sy} (hS : SyOk S) {Z : List Str} {t : T} (h : WT S Z t) : SLe (43 * t.size) (mk (kc S t)) := by
  refine ⟨by rw [mk_len]; exact kc_len h, fun c hc => ?_⟩
  have hc : c ∈ kc S t := hc
  unfold kc at hc
  obtain ⟨x, hx, hc⟩ := List.mem_flatMap.mp hc
  exact sgC_lo hS (pre_wt h x hx) c hc
theorem mk_inj {a b : List Nat} (h : mk a = mk b) : a = b := by
  have := congrArg cs h
  rwa [cs_mk, cs_mk] at this
theorem join_mk (ls : List (List Nat)) (h : (ls.map (·.length)).sum ≤ 100000) : joinD (.str "") (.lst (ls.map fun l => D.str (mk l))) = some (.str (mk ls.flatten)) := by
  have e : (ls.map fun l => D.str (mk l)) = (ls.map mk).map D.str := by rw [List.map_map]; rfl
  rw [e]
  show ((strL ((ls.map mk).map D.str)).bind fun ys => if (ys.map (·.length)).sum + ys.length * (Str.ofString "").length ≤ 16000000 then some (D.str (Txt.join "" ys)) else none) = _
  rw [strL_map]
  have h0 : (Str.ofString "").length = 0 := by decide +kernel
  have h1 : ((ls.map mk).map fun s => s.length) = ls.map (·.length) := by rw [List.map_map]; exact List.map_congr_left fun l _ => mk_len l
  show (if ((ls.map mk).map fun s => s.length).sum + _ * (Str.ofString "").length ≤ 16000000 then _ else none) = _
  rw [h0, h1, if_pos (by omega)]
  congr 2
  refine cs_inj ?_
  rw [join_cs, cs_mk, List.flatMap_map]
  show (ls.map fun a => cs (mk a)).flatten = ls.flatten
  congr 1
  exact List.map_id'' (fun l => cs_mk l) ls
/-! ### two-way -/
theorem rk_at (f : Str) : ∀ {S : List Sy}, f ∈ S.map (·.1) → ∃ q, S[rkN S f]? = some q ∧ q.1 = f ∧ q ∈ S
  | [], h => by cases h
  | q :: S, h => by
    unfold rkN
    by_cases hq : q.1 = f
    · rw [if_pos hq]; exact ⟨q, rfl, hq, List.mem_cons_self ..⟩
    · rw [if_neg hq]
      have hm : f ∈ S.map (·.1) := by
        rcases List.mem_cons.mp h with z | z
        · exact absurd z.symm hq
        · exact z
      obtain ⟨r, h1, h2, h3⟩ := rk_at f hm
      exact ⟨r, by rw [List.getElem?_cons_succ]; exact h1, h2, List.mem_cons_of_mem _ h3⟩
theorem two_ok (c : Addr) {S : List Sy} (hS : SyOk S) {f : Str} (hf : f ∈ S.map (·.1)) : f_Signature_is_two_way c [sgD c S, .str f] = some (.bl (decide (f ∈ twos S))) := by
  have h1 := look_rk f S 0 hf
  rw [Nat.zero_add] at h1
  obtain ⟨q, q1, q2, q3⟩ := rk_at f hf
  have hb : q.2.2 = decide (f ∈ twos S) := by
    rw [Bool.eq_iff_iff, decide_eq_true_iff]
    constructor
    · intro h
      exact List.mem_map.mpr ⟨q, List.mem_filter.mpr ⟨q3, h⟩, q2⟩
    · intro h
      obtain ⟨r, hr, e⟩ := List.mem_map.mp h
      obtain ⟨r1, r2⟩ := List.mem_filter.mp hr
      have := nodup_fst hS r1 q3 (e.trans q2.symm)
      rw [← this]
      exact r2
  have h2 : ∀ rest : En, fldM [c] "_ranks" (nameV 0) (some (.val (sgD c S)) :: rest) = some (rkD S) := fun rest => by
    show (if c ∈ [c] then lkF ["symbols", "_ranks"] [.tup (S.map syE), rkD S] "_ranks" else none) = _
    rw [if_pos (List.mem_singleton.mpr rfl)]
    rfl
  have h2' : ∀ rest : En, fldM [c] "symbols" (nameV 0) (some (.val (sgD c S)) :: rest) = some (.tup (S.map syE)) := fun rest => by
    show (if c ∈ [c] then lkF ["symbols", "_ranks"] [.tup (S.map syE), rkD S] "symbols" else none) = _
    rw [if_pos (List.mem_singleton.mpr rfl)]
    rfl
  have h3 : get1D (rkD S) (.str f) = some (.int (rkN S f : Int)) := by
    show some ((lookD (rkK S) (rkV 0 S.length) (.inr f)).getD .non) = _
    rw [h1]
    rfl
  have h4 : atI (S.map syE) (rkN S f : Int) = some (syE q) := at_lit _ rfl (by rw [List.getElem?_map, q1]; rfl)
  have h5 : ixD (syE q) (.int 2) = some (.bl q.2.2) := rfl
  unfold f_Signature_is_two_way m_Signature_is_two_way
  simp [h2, h2', h3, h4, h5, hb, isNotND, isNone, retF]
theorem two_meth (c : Addr) {S : List Sy} (hS : SyOk S) {f : Str} (hf : f ∈ S.map (·.1)) (as : List D) (rest : En) : methM c "is_two_way" (f_Signature_is_two_way c) (nameV 0) (consM (bind2 (nameV 1) (cI 0) ixD) nilM) (some (.val (sgD c S)) :: some (.val (.tup (.str f :: as))) :: rest) = some (.bl (decide (f ∈ twos S))) := by
  have := two_ok c hS hf
  unfold methM
  simp [a0, sgD] at this ⊢
  exact ⟨by decide, this⟩
end My

set_option Elab.async false
set_option linter.all false
set_option maxRecDepth 100000
set_option maxHeartbeats 2000000
namespace My
open PySem PySem.Spec PyProof.Rows L2 Dl
/-! ### sorting -/
theorem sortKD_map {α : Type} (l : List α) (g : α → D) (K : α → List Nat) : sortKD (l.map fun a => D.str (mk (K a))) (l.map g) = (l.mergeSort fun a b => decide (K a ≤ K b)).map g := by
  unfold sortKD
  rw [List.zip_map']
  have h : (l.mergeSort (fun a b => decide (K a ≤ K b))).map (fun a => ((D.str (mk (K a)), g a) : D × D)) = (l.map fun a => ((D.str (mk (K a)), g a) : D × D)).mergeSort (PySem.W.dataLe false fun p : D × D => p.1.py) :=
    List.map_mergeSort fun a _ b _ => by
      have := congrFun (congrFun (PySem.W.dataLe_str fun a : α => mk (K a)) a) b
      exact this.symm
  rw [← h, List.map_map]
  rfl
theorem uniq {β : Type} {R : β → β → Prop} : ∀ {l m : List β}, l.Perm m → l.Pairwise R → m.Pairwise R → (∀ a ∈ l, ∀ b ∈ l, R a b → R b a → a = b) → l = m
  | [], m, h, _, _, _ => by rw [List.nil_perm.mp h]
  | a :: l, m, h, h1, h2, ha => by
    cases m with
    | nil => exact absurd h.length_eq (by simp)
    | cons b m =>
      have hab : a = b := by
        have m1 : a ∈ b :: m := h.subset (List.mem_cons_self ..)
        have m2 : b ∈ a :: l := h.symm.subset (List.mem_cons_self ..)
        rcases List.mem_cons.mp m1 with e | m1
        · exact e
        · rcases List.mem_cons.mp m2 with e | m2
          · exact e.symm
          · exact ha a (List.mem_cons_self ..) b (List.mem_cons_of_mem _ m2) ((List.pairwise_cons.mp h1).1 b m2) ((List.pairwise_cons.mp h2).1 a m1)
      subst hab
      rw [uniq h.cons_inv (List.pairwise_cons.mp h1).2 (List.pairwise_cons.mp h2).2 fun x hx y hy => ha x (List.mem_cons_of_mem _ hx) y (List.mem_cons_of_mem _ hy)]
theorem le_tot (a b : List Nat) : (decide (a ≤ b) || decide (b ≤ a)) = true := by
  rcases List.le_total a b with h | h <;> simp [h]
theorem sort_due {α β : Type} (l : List α) (cn : α → β) (KB : β → List Nat) {due : List β} (inj : ∀ a ∈ due, ∀ b ∈ due, KB a = KB b → a = b) (hp : due.Perm (l.map cn)) (hs : due.Pairwise fun a b => KB a ≤ KB b) :
    (l.mergeSort fun a b => decide (KB (cn a) ≤ KB (cn b))).map cn = due := by
  have h1 : (l.mergeSort fun a b => decide (KB (cn a) ≤ KB (cn b))).Pairwise fun a b => decide (KB (cn a) ≤ KB (cn b)) = true :=
    List.pairwise_mergeSort (le := fun a b => decide (KB (cn a) ≤ KB (cn b))) (fun a b c h1 h2 => decide_eq_true (List.le_trans (of_decide_eq_true h1) (of_decide_eq_true h2))) (fun a b => le_tot (KB (cn a)) (KB (cn b))) l
  have h2 : ((l.mergeSort fun a b => decide (KB (cn a) ≤ KB (cn b))).map cn).Pairwise fun a b => KB a ≤ KB b :=
    List.pairwise_map.mpr (h1.imp fun h => of_decide_eq_true h)
  have h3 : ((l.mergeSort fun a b => decide (KB (cn a) ≤ KB (cn b))).map cn).Perm (l.map cn) := (List.mergeSort_perm l _).map cn
  exact (uniq (hp.trans h3.symm) hs h2 fun a ha b hb x y => inj a ha b hb (List.le_antisymm x y)).symm
theorem keys_map {α : Type} {mb : En → Option D} {env : En} {g : α → D} {K : α → List Nat} : ∀ {l : List α}, (∀ a ∈ l, mb (env ++ [some (.val (g a))]) = some (.str (mk (K a)))) → keysM mb env (l.map g) = some (l.map fun a => D.str (mk (K a)))
  | [], _ => rfl
  | a :: l, h => by
    rw [List.map_cons]
    unfold keysM
    rw [h a (List.mem_cons_self ..)]
    show (keysM mb env (l.map g)).bind _ = _
    rw [keys_map fun b hb => h b (List.mem_cons_of_mem _ hb)]
    rfl
theorem keys_good {α : Type} {K : α → List Nat} (l : List α) : keysOk (l.map fun a => D.str (mk (K a))) = true := by
  unfold keysOk
  rw [Bool.and_eq_true]
  refine ⟨List.all_eq_true.mpr fun d hd => ?_, List.all_eq_true.mpr fun d hd => List.all_eq_true.mpr fun e he => ?_⟩
  · obtain ⟨a, _, rfl⟩ := List.mem_map.mp hd
    rfl
  · obtain ⟨a, _, rfl⟩ := List.mem_map.mp hd
    obtain ⟨b, _, rfl⟩ := List.mem_map.mp he
    rfl
theorem sortKM_ok {α : Type} {m mb : En → Option D} {env : En} {g : α → D} {K : α → List Nat} {l : List α} (hm : m env = some (.lst (l.map g))) (hl : l.length ≤ 100000) (hk : ∀ a ∈ l, mb (env ++ [some (.val (g a))]) = some (.str (mk (K a)))) : sortKM m mb env = some ((l.mergeSort fun a b => decide (K a ≤ K b)).map g) := by
  unfold sortKM
  rw [hm]
  show (if (l.map g).length ≤ 100000 then (match keysM mb env (l.map g) with
    | some ks => if keysOk ks = true then some (sortKD ks (l.map g)) else none
    | none => none) else none) = _
  rw [if_pos (by rw [List.length_map]; exact hl), keys_map hk]
  show (if keysOk (l.map fun a => D.str (mk (K a))) = true then some (sortKD (l.map fun a => D.str (mk (K a))) (l.map g)) else none) = _
  rw [if_pos (keys_good l), sortKD_map]
/-! ### keys -/
def kd (S : List Sy) (x : T) : D := .tup [.str (mk (kc S x)), enc x]
theorem sort2 {S : List Sy} (hS : SyOk S) {Z : List Str} {x y : T} (hx : WT S Z x) (hy : WT S Z y) : ([x, y].mergeSort fun a b => decide (kc S a ≤ kc S b)) = if cmpT S y x = -1 then [y, x] else [x, y] := by
  have h := sort_due [x, y] (fun t => t) (kc S) (due := if cmpT S y x = -1 then [y, x] else [x, y]) (fun a ha b hb e => ?_) ?_ ?_
  · rw [List.map_id'] at h
    exact h
  · have m : ∀ t ∈ (if cmpT S y x = -1 then [y, x] else [x, y]), WT S Z t := fun t ht => by
      split at ht <;> (have : t = y ∨ t = x := by simpa [or_comm] using ht) <;> (rcases this with rfl | rfl) <;> assumption
    exact kc_inj hS (m a ha) (m b hb) e
  · rw [List.map_id']
    split
    · exact List.Perm.swap x y []
    · exact List.Perm.refl _
  · split
    · rename_i h; exact List.pairwise_pair.mpr (List.le_of_lt ((lt_kc hS hy hx).mp h))
    · rename_i h; exact List.pairwise_pair.mpr fun z => h ((lt_kc hS hy hx).mpr z)
theorem kd_key (S : List Sy) (x : T) : ixD (kd S x) (.int 0) = some (.str (mk (kc S x))) := rfl
theorem sort_kd (S : List Sy) {env : En} {L : List T} (h : nameV 3 env = some (.lst (L.map (kd S)))) (h8 : env.length = 8) (hl : L.length ≤ 100000) : sortKM (nameV 3) (bind2 (nameV 8) (cI 0) ixD) env = some ((L.mergeSort fun a b => decide (kc S a ≤ kc S b)).map (kd S)) := by
  refine sortKM_ok h hl fun a ha => ?_
  have : nameV 8 (env ++ [some (.val (kd S a))]) = some (kd S a) := by
    unfold nameV
    rw [List.getElem?_append_right (by omega), h8]
    rfl
  show (bind2 (nameV 8) (cI 0) ixD) _ = _
  unfold bind2
  rw [this]
  rfl
def tlKey : En → Option Out := seqM (setM 2 (bind2 (nameV 2) (bind2 (cS "") (asLst (lcM [5, 6] (itemsA (nameV 3)) (bndT 2 (bndC (bndN 5) (bndC (bndN 6) bndNil))) yesM (nameV 5))) joinD) addD))
    (retF (tupM (consM (nameV 2) (consM (bind2 (tupM (consM (bind2 (nameV 1) (cI 0) ixD) nilM)) (callM tupleD (consM (asLst (lcM [6, 7] (itemsA (nameV 3)) (bndT 2 (bndC (bndN 6) (bndC (bndN 7) bndNil))) yesM (nameV 7))) nilM)) addD) nilM))))
theorem comp_keys (S : List Sy) {e0 e1 e2 e3 e4 e7 : Option Sl} : ∀ L : List T, compM (bndT 2 (bndC (bndN 5) (bndC (bndN 6) bndNil))) yesM (nameV 5) [e0, e1, e2, e3, e4, none, none, e7] (L.map (kd S)) = some ((L.map (kc S)).map fun l => D.str (mk l))
  | [] => rfl
  | x :: L => by
    rw [List.map_cons]
    unfold compM
    rw [comp_keys S L]
    rfl
theorem comp_enc (S : List Sy) {e0 e1 e2 e3 e4 e5 : Option Sl} : ∀ L : List T, compM (bndT 2 (bndC (bndN 6) (bndC (bndN 7) bndNil))) yesM (nameV 7) [e0, e1, e2, e3, e4, e5, none, none] (L.map (kd S)) = some (L.map enc)
  | [] => rfl
  | x :: L => by
    rw [List.map_cons]
    unfold compM
    rw [comp_enc S L]
    rfl
theorem tl_key {S : List Sy} {f : Str} {as : List D} {k0 : List Nat} {L : List T} {sg : Option Sl} (h : k0.length + ((L.map (kc S)).map (·.length)).sum ≤ 100000) (hl : L.length ≤ 2) :
    tlKey [sg, some (.val (.tup (.str f :: as))), some (.val (.str (mk k0))), some (.val (.lst (L.map (kd S)))), none, none, none, none] = some (.rt (.tup [.str (mk (k0 ++ (L.map (kc S)).flatten)), .tup (.str f :: L.map enc)])) := by
  have j := join_mk (L.map (kc S)) (by omega)
  have hlen : (mk k0).length + (mk (L.map (kc S)).flatten).length ≤ 100000 := by rw [mk_len, mk_len, List.length_flatten]; exact h
  have hl' : L.length ≤ 100000 := by omega
  have hl1 : 1 + L.length ≤ 100000 := by omega
  have c1 := fun e0 e1 e2 e3 e4 e7 => comp_keys S (e0 := e0) (e1 := e1) (e2 := e2) (e3 := e3) (e4 := e4) (e7 := e7) L
  have c2 := fun e0 e1 e2 e3 e4 e5 => comp_enc S (e0 := e0) (e1 := e1) (e2 := e2) (e3 := e3) (e4 := e4) (e5 := e5) L
  unfold tlKey
  simp only [List.map_map] at j c1
  simp [c1, c2, hl', hl1, j, hlen, mk_app, a0, addD, tupleD, retF]
end My

set_option Elab.async false
set_option linter.all false
set_option maxRecDepth 100000
set_option maxHeartbeats 2000000
namespace My
open PySem PySem.Spec PyProof.Rows L2 Dl
/-! ### keyed writings -/
def keysC : En → Option Out := seqM (setM 3 (asLst (lcM [4] (itemsA (slM (nameV 1) (partM (cI 1)) noP)) (bndN 4) yesM (callM (fun _ => none) (consM (nameV 0) (consM (nameV 4) nilM)))))) nextM
theorem keyed_split (c : Addr) (self : List D → Option D) : m_keyed_writing c self = (seqM (setM 2 (callM (f_sign_order c) (consM (nameV 0) (consM (nameV 1) nilM))))
    (seqM (ifM (boolM (unM (isiD "str") (nameV 1))) (retF (tupM (consM (nameV 2) (consM (nameV 1) nilM)))) nextM)
    (seqM (setM 3 (asLst (lcM [4] (itemsA (slM (nameV 1) (partM (cI 1)) noP)) (bndN 4) yesM (callM self (consM (nameV 0) (consM (nameV 4) nilM))))))
    (seqM (ifM (boolM (methM c "is_two_way" (f_Signature_is_two_way c) (nameV 0) (consM (bind2 (nameV 1) (cI 0) ixD) nilM))) (setM 3 (asLst (sortKM (nameV 3) (bind2 (nameV 8) (cI 0) ixD)))) nextM)
    tlKey)))) := rfl
theorem keyed_ok (c : Addr) {S : List Sy} (hS : SyOk S) {Z : List Str} : ∀ (t : T) (k : Nat), WT S Z t → t.size ≤ k → t.size ≤ 64 → f_keyed_writing_ c k [sgD c S, enc t] = some (kd S (mf S t))
  | .v s, k, h, hk, h64 => by
    obtain ⟨k, rfl⟩ : ∃ k', k = k' + 1 := ⟨k - 1, by have : 1 ≤ k := hk; omega⟩
    have e := sign_order_ok c hS h
    have hk : kc S (mf S (.v s)) = sgC S (.v s) := by unfold kc; simp [pre, mf]
    show bodyM 2 8 (m_keyed_writing c (f_keyed_writing_ c k)) _ = _
    rw [keyed_split]
    unfold kd
    rw [hk]
    simp only [enc] at e
    simp [enc, isi_str, unM, retF, mf, e]
  | .c f, k, h, hk, h64 => by
    obtain ⟨k, rfl⟩ : ∃ k', k = k' + 1 := ⟨k - 1, by have : 1 ≤ k := hk; omega⟩
    have e := sign_order_ok c hS h
    have hf : f ∉ twos S := fun hf => by have := two_two hS hf h; omega
    have hk : kc S (mf S (.c f)) = sgC S (.c f) ++ ([] : List (List Nat)).flatten := by unfold kc; simp [pre, mf]
    have tm := fun rest => two_meth c hS (Has.mem h) [] rest
    rw [decide_eq_false hf] at tm
    have tk := tl_key (S := S) (f := f) (as := []) (k0 := sgC S (.c f)) (L := []) (sg := some (.val (sgD c S))) (by have := sgC_len h; simp; omega) (by simp)
    show bodyM 2 8 (m_keyed_writing c (f_keyed_writing_ c k)) _ = _
    rw [keyed_split]
    refine body_rt rfl ?_
    unfold kd
    rw [hk]
    simp only [enc] at e
    simp at tk
    simp [enc, isi_tup, unM, retF, mf, cut_tail, compM, tm, nextM, e, tk]
  | .u f t, k, h, hk, h64 => by
    have h1 : 1 + t.size ≤ k := hk
    have h2 : 1 + t.size ≤ 64 := h64
    obtain ⟨k, rfl⟩ : ∃ k', k = k' + 1 := ⟨k - 1, by omega⟩
    have e := sign_order_ok c hS h
    have hf : f ∉ twos S := fun hf => by have := two_two hS hf h.1; omega
    have ih := keyed_ok c hS t k h.2 (by omega) (by omega)
    have mw := mf_wt h.2
    have ml := kc_len mw
    rw [mf_size] at ml
    have hk : kc S (mf S (.u f t)) = sgC S (.u f t) ++ ([mf S t].map (kc S)).flatten := by
      have : mf S (.u f t) = .u f (mf S t) := rfl
      rw [this, kc_u]
      simp [sgC]
    have tm := fun as rest => two_meth c hS h.1.mem as rest
    rw [decide_eq_false hf] at tm
    have tk := tl_key (S := S) (f := f) (as := [enc t]) (k0 := sgC S (.u f t)) (L := [mf S t]) (sg := some (.val (sgD c S))) (by have := sgC_len h; simp; omega) (by simp)
    show bodyM 2 8 (m_keyed_writing c (f_keyed_writing_ c k)) _ = _
    rw [keyed_split]
    refine body_rt rfl ?_
    unfold kd
    rw [hk]
    simp only [enc] at e
    simp at tk
    simp [enc, isi_tup, unM, retF, mf, cut_tail, compM, tm, ih, nextM, e, tk]
  | .b f s t, k, h, hk, h64 => by
    have h1 : 1 + s.size + t.size ≤ k := hk
    have h2 : 1 + s.size + t.size ≤ 64 := h64
    obtain ⟨k, rfl⟩ : ∃ k', k = k' + 1 := ⟨k - 1, by omega⟩
    have e := sign_order_ok c hS h
    have ih1 := keyed_ok c hS s k h.2.1 (by omega) (by omega)
    have ih2 := keyed_ok c hS t k h.2.2 (by omega) (by omega)
    have mw1 := mf_wt h.2.1
    have mw2 := mf_wt h.2.2
    have ml1 := kc_len mw1
    have ml2 := kc_len mw2
    rw [mf_size] at ml1 ml2
    have lg := sgC_len h
    have tm := fun as rest => two_meth c hS h.1.mem as rest
    have em : mf S (.b f s t) = if f ∈ twos S ∧ cmpT S (mf S t) (mf S s) = -1 then .b f (mf S t) (mf S s) else .b f (mf S s) (mf S t) := rfl
    have fin : ∀ x y : T, (kc S x).length + (kc S y).length ≤ 43 * s.size + 43 * t.size → mf S (.b f s t) = .b f x y → tlKey [some (.val (sgD c S)), some (.val (.tup [.str f, enc s, enc t])), some (.val (.str (mk (sgC S (.b f s t))))), some (.val (.lst [kd S x, kd S y])), none, none, none, none] = some (.rt (kd S (mf S (.b f s t)))) := fun x y hl he => by
      have tk := tl_key (S := S) (f := f) (as := [enc s, enc t]) (k0 := sgC S (.b f s t)) (L := [x, y]) (sg := some (.val (sgD c S))) (by simp; omega) (by simp)
      have hk : kc S (.b f x y) = sgC S (.b f s t) ++ ([x, y].map (kc S)).flatten := by
        rw [kc_b]
        simp [sgC]
      rw [he]
      unfold kd
      rw [hk]
      exact tk
    show bodyM 2 8 (m_keyed_writing c (f_keyed_writing_ c k)) _ = _
    rw [keyed_split]
    refine body_rt rfl ?_
    by_cases hf : f ∈ twos S
    · rw [decide_eq_true hf] at tm
      have so := sort_kd S (env := [some (.val (sgD c S)), some (.val (enc (.b f s t))), some (.val (.str (mk (sgC S (.b f s t))))), some (.val (.lst ([mf S s, mf S t].map (kd S)))), none, none, none, none]) (L := [mf S s, mf S t]) rfl rfl (by simp)
      rw [sort2 hS mw1 mw2] at so
      by_cases hc : cmpT S (mf S t) (mf S s) = -1
      · have fi := fin (mf S t) (mf S s) (by omega) (by rw [em, if_pos ⟨hf, hc⟩])
        rw [if_pos hc] at so
        simp only [enc] at e
        simp [enc] at so
        simp [enc, isi_tup, unM, retF, cut_tail, compM, tm, ih1, ih2, nextM, e, so, fi]
      · have fi := fin (mf S s) (mf S t) (by omega) (by rw [em, if_neg fun z => hc z.2])
        rw [if_neg hc] at so
        simp only [enc] at e
        simp [enc] at so
        simp [enc, isi_tup, unM, retF, cut_tail, compM, tm, ih1, ih2, nextM, e, so, fi]
    · rw [decide_eq_false hf] at tm
      have fi := fin (mf S s) (mf S t) (by omega) (by rw [em, if_neg fun z => hf z.1])
      simp only [enc] at e
      simp [enc, isi_tup, unM, retF, cut_tail, compM, tm, ih1, ih2, nextM, e, fi]
section
variable (c : Addr) {S : List Sy} (hS : SyOk S) {Z : List Str}
include hS
theorem keyed64 {t : T} (h : WT S Z t) (hz : t.size ≤ 64) : f_keyed_writing c [sgD c S, enc t] = some (.tup [.str (mk (kc S (mf S t))), enc (mf S t)]) := keyed_ok c hS t 64 h hz hz
theorem likeness_ok {t : T} (h : WT S Z t) (hz : t.size ≤ 64) : f_likeness c [sgD c S, enc t] = some (.str (mk (kc S (mf S t)))) := by
  have e := keyed64 c hS h hz
  unfold f_likeness m_likeness
  simp [e, asgM, bndT, bndC, bndN, bndNil, retF]
theorem alike_ok {a b : T} (ha : WT S Z a) (hb : WT S Z b) (za : a.size ≤ 64) (zb : b.size ≤ 64) : f_are_alike c [sgD c S, enc a, enc b] = some (.bl (decide (mf S a = mf S b))) := by
  have e1 := eqT (enc_ok hS ha za) (enc_ok hS hb zb)
  have l1 := likeness_ok c hS ha za
  have l2 := likeness_ok c hS hb zb
  have e2 : eqD (.str (mk (kc S (mf S a)))) (.str (mk (kc S (mf S b)))) = some (.bl (decide (mf S a = mf S b))) := by
    rw [eq_ok (okd_str (kc_sle hS (mf_wt ha))) (okd_str (kc_sle hS (mf_wt hb)))]
    unfold eqB
    rw [py_str, py_str]
    have : PyData.eqv (.str (mk (kc S (mf S a)))) (.str (mk (kc S (mf S b)))) = (mk (kc S (mf S a)) == mk (kc S (mf S b))) := by simp [PyData.eqv]
    rw [this]
    congr 2
    rw [Bool.eq_iff_iff, beq_iff_eq, decide_eq_true_iff]
    exact ⟨fun z => kc_inj hS (mf_wt ha) (mf_wt hb) (mk_inj z), fun z => by rw [z]⟩
  by_cases h : a = b
  · subst h
    unfold f_are_alike m_are_alike
    simp [e1, orV, retF]
  · unfold f_are_alike m_are_alike
    simp [e1, h, l1, l2, e2, orV, retF]
end
end My

set_option Elab.async false
set_option linter.all false
set_option maxRecDepth 100000
set_option maxHeartbeats 2000000
namespace My
open PySem PySem.Spec PyProof.Rows L2 Dl
/-! ### exchange sets -/
abbrev Pl := List Nat
def bel (i : Nat) (ps : List Pl) : List Pl := ps.map (List.cons i)
def prd (A B : List (List Pl)) : List (List Pl) := A.flatMap fun p => B.map fun q => bel 0 p ++ bel 1 q
def xs (S : List Sy) : T → T → List (List Pl)
  | .v a, .v b => if a = b then [[]] else []
  | .c f, .c g => if f = g then [[]] else []
  | .u f s, .u g t => if f = g then (xs S s t).map (bel 0) else []
  | .b f s t, .b g s' t' => if f = g then prd (xs S s s') (xs S t t') ++ (if f ∈ twos S then (prd (xs S s t') (xs S t s')).map (List.cons []) else []) else []
  | _, _ => []
/-- the two-way places -/
def kn (S : List Sy) : T → List Pl
  | .v _ => []
  | .c _ => []
  | .u _ t => bel 0 (kn S t)
  | .b f s t => (if f ∈ twos S then [[]] else []) ++ (bel 0 (kn S s) ++ bel 1 (kn S t))
/-- exchanged where m says so -/
def ex : T → (Pl → Bool) → T
  | .v s, _ => .v s
  | .c f, _ => .c f
  | .u f t, m => .u f (ex t fun p => m (0 :: p))
  | .b f s t, m => if m [] = true then .b f (ex t fun p => m (1 :: p)) (ex s fun p => m (0 :: p)) else .b f (ex s fun p => m (0 :: p)) (ex t fun p => m (1 :: p))
def exR (t : T) (R : List Pl) : T := ex t fun p => decide (p ∈ R)
theorem mem_bel {i : Nat} {p : Pl} {ps : List Pl} : p ∈ bel i ps ↔ ∃ q, q ∈ ps ∧ p = i :: q := by
  unfold bel
  rw [List.mem_map]
  exact ⟨fun ⟨q, h, e⟩ => ⟨q, h, e.symm⟩, fun ⟨q, h, e⟩ => ⟨q, h, e.symm⟩⟩
theorem cons_bel {i : Nat} {p : Pl} {ps : List Pl} : i :: p ∈ bel i ps ↔ p ∈ ps := by
  rw [mem_bel]
  exact ⟨fun ⟨q, h, e⟩ => by injection e with _ e; rw [e]; exact h, fun h => ⟨p, h, rfl⟩⟩
theorem no_bel {i j : Nat} (n : i ≠ j) {p : Pl} {ps : List Pl} : i :: p ∉ bel j ps := fun h => by
  obtain ⟨q, _, e⟩ := mem_bel.mp h
  injection e with e _
  exact n e
theorem nil_bel {i : Nat} {ps : List Pl} : ([] : Pl) ∉ bel i ps := fun h => by
  obtain ⟨q, _, e⟩ := mem_bel.mp h
  cases e
theorem bel_inj {i : Nat} {a b : List Pl} (h : bel i a = bel i b) : a = b := by
  unfold bel at h
  exact (List.map_inj_right (fun x y e => by injection e)).mp h
theorem bel_two : ∀ {a b c d : List Pl}, bel 0 a ++ bel 1 b = bel 0 c ++ bel 1 d → a = c ∧ b = d
  | [], b, [], d, h => ⟨rfl, bel_inj h⟩
  | [], b, x :: c, d, h => by
    cases b with
    | nil => cases h
    | cons y b =>
      injection h with h _
      injection h with h _
      cases h
  | x :: a, b, [], d, h => by
    cases d with
    | nil => cases h
    | cons y d =>
      injection h with h _
      injection h with h _
      cases h
  | x :: a, b, y :: c, d, h => by
    injection h with h1 h2
    injection h1 with _ h1
    obtain ⟨e1, e2⟩ := bel_two (a := a) (b := b) (c := c) (d := d) h2
    exact ⟨by rw [h1, e1], e2⟩
theorem exR_u (f : Str) (t : T) (R : List Pl) : exR (.u f t) (bel 0 R) = .u f (exR t R) := by
  show T.u f (ex t fun p => decide (0 :: p ∈ bel 0 R)) = _
  congr 2
  funext p
  exact decide_eq_decide.mpr cons_bel
theorem in_mix0 {p : Pl} {a b : List Pl} {l : List Pl} (hl : l = [] ∨ l = [[]]) : 0 :: p ∈ l ++ (bel 0 a ++ bel 1 b) ↔ p ∈ a := by
  rw [List.mem_append, List.mem_append, cons_bel]
  constructor
  · rintro (h | h | h)
    · rcases hl with e | e <;> (rw [e] at h; simp at h)
    · exact h
    · exact absurd h (no_bel (by decide))
  · exact fun h => .inr (.inl h)
theorem in_mix1 {p : Pl} {a b : List Pl} {l : List Pl} (hl : l = [] ∨ l = [[]]) : 1 :: p ∈ l ++ (bel 0 a ++ bel 1 b) ↔ p ∈ b := by
  rw [List.mem_append, List.mem_append, cons_bel]
  constructor
  · rintro (h | h | h)
    · rcases hl with e | e <;> (rw [e] at h; simp at h)
    · exact absurd h (no_bel (by decide))
    · exact h
  · exact fun h => .inr (.inr h)
theorem exR_b0 (f : Str) (s t : T) (a b : List Pl) : exR (.b f s t) (bel 0 a ++ bel 1 b) = .b f (exR s a) (exR t b) := by
  have n : ([] : Pl) ∉ bel 0 a ++ bel 1 b := fun h => (List.mem_append.mp h).elim nil_bel nil_bel
  show (if decide (([] : Pl) ∈ bel 0 a ++ bel 1 b) = true then T.b f (ex t fun p => decide (1 :: p ∈ bel 0 a ++ bel 1 b)) (ex s fun p => decide (0 :: p ∈ bel 0 a ++ bel 1 b)) else T.b f (ex s fun p => decide (0 :: p ∈ bel 0 a ++ bel 1 b)) (ex t fun p => decide (1 :: p ∈ bel 0 a ++ bel 1 b))) = _
  rw [if_neg (by simpa using n)]
  have e0 : (fun p => decide (0 :: p ∈ bel 0 a ++ bel 1 b)) = fun p => decide (p ∈ a) := funext fun p => decide_eq_decide.mpr (in_mix0 (l := []) (.inl rfl))
  have e1 : (fun p => decide (1 :: p ∈ bel 0 a ++ bel 1 b)) = fun p => decide (p ∈ b) := funext fun p => decide_eq_decide.mpr (in_mix1 (l := []) (.inl rfl))
  rw [e0, e1]
  rfl
theorem exR_b1 (f : Str) (s t : T) (a b : List Pl) : exR (.b f s t) ([] :: (bel 0 a ++ bel 1 b)) = .b f (exR t b) (exR s a) := by
  show (if decide (([] : Pl) ∈ [] :: (bel 0 a ++ bel 1 b)) = true then T.b f (ex t fun p => decide (1 :: p ∈ [] :: (bel 0 a ++ bel 1 b))) (ex s fun p => decide (0 :: p ∈ [] :: (bel 0 a ++ bel 1 b))) else T.b f (ex s fun p => decide (0 :: p ∈ [] :: (bel 0 a ++ bel 1 b))) (ex t fun p => decide (1 :: p ∈ [] :: (bel 0 a ++ bel 1 b)))) = _
  rw [if_pos (by simp)]
  have e0 : (fun p => decide (0 :: p ∈ [] :: (bel 0 a ++ bel 1 b))) = fun p => decide (p ∈ a) := funext fun p => decide_eq_decide.mpr (in_mix0 (l := [[]]) (.inr rfl))
  have e1 : (fun p => decide (1 :: p ∈ [] :: (bel 0 a ++ bel 1 b))) = fun p => decide (p ∈ b) := funext fun p => decide_eq_decide.mpr (in_mix1 (l := [[]]) (.inr rfl))
  rw [e0, e1]
  rfl
theorem mem_prd {A B : List (List Pl)} {R : List Pl} : R ∈ prd A B ↔ ∃ a b, a ∈ A ∧ b ∈ B ∧ R = bel 0 a ++ bel 1 b := by
  unfold prd
  rw [List.mem_flatMap]
  constructor
  · rintro ⟨a, ha, h⟩
    obtain ⟨b, hb, e⟩ := List.mem_map.mp h
    exact ⟨a, b, ha, hb, e.symm⟩
  · rintro ⟨a, b, ha, hb, e⟩
    exact ⟨a, ha, List.mem_map.mpr ⟨b, hb, e.symm⟩⟩
theorem sub_bel {i : Nat} {R l : List Pl} : List.Sublist R (bel i l) ↔ ∃ a, List.Sublist a l ∧ R = bel i a := by
  unfold bel
  exact List.sublist_map_iff
theorem sub_two {R a b : List Pl} : List.Sublist R (bel 0 a ++ bel 1 b) ↔ ∃ x y, List.Sublist x a ∧ List.Sublist y b ∧ R = bel 0 x ++ bel 1 y := by
  rw [List.sublist_append_iff]
  constructor
  · rintro ⟨l1, l2, e, h1, h2⟩
    obtain ⟨x, hx, rfl⟩ := sub_bel.mp h1
    obtain ⟨y, hy, rfl⟩ := sub_bel.mp h2
    exact ⟨x, y, hx, hy, e⟩
  · rintro ⟨x, y, hx, hy, e⟩
    exact ⟨_, _, e, sub_bel.mpr ⟨x, hx, rfl⟩, sub_bel.mpr ⟨y, hy, rfl⟩⟩
theorem mem_xs (S : List Sy) : ∀ (t x : T) (R : List Pl), R ∈ xs S t x ↔ List.Sublist R (kn S t) ∧ exR t R = x
  | .v a, x, R => by
    have k : List.Sublist R (kn S (.v a)) ↔ R = [] := List.sublist_nil
    rw [k]
    have e : exR (.v a) R = .v a := rfl
    rw [e]
    cases x with
    | v b =>
      by_cases h : a = b
      · subst h
        simp [xs]
      · have h' : ¬ T.v a = T.v b := fun z => h (by injection z)
        simp [xs, h]
    | c f => simp [xs]
    | u f t => simp [xs]
    | b f s t => simp [xs]
  | .c a, x, R => by
    have k : List.Sublist R (kn S (.c a)) ↔ R = [] := List.sublist_nil
    rw [k]
    have e : exR (.c a) R = .c a := rfl
    rw [e]
    cases x with
    | c b =>
      by_cases h : a = b
      · subst h
        simp [xs]
      · have h' : ¬ T.c a = T.c b := fun z => h (by injection z)
        simp [xs, h]
    | v f => simp [xs]
    | u f t => simp [xs]
    | b f s t => simp [xs]
  | .u f s, x, R => by
    have k : List.Sublist R (kn S (.u f s)) ↔ ∃ a, List.Sublist a (kn S s) ∧ R = bel 0 a := sub_bel
    rw [k]
    cases x with
    | u g t =>
      by_cases h : f = g
      · subst h
        have e : xs S (.u f s) (.u f t) = (xs S s t).map (bel 0) := if_pos rfl
        rw [e, List.mem_map]
        constructor
        · rintro ⟨a, ha, rfl⟩
          obtain ⟨h1, h2⟩ := (mem_xs S s t a).mp ha
          exact ⟨⟨a, h1, rfl⟩, by rw [exR_u, h2]⟩
        · rintro ⟨⟨a, h1, rfl⟩, h2⟩
          rw [exR_u] at h2
          injection h2 with _ h2
          exact ⟨a, (mem_xs S s t a).mpr ⟨h1, h2⟩, rfl⟩
      · have e : xs S (.u f s) (.u g t) = [] := if_neg h
        rw [e]
        refine ⟨fun z => absurd z (List.not_mem_nil), ?_⟩
        rintro ⟨⟨a, h1, rfl⟩, h2⟩
        rw [exR_u] at h2
        injection h2 with h2
        exact absurd h2 h
    | v b => exact ⟨fun z => absurd z (List.not_mem_nil), fun ⟨⟨a, h1, e⟩, h2⟩ => by rw [e, exR_u] at h2; cases h2⟩
    | c g => exact ⟨fun z => absurd z (List.not_mem_nil), fun ⟨⟨a, h1, e⟩, h2⟩ => by rw [e, exR_u] at h2; cases h2⟩
    | b g s' t' => exact ⟨fun z => absurd z (List.not_mem_nil), fun ⟨⟨a, h1, e⟩, h2⟩ => by rw [e, exR_u] at h2; cases h2⟩
  | .b f s t, x, R => by
    have k : List.Sublist R (kn S (.b f s t)) ↔ ∃ a b, List.Sublist a (kn S s) ∧ List.Sublist b (kn S t) ∧ (R = bel 0 a ++ bel 1 b ∨ f ∈ twos S ∧ R = [] :: (bel 0 a ++ bel 1 b)) := by
      show List.Sublist R ((if f ∈ twos S then [[]] else []) ++ (bel 0 (kn S s) ++ bel 1 (kn S t))) ↔ _
      by_cases hf : f ∈ twos S
      · rw [if_pos hf]
        show List.Sublist R ([] :: (bel 0 (kn S s) ++ bel 1 (kn S t))) ↔ _
        rw [List.sublist_cons_iff, sub_two]
        constructor
        · rintro (⟨x, y, hx, hy, e⟩ | ⟨r, e, h⟩)
          · exact ⟨x, y, hx, hy, .inl e⟩
          · obtain ⟨x, y, hx, hy, e'⟩ := sub_two.mp h
            exact ⟨x, y, hx, hy, .inr ⟨hf, by rw [e, e']⟩⟩
        · rintro ⟨x, y, hx, hy, e | ⟨_, e⟩⟩
          · exact .inl ⟨x, y, hx, hy, e⟩
          · exact .inr ⟨_, e, sub_two.mpr ⟨x, y, hx, hy, rfl⟩⟩
      · rw [if_neg hf, List.nil_append, sub_two]
        constructor
        · rintro ⟨x, y, hx, hy, e⟩
          exact ⟨x, y, hx, hy, .inl e⟩
        · rintro ⟨x, y, hx, hy, e | ⟨z, _⟩⟩
          · exact ⟨x, y, hx, hy, e⟩
          · exact absurd z hf
    rw [k]
    have away : ∀ x : T, (∀ s' t', x ≠ .b f s' t') → ¬ ((∃ a b, List.Sublist a (kn S s) ∧ List.Sublist b (kn S t) ∧ (R = bel 0 a ++ bel 1 b ∨ f ∈ twos S ∧ R = [] :: (bel 0 a ++ bel 1 b))) ∧ exR (.b f s t) R = x) := by
      rintro x n ⟨⟨a, b, _, _, rfl | ⟨_, rfl⟩⟩, h2⟩
      · rw [exR_b0] at h2
        exact n _ _ h2.symm
      · rw [exR_b1] at h2
        exact n _ _ h2.symm
    cases x with
    | b g s' t' =>
      by_cases h : f = g
      · subst h
        have e : xs S (.b f s t) (.b f s' t') = prd (xs S s s') (xs S t t') ++ (if f ∈ twos S then (prd (xs S s t') (xs S t s')).map (List.cons []) else []) := if_pos rfl
        rw [e, List.mem_append]
        constructor
        · rintro (h | h)
          · obtain ⟨a, b, ha, hb, rfl⟩ := mem_prd.mp h
            obtain ⟨a1, a2⟩ := (mem_xs S s s' a).mp ha
            obtain ⟨b1, b2⟩ := (mem_xs S t t' b).mp hb
            exact ⟨⟨a, b, a1, b1, .inl rfl⟩, by rw [exR_b0, a2, b2]⟩
          · by_cases hf : f ∈ twos S
            · rw [if_pos hf] at h
              obtain ⟨r, hr, rfl⟩ := List.mem_map.mp h
              obtain ⟨a, b, ha, hb, rfl⟩ := mem_prd.mp hr
              obtain ⟨a1, a2⟩ := (mem_xs S s t' a).mp ha
              obtain ⟨b1, b2⟩ := (mem_xs S t s' b).mp hb
              exact ⟨⟨a, b, a1, b1, .inr ⟨hf, rfl⟩⟩, by rw [exR_b1, a2, b2]⟩
            · rw [if_neg hf] at h
              exact absurd h (List.not_mem_nil)
        · rintro ⟨⟨a, b, a1, b1, rfl | ⟨hf, rfl⟩⟩, h2⟩
          · rw [exR_b0] at h2
            injection h2 with _ h2 h3
            exact .inl (mem_prd.mpr ⟨a, b, (mem_xs S s s' a).mpr ⟨a1, h2⟩, (mem_xs S t t' b).mpr ⟨b1, h3⟩, rfl⟩)
          · rw [exR_b1] at h2
            injection h2 with _ h2 h3
            rw [if_pos hf]
            exact .inr (List.mem_map.mpr ⟨_, mem_prd.mpr ⟨a, b, (mem_xs S s t' a).mpr ⟨a1, h3⟩, (mem_xs S t s' b).mpr ⟨b1, h2⟩, rfl⟩, rfl⟩)
      · have e : xs S (.b f s t) (.b g s' t') = [] := if_neg h
        rw [e]
        exact ⟨fun z => absurd z (List.not_mem_nil), fun z => absurd z (away _ fun _ _ q => by injection q with q; exact h q.symm)⟩
    | v a => exact ⟨fun z => absurd z (List.not_mem_nil), fun z => absurd z (away _ fun _ _ q => by cases q)⟩
    | c g => exact ⟨fun z => absurd z (List.not_mem_nil), fun z => absurd z (away _ fun _ _ q => by cases q)⟩
    | u g s' => exact ⟨fun z => absurd z (List.not_mem_nil), fun z => absurd z (away _ fun _ _ q => by cases q)⟩
theorem nd_prd {A B : List (List Pl)} (hA : A.Nodup) (hB : B.Nodup) : (prd A B).Nodup := by
  unfold prd List.Nodup
  rw [List.pairwise_flatMap]
  refine ⟨fun a _ => ?_, ?_⟩
  · rw [List.pairwise_map]
    exact List.Pairwise.imp (fun n e => n (bel_two e).2) hB
  · refine List.Pairwise.imp ?_ hA
    intro a a' n x hx y hy e
    obtain ⟨b, _, rfl⟩ := List.mem_map.mp hx
    obtain ⟨b', _, rfl⟩ := List.mem_map.mp hy
    exact n (bel_two e).1
theorem nd_map {α β : Type} {f : α → β} (inj : ∀ a b, f a = f b → a = b) {l : List α} (h : l.Nodup) : (l.map f).Nodup := by
  unfold List.Nodup
  rw [List.pairwise_map]
  exact List.Pairwise.imp (fun n e => n (inj _ _ e)) h
theorem nd_xs (S : List Sy) : ∀ t x : T, (xs S t x).Nodup
  | .v a, .v b => by
    show (if a = b then [[]] else []).Nodup
    split <;> simp
  | .c a, .c b => by
    show (if a = b then [[]] else []).Nodup
    split <;> simp
  | .u f s, .u g t => by
    show (if f = g then (xs S s t).map (bel 0) else []).Nodup
    split
    · exact nd_map (fun _ _ e => bel_inj e) (nd_xs S s t)
    · exact List.nodup_nil
  | .b f s t, .b g s' t' => by
    show (if f = g then prd (xs S s s') (xs S t t') ++ (if f ∈ twos S then (prd (xs S s t') (xs S t s')).map (List.cons []) else []) else []).Nodup
    split
    · refine List.nodup_append.mpr ⟨nd_prd (nd_xs S s s') (nd_xs S t t'), ?_, fun a ha b hb e => ?_⟩
      · split
        · exact nd_map (fun _ _ e => by injection e) (nd_prd (nd_xs S s t') (nd_xs S t s'))
        · exact List.nodup_nil
      · subst e
        obtain ⟨x, y, _, _, rfl⟩ := mem_prd.mp ha
        split at hb
        · obtain ⟨r, _, e⟩ := List.mem_map.mp hb
          have : ([] : Pl) ∈ bel 0 x ++ bel 1 y := by rw [← e]; exact List.mem_cons_self ..
          exact (List.mem_append.mp this).elim nil_bel nil_bel
        · exact absurd hb (List.not_mem_nil)
    · exact List.nodup_nil
  | .v _, .c _ => List.nodup_nil
  | .v _, .u _ _ => List.nodup_nil
  | .v _, .b _ _ _ => List.nodup_nil
  | .c _, .v _ => List.nodup_nil
  | .c _, .u _ _ => List.nodup_nil
  | .c _, .b _ _ _ => List.nodup_nil
  | .u _ _, .v _ => List.nodup_nil
  | .u _ _, .c _ => List.nodup_nil
  | .u _ _, .b _ _ _ => List.nodup_nil
  | .b _ _ _, .v _ => List.nodup_nil
  | .b _ _ _, .c _ => List.nodup_nil
  | .b _ _ _, .u _ _ => List.nodup_nil
theorem nd_kn (S : List Sy) : ∀ t : T, (kn S t).Nodup
  | .v _ => List.nodup_nil
  | .c _ => List.nodup_nil
  | .u f t => nd_map (fun _ _ e => by injection e) (nd_kn S t)
  | .b f s t => by
    show ((if f ∈ twos S then [[]] else []) ++ (bel 0 (kn S s) ++ bel 1 (kn S t))).Nodup
    refine List.nodup_append.mpr ⟨by split <;> simp, List.nodup_append.mpr ⟨nd_map (fun _ _ e => by injection e) (nd_kn S s), nd_map (fun _ _ e => by injection e) (nd_kn S t), fun a ha b hb e => ?_⟩, fun a ha b hb e => ?_⟩
    · subst e
      obtain ⟨q, _, rfl⟩ := mem_bel.mp ha
      exact no_bel (by decide) hb
    · subst e
      have : a = [] := by
        split at ha
        · exact List.mem_singleton.mp ha
        · exact absurd ha (List.not_mem_nil)
      subst this
      exact (List.mem_append.mp hb).elim nil_bel nil_bel
end My

set_option Elab.async false
set_option linter.all false
set_option maxRecDepth 100000
set_option maxHeartbeats 2000000
namespace My
open PySem PySem.Spec PyProof.Rows L2 Dl
/-! ### how many exchange sets -/
def ev (S : List Sy) : T → Nat
  | .v _ => 0
  | .c _ => 0
  | .u _ t => ev S t
  | .b f s t => (if f ∈ twos S ∧ mf S s = mf S t then 1 else 0) + (ev S s + ev S t)
theorem len_prd (A B : List (List Pl)) : (prd A B).length = A.length * B.length := by
  unfold prd
  rw [List.length_flatMap]
  induction A with
  | nil => simp
  | cons a A ih =>
    rw [List.map_cons, List.sum_cons, ih, List.length_map, List.length_cons, Nat.succ_mul, Nat.add_comm]
theorem two_ways {α : Type} [DecidableEq α] (a b c d : α) (m n : Nat) : (if a = c then m else 0) * (if b = d then n else 0) + (if a = d then m else 0) * (if b = c then n else 0) = if (a = c ∧ b = d) ∨ (a = d ∧ b = c) then (if a = b then 2 else 1) * (m * n) else 0 := by
  by_cases h1 : a = c
  · subst h1
    by_cases h2 : b = d
    · subst h2
      by_cases h3 : a = b
      · subst h3
        simp
        omega
      · simp [h3]
    · by_cases h3 : a = d
      · subst h3
        have h4 : ¬ a = b := fun z => h2 z.symm
        simp [h2]
      · simp [h2, h3]
  · by_cases h3 : a = d
    · subst h3
      by_cases h4 : b = c
      · subst h4
        simp [h1]
      · simp [h1, h4]
    · simp [h1, h3]
section
variable {S : List Sy} {Z : List Str} (hS : SyOk S)
include hS
theorem mf_bb {f : Str} {s t s' t' : T} (h : WT S Z (.b f s t)) (h' : WT S Z (.b f s' t')) : mf S (.b f s t) = mf S (.b f s' t') ↔ (mf S s = mf S s' ∧ mf S t = mf S t') ∨ (f ∈ twos S ∧ mf S s = mf S t' ∧ mf S t = mf S s') := by
  constructor
  · intro e
    have q := trn_of e
    cases q with
    | b _ q1 q2 => exact .inl ⟨mf_eq hS q1 h'.2.1, mf_eq hS q2 h'.2.2⟩
    | w _ hf q1 q2 => exact .inr ⟨hf, mf_eq hS q2 h'.2.2, mf_eq hS q1 h'.2.1⟩
  · rintro (⟨e1, e2⟩ | ⟨hf, e1, e2⟩)
    · exact mf_eq hS (Trn.b f (trn_of e1) (trn_of e2)) h'
    · exact mf_eq hS (Trn.w f hf (trn_of e2) (trn_of e1)) h'
omit hS in
theorem off {t x : T} {n : Nat} (e : xs S t x = []) (k : mf S t = mf S x → False) : (xs S t x).length = if mf S t = mf S x then n else 0 := by
  rw [e, if_neg k]
  rfl
theorem len_xs : ∀ {t x : T}, WT S Z t → WT S Z x → (xs S t x).length = if mf S t = mf S x then 2 ^ ev S t else 0
  | .v a, .v b, _, _ => by
    show (if a = b then [[]] else []).length = if T.v a = T.v b then 1 else 0
    by_cases h : a = b
    · simp [h]
    · simp [h]
  | .c a, .c b, _, _ => by
    show (if a = b then [[]] else []).length = if T.c a = T.c b then 1 else 0
    by_cases h : a = b
    · simp [h]
    · simp [h]
  | .u f s, .u g t, h, h' => by
    have ih := len_xs h.2 h'.2
    show (if f = g then (xs S s t).map (bel 0) else []).length = if T.u f (mf S s) = T.u g (mf S t) then 2 ^ ev S s else 0
    by_cases e : f = g
    · subst e
      rw [if_pos rfl, List.length_map, ih]
      simp
    · simp [e]
  | .b f s t, .b g s' t', h, h' => by
    by_cases e : f = g
    · subst e
      have i1 := len_xs h.2.1 h'.2.1
      have i2 := len_xs h.2.2 h'.2.2
      have i3 := len_xs h.2.1 h'.2.2
      have i4 := len_xs h.2.2 h'.2.1
      have hb := mf_bb hS h h'
      have u : xs S (.b f s t) (.b f s' t') = prd (xs S s s') (xs S t t') ++ (if f ∈ twos S then (prd (xs S s t') (xs S t s')).map (List.cons []) else []) := if_pos rfl
      rw [u, List.length_append, len_prd, i1, i2]
      show _ = if _ then 2 ^ ((if f ∈ twos S ∧ mf S s = mf S t then 1 else 0) + (ev S s + ev S t)) else 0
      by_cases hf : f ∈ twos S
      · rw [if_pos hf, List.length_map, len_prd, i3, i4, two_ways]
        have hc : (mf S (.b f s t) = mf S (.b f s' t')) ↔ (mf S s = mf S s' ∧ mf S t = mf S t') ∨ (mf S s = mf S t' ∧ mf S t = mf S s') := hb.trans ⟨fun z => z.imp id And.right, fun z => z.imp id fun q => ⟨hf, q⟩⟩
        have hp : (if mf S s = mf S t then 2 else 1) * (2 ^ ev S s * 2 ^ ev S t) = 2 ^ ((if f ∈ twos S ∧ mf S s = mf S t then 1 else 0) + (ev S s + ev S t)) := by
          rw [Nat.pow_add, Nat.pow_add]
          by_cases q : mf S s = mf S t
          · rw [if_pos q, if_pos ⟨hf, q⟩]
          · rw [if_neg q, if_neg fun z => q z.2]
        rw [hp]
        by_cases q : mf S (.b f s t) = mf S (.b f s' t')
        · rw [if_pos q, if_pos (hc.mp q)]
        · rw [if_neg q, if_neg fun z => q (hc.mpr z)]
      · rw [if_neg hf, List.length_nil, Nat.add_zero, if_neg (show ¬ (f ∈ twos S ∧ mf S s = mf S t) from fun z => hf z.1), Nat.zero_add, Nat.pow_add]
        have hc : (mf S (.b f s t) = mf S (.b f s' t')) ↔ mf S s = mf S s' ∧ mf S t = mf S t' := hb.trans ⟨fun z => z.resolve_right fun q => hf q.1, .inl⟩
        by_cases q : mf S (.b f s t) = mf S (.b f s' t')
        · obtain ⟨q1, q2⟩ := hc.mp q
          rw [if_pos q, if_pos q1, if_pos q2]
        · rw [if_neg q]
          by_cases q1 : mf S s = mf S s'
          · rw [if_neg fun q2 => q (hc.mpr ⟨q1, q2⟩), Nat.mul_zero]
          · rw [if_neg q1, Nat.zero_mul]
    · have u : xs S (.b f s t) (.b g s' t') = [] := if_neg e
      rw [u, if_neg]
      · rfl
      · intro z
        have q := trn_of z
        cases q <;> exact e rfl
  | .v _, .c _, _, _ => off rfl fun z => by have q := trn_of z; cases q
  | .v _, .u _ _, _, _ => off rfl fun z => by have q := trn_of z; cases q
  | .v _, .b _ _ _, _, _ => off rfl fun z => by have q := trn_of z; cases q
  | .c _, .v _, _, _ => off rfl fun z => by have q := trn_of z; cases q
  | .c _, .u _ _, _, _ => off rfl fun z => by have q := trn_of z; cases q
  | .c _, .b _ _ _, _, _ => off rfl fun z => by have q := trn_of z; cases q
  | .u _ _, .v _, _, _ => off rfl fun z => by have q := trn_of z; cases q
  | .u _ _, .c _, _, _ => off rfl fun z => by have q := trn_of z; cases q
  | .u _ _, .b _ _ _, _, _ => off rfl fun z => by have q := trn_of z; cases q
  | .b _ _ _, .v _, _, _ => off rfl fun z => by have q := trn_of z; cases q
  | .b _ _ _, .c _, _, _ => off rfl fun z => by have q := trn_of z; cases q
  | .b _ _ _, .u _ _, _, _ => off rfl fun z => by have q := trn_of z; cases q
end
/-! ### two-way places, even ones, among all places -/
def isX (S : List Sy) : T → Bool
  | .b f _ _ => decide (f ∈ twos S)
  | _ => false
def evX (S : List Sy) : T → Bool
  | .b _ s t => decide (mf S s = mf S t)
  | _ => false
def cx (S : List Sy) (t : T) : List (Pl × T) := (pl t).filter fun x => isX S x.2
theorem at_pl (i : Nat) (p : T → Bool) (l : List (Pl × T)) : (l.map fun x => (i :: x.1, x.2)).filter (fun x => p x.2) = (l.filter fun x => p x.2).map fun x => (i :: x.1, x.2) := by
  rw [List.filter_map]
  rfl
theorem kn_cx (S : List Sy) : ∀ t : T, (cx S t).map (·.1) = kn S t
  | .v _ => rfl
  | .c _ => rfl
  | .u f t => by
    have ih := kn_cx S t
    unfold cx at ih ⊢
    show ((([], T.u f t) :: (pl t).map fun x => (0 :: x.1, x.2)).filter fun x => isX S x.2).map (·.1) = bel 0 (kn S t)
    rw [List.filter_cons_of_neg (by simp [isX]), at_pl 0 (isX S), List.map_map, ← ih]
    unfold bel
    rw [List.map_map]
    rfl
  | .b f s t => by
    have i1 := kn_cx S s
    have i2 := kn_cx S t
    unfold cx at i1 i2 ⊢
    show ((([], T.b f s t) :: (((pl s).map fun x => (0 :: x.1, x.2)) ++ (pl t).map fun x => (1 :: x.1, x.2))).filter fun x => isX S x.2).map (·.1) = (if f ∈ twos S then [[]] else []) ++ (bel 0 (kn S s) ++ bel 1 (kn S t))
    have e : ((((pl s).map fun x => (0 :: x.1, x.2)) ++ (pl t).map fun x => (1 :: x.1, x.2)).filter fun x => isX S x.2).map (·.1) = bel 0 (kn S s) ++ bel 1 (kn S t) := by
      rw [List.filter_append, at_pl 0 (isX S), at_pl 1 (isX S), List.map_append, List.map_map, List.map_map, ← i1, ← i2]
      unfold bel
      rw [List.map_map, List.map_map]
      rfl
    by_cases hf : f ∈ twos S
    · rw [List.filter_cons_of_pos (by simp [isX, hf]), List.map_cons, e, if_pos hf]
      rfl
    · rw [List.filter_cons_of_neg (by simp [isX, hf]), e, if_neg hf]
      rfl
theorem ev_cx (S : List Sy) : ∀ t : T, ((pl t).filter fun x => isX S x.2 && evX S x.2).length = ev S t
  | .v _ => rfl
  | .c _ => rfl
  | .u f t => by
    have ih := ev_cx S t
    show ((([], T.u f t) :: (pl t).map fun x => (0 :: x.1, x.2)).filter fun x => isX S x.2 && evX S x.2).length = ev S t
    rw [List.filter_cons_of_neg (by simp [isX]), at_pl 0 (fun y => isX S y && evX S y), List.length_map, ih]
  | .b f s t => by
    have i1 := ev_cx S s
    have i2 := ev_cx S t
    show ((([], T.b f s t) :: (((pl s).map fun x => (0 :: x.1, x.2)) ++ (pl t).map fun x => (1 :: x.1, x.2))).filter fun x => isX S x.2 && evX S x.2).length = (if f ∈ twos S ∧ mf S s = mf S t then 1 else 0) + (ev S s + ev S t)
    have e : ((((pl s).map fun x => (0 :: x.1, x.2)) ++ (pl t).map fun x => (1 :: x.1, x.2)).filter fun x => isX S x.2 && evX S x.2).length = ev S s + ev S t := by
      rw [List.filter_append, at_pl 0 (fun y => isX S y && evX S y), at_pl 1 (fun y => isX S y && evX S y), List.length_append, List.length_map, List.length_map, i1, i2]
    by_cases hf : f ∈ twos S ∧ mf S s = mf S t
    · rw [List.filter_cons_of_pos (by simp [isX, evX, hf.1, hf.2]), List.length_cons, e, if_pos hf]
      omega
    · rw [List.filter_cons_of_neg (by simp only [isX, evX, Bool.and_eq_true, decide_eq_true_eq]; exact hf), e, if_neg hf]
      omega
theorem kn_nb (S : List Sy) : ∀ t : T, (kn S t).length ≤ nb t
  | .v _ => Nat.le_refl _
  | .c _ => Nat.le_refl _
  | .u f t => by
    show ((kn S t).map _).length ≤ nb t
    rw [List.length_map]
    exact kn_nb S t
  | .b f s t => by
    have i1 := kn_nb S s
    have i2 := kn_nb S t
    show ((if f ∈ twos S then [[]] else []) ++ ((kn S s).map _ ++ (kn S t).map _)).length ≤ nb (.b f s t)
    rw [List.length_append, List.length_append, List.length_map, List.length_map]
    have : (if f ∈ twos S then ([[]] : List Pl) else []).length ≤ 1 := by split <;> simp
    have e : nb (.b f s t) = 1 + nb s + nb t := rfl
    omega
end My

set_option Elab.async false
set_option linter.all false
set_option maxRecDepth 100000
set_option maxHeartbeats 2000000
namespace My
open PySem PySem.Spec PyProof.Rows L2 Dl
/-! ### sets of places in order -/
def rT (R : List Pl) : D := .tup (R.map ip)
def rL (R : List Pl) : D := .lst (R.map ip)
def eP (R : List Pl) : D := .tup [.int (R.length : Int), rT R]
def eL (R : List Pl) : D := .lst [.int (R.length : Int), rL R]
theorem pyL_ints : ∀ p : Pl, pyL (p.map fun (j : Nat) => D.int (j : Int)) = (p.map fun (j : Nat) => (j : Int)).map PyData.int
  | [] => pyL_nil
  | j :: p => by
    rw [List.map_cons, pyL_cons, pyL_ints p]
    have : (D.int (j : Int)).py = .int (j : Int) := by unfold D.py; rfl
    rw [this]
    rfl
theorem py_lst' (ds : List D) : (D.lst ds).py = .list (pyL ds) := by unfold D.py; rfl
theorem py_int (i : Int) : (D.int i).py = .int i := by unfold D.py; rfl
theorem py_ip (p : Pl) : (ip p).py = .tuple ((p.map fun (j : Nat) => (j : Int)).map PyData.int) := by
  unfold ip
  rw [py_tup, pyL_ints]
def pq (R : List Pl) : List PyData := R.map fun p => PyData.tuple ((p.map fun (j : Nat) => (j : Int)).map PyData.int)
theorem pyL_ips : ∀ R : List Pl, pyL (R.map ip) = pq R
  | [] => pyL_nil
  | p :: R => by
    rw [List.map_cons, pyL_cons, pyL_ips R, py_ip]
    rfl
theorem py_eP (R : List Pl) : (eP R).py = .tuple [.int (R.length : Int), .tuple (pq R)] := by
  unfold eP rT
  rw [py_tup, pyL_cons, pyL_cons, pyL_nil, py_int, py_tup, pyL_ips]
theorem py_eL (R : List Pl) : (eL R).py = .list [.int (R.length : Int), .list (pq R)] := by
  unfold eL rL
  rw [py_lst', pyL_cons, pyL_cons, pyL_nil, py_int, py_lst', pyL_ips]
def tkI : Pl → List (Int ⊕ List Nat)
  | [] => [.inl 0]
  | j :: p => .inl 1 :: .inl (j : Int) :: tkI p
def tkP : List Pl → List (Int ⊕ List Nat)
  | [] => [.inl 0]
  | p :: R => .inl 1 :: (tkI p ++ tkP R)
def tkR (R : List Pl) : List (Int ⊕ List Nat) := .inl 1 :: .inl (R.length : Int) :: .inl 1 :: (tkP R ++ [.inl 0])
theorem tok_i : ∀ p : Pl, PySem.W.keyToksAll ((p.map fun (j : Nat) => (j : Int)).map PyData.int) = tkI p
  | [] => by simp only [List.map_nil]; rw [PySem.W.keyToksAll]; rfl
  | j :: p => by
    simp only [List.map_cons]
    rw [PySem.W.keyToksAll, tok_i p, PySem.W.keyToks]
    rfl
theorem tok_p : ∀ R : List Pl, PySem.W.keyToksAll (pq R) = tkP R
  | [] => by unfold pq; simp only [List.map_nil]; rw [PySem.W.keyToksAll]; rfl
  | p :: R => by
    have ih := tok_p R
    unfold pq at ih ⊢
    rw [List.map_cons, PySem.W.keyToksAll, ih, PySem.W.keyToks, tok_i]
    rfl
theorem tok_eP (R : List Pl) : PySem.W.keyToks (eP R).py = tkR R := by
  rw [py_eP, PySem.W.keyToks, PySem.W.keyToksAll, PySem.W.keyToksAll, PySem.W.keyToksAll, PySem.W.keyToks, PySem.W.keyToks, tok_p]
  rfl
theorem tok_eL (R : List Pl) : PySem.W.keyToks (eL R).py = tkR R := by
  rw [py_eL, PySem.W.keyToks, PySem.W.keyToksAll, PySem.W.keyToksAll, PySem.W.keyToksAll, PySem.W.keyToks, PySem.W.keyToks, tok_p]
  rfl
theorem tkI_inj : ∀ {p q : Pl} {a b : List (Int ⊕ List Nat)}, tkI p ++ a = tkI q ++ b → p = q ∧ a = b
  | [], [], a, b, h => by
    injection h with _ h
    exact ⟨rfl, h⟩
  | [], j :: q, a, b, h => by
    injection h with h _
    injection h with h
    cases h
  | j :: p, [], a, b, h => by
    injection h with h _
    injection h with h
    cases h
  | j :: p, k :: q, a, b, h => by
    injection h with _ h
    injection h with h1 h2
    injection h1 with h1
    obtain ⟨e1, e2⟩ := tkI_inj (p := p) (q := q) h2
    exact ⟨by rw [e1, Int.ofNat_inj.mp h1], e2⟩
theorem tkP_inj : ∀ {p q : List Pl} {a b : List (Int ⊕ List Nat)}, tkP p ++ a = tkP q ++ b → p = q ∧ a = b
  | [], [], a, b, h => by
    injection h with _ h
    exact ⟨rfl, h⟩
  | [], j :: q, a, b, h => by
    injection h with h _
    injection h with h
    cases h
  | j :: p, [], a, b, h => by
    injection h with h _
    injection h with h
    cases h
  | j :: p, k :: q, a, b, h => by
    injection h with _ h
    have h : (tkI j ++ tkP p) ++ a = (tkI k ++ tkP q) ++ b := h
    rw [List.append_assoc, List.append_assoc] at h
    obtain ⟨e0, h2⟩ := tkI_inj h
    obtain ⟨e1, e2⟩ := tkP_inj (p := p) (q := q) h2
    exact ⟨by rw [e1, e0], e2⟩
theorem tkR_inj {R R' : List Pl} (h : tkR R = tkR R') : R = R' := by
  unfold tkR at h
  injection h with _ h
  injection h with _ h
  injection h with _ h
  exact (tkP_inj h).1
def leR : List Pl → List Pl → Bool := PySem.W.sortLe (listOrd itemOrd) false tkR
def srt (l : List (List Pl)) : List (List Pl) := l.mergeSort leR
theorem leR_anti {R R' : List Pl} (h1 : leR R R' = true) (h2 : leR R' R = true) : R = R' := by
  have a1 : (!(listOrd itemOrd).blt (tkR R') (tkR R)) = true := h1
  have a2 : (!(listOrd itemOrd).blt (tkR R) (tkR R')) = true := h2
  rw [Bool.not_eq_true'] at a1 a2
  exact tkR_inj ((listOrd itemOrd).total _ _ a2 a1)
theorem srt_pw (l : List (List Pl)) : (srt l).Pairwise fun a b => leR a b = true :=
  List.pairwise_mergeSort (le := leR) (fun a b c h1 h2 => (PySem.W.sortLe_total (listOrd itemOrd) false tkR).trans a b c h1 h2) (fun a b => Bool.or_eq_true_iff.mpr ((PySem.W.sortLe_total (listOrd itemOrd) false tkR).total a b)) l
theorem srt_perm (l : List (List Pl)) : (srt l).Perm l := List.mergeSort_perm l _
theorem srt_eq {l m : List (List Pl)} (h : l.Perm m) : srt l = srt m :=
  uniq (((srt_perm l).trans h).trans (srt_perm m).symm) (srt_pw l) (srt_pw m) fun _ _ _ _ => leR_anti
theorem sortL_P (l : List (List Pl)) : sortL (l.map eP) = (srt l).map eP := by
  have h : (srt l).map eP = (l.map eP).mergeSort (PySem.W.dataLe false D.py) := List.map_mergeSort fun a _ b _ => by
    show (!(listOrd itemOrd).blt (tkR b) (tkR a)) = (!(listOrd itemOrd).blt (PySem.W.keyToks (eP b).py) (PySem.W.keyToks (eP a).py))
    rw [tok_eP, tok_eP]
  exact h.symm
theorem sortL_L (l : List (List Pl)) : sortL (l.map eL) = (srt l).map eL := by
  have h : (srt l).map eL = (l.map eL).mergeSort (PySem.W.dataLe false D.py) := List.map_mergeSort fun a _ b _ => by
    show (!(listOrd itemOrd).blt (tkR b) (tkR a)) = (!(listOrd itemOrd).blt (PySem.W.keyToks (eL b).py) (PySem.W.keyToks (eL a).py))
    rw [tok_eL, tok_eL]
  exact h.symm
theorem alike_pq : ∀ R R' : List Pl, PySem.W.alikeAll (pq R) (pq R') = true
  | [], R' => by
    unfold pq
    rw [List.map_nil, PySem.W.alikeAll]
  | p :: R, [] => by
    unfold pq
    rw [List.map_nil, List.map_cons, PySem.W.alikeAll]
  | p :: R, q :: R' => by
    have ih := alike_pq R R'
    unfold pq at ih ⊢
    rw [List.map_cons, List.map_cons, PySem.W.alikeAll, ih, PySem.W.alike, PySem.W.alike_ints]
    rfl
theorem depth_pq : ∀ R : List Pl, PyData.depthAll (pq R) ≤ 1
  | [] => by
    unfold pq
    rw [List.map_nil, PyData.depthAll]
    omega
  | p :: R => by
    have ih := depth_pq R
    unfold pq at ih ⊢
    rw [List.map_cons, PyData.depthAll, PyData.depth, PySem.W.depth_ints]
    omega
theorem lay_ints : ∀ l : List Int, PyData.canLayAll0 (l.map PyData.int) = true
  | [] => by rw [List.map_nil, PyData.canLayAll0]
  | i :: l => by
    rw [List.map_cons, PyData.canLayAll0, lay_ints l, PyData.canLay0]
    rfl
theorem lay_pq : ∀ R : List Pl, PyData.canLayAll0 (pq R) = true
  | [] => by
    unfold pq
    rw [List.map_nil, PyData.canLayAll0]
  | p :: R => by
    have ih := lay_pq R
    unfold pq at ih ⊢
    rw [List.map_cons, PyData.canLayAll0, ih, PyData.canLay0, lay_ints]
    rfl
theorem sortOk_P (l : List (List Pl)) : sortOk (l.map eP) = true := by
  unfold sortOk
  rw [Bool.and_eq_true, Bool.and_eq_true, Bool.or_eq_true]
  refine ⟨⟨List.all_eq_true.mpr fun d hd => List.all_eq_true.mpr fun e he => ?_, .inl (List.all_eq_true.mpr fun d hd => ?_)⟩, List.all_eq_true.mpr fun d hd => ?_⟩
  · obtain ⟨R, _, rfl⟩ := List.mem_map.mp hd
    obtain ⟨R', _, rfl⟩ := List.mem_map.mp he
    rw [py_eP, py_eP, PySem.W.alike, PySem.W.alikeAll, PySem.W.alikeAll, PySem.W.alikeAll, PySem.W.alike, PySem.W.alike, alike_pq]
    rfl
  · obtain ⟨R, _, rfl⟩ := List.mem_map.mp hd
    rw [py_eP]
  · obtain ⟨R, _, rfl⟩ := List.mem_map.mp hd
    have h := depth_pq R
    rw [py_eP, PyData.depth, PyData.depthAll, PyData.depthAll, PyData.depthAll, PyData.depth, PyData.depth, PyData.canLay0, PyData.canLayAll0, PyData.canLayAll0, PyData.canLayAll0, PyData.canLay0, PyData.canLay0, lay_pq, Bool.and_eq_true]
    exact ⟨decide_eq_true (by omega), rfl⟩
theorem sortOk_L (l : List (List Pl)) : sortOk (l.map eL) = true := by
  unfold sortOk
  rw [Bool.and_eq_true, Bool.and_eq_true, Bool.or_eq_true]
  refine ⟨⟨List.all_eq_true.mpr fun d hd => List.all_eq_true.mpr fun e he => ?_, .inr (List.all_eq_true.mpr fun d hd => ?_)⟩, List.all_eq_true.mpr fun d hd => ?_⟩
  · obtain ⟨R, _, rfl⟩ := List.mem_map.mp hd
    obtain ⟨R', _, rfl⟩ := List.mem_map.mp he
    rw [py_eL, py_eL, PySem.W.alike, PySem.W.alikeAll, PySem.W.alikeAll, PySem.W.alikeAll, PySem.W.alike, PySem.W.alike, alike_pq]
    rfl
  · obtain ⟨R, _, rfl⟩ := List.mem_map.mp hd
    rw [py_eL]
  · obtain ⟨R, _, rfl⟩ := List.mem_map.mp hd
    have h := depth_pq R
    rw [py_eL, PyData.depth, PyData.depthAll, PyData.depthAll, PyData.depthAll, PyData.depth, PyData.depth, PyData.canLay0, PyData.canLayAll0, PyData.canLayAll0, PyData.canLayAll0, PyData.canLay0, PyData.canLay0, lay_pq, Bool.and_eq_true]
    exact ⟨decide_eq_true (by omega), rfl⟩
theorem sortD_P {l : List (List Pl)} (h : l.length ≤ 100000) : sortD [.lst (l.map eP)] = some ((srt l).map eP) := by
  show (if sortOk (l.map eP) = true ∧ (l.map eP).length ≤ 100000 then some (sortL (l.map eP)) else none) = _
  rw [if_pos ⟨sortOk_P l, by rw [List.length_map]; exact h⟩, sortL_P]
theorem sortD_L {l : List (List Pl)} (h : l.length ≤ 100000) : sortD [.lst (l.map eL)] = some ((srt l).map eL) := by
  show (if sortOk (l.map eL) = true ∧ (l.map eL).length ≤ 100000 then some (sortL (l.map eL)) else none) = _
  rw [if_pos ⟨sortOk_L l, by rw [List.length_map]; exact h⟩, sortL_L]
/-! ### all sublists, as the law lists them -/
def subs (l : List Pl) : List (List Pl) := l.foldl (fun acc p => acc ++ acc.map fun r => r ++ [p]) [[]]
theorem snoc_of {n : Nat} {l : List Pl} (h : l.length = n + 1) : ∃ a p, l = a ++ [p] := ⟨l.dropLast, l.getLast (fun z => by rw [z] at h; cases h), (List.dropLast_concat_getLast _).symm⟩
theorem sub_one {r : List Pl} {p : Pl} (h : List.Sublist r [p]) : r = [] ∨ r = [p] := by
  rcases List.sublist_cons_iff.mp h with h | ⟨q, e, h⟩
  · exact .inl (List.sublist_nil.mp h)
  · rw [e, List.sublist_nil.mp h]
    exact .inr rfl
theorem subs_snoc (l : List Pl) (p : Pl) : subs (l ++ [p]) = subs l ++ (subs l).map fun r => r ++ [p] := by
  unfold subs
  rw [List.foldl_append]
  rfl
theorem mem_subs : ∀ {n : Nat} {l : List Pl}, l.length = n → ∀ {R : List Pl}, R ∈ subs l ↔ List.Sublist R l
  | 0, l, h, R => by
    rw [List.length_eq_zero_iff.mp h]
    show R ∈ [[]] ↔ _
    rw [List.mem_singleton, List.sublist_nil]
  | n + 1, l, h, R => by
    obtain ⟨a, p, rfl⟩ : ∃ a p, l = a ++ [p] := snoc_of h
    have ha : a.length = n := by simpa using h
    rw [subs_snoc, List.mem_append, mem_subs ha, List.sublist_append_iff]
    constructor
    · rintro (h | h)
      · exact ⟨R, [], by simp, h, List.nil_sublist _⟩
      · obtain ⟨r, hr, rfl⟩ := List.mem_map.mp h
        exact ⟨r, [p], rfl, (mem_subs ha).mp hr, List.Sublist.refl _⟩
    · rintro ⟨l1, l2, rfl, h1, h2⟩
      rcases sub_one h2 with e | e
      · rw [e, List.append_nil]
        exact .inl h1
      · rw [e]
        exact .inr (List.mem_map.mpr ⟨l1, (mem_subs ha).mpr h1, rfl⟩)
theorem nd_subs : ∀ {n : Nat} {l : List Pl}, l.length = n → l.Nodup → (subs l).Nodup
  | 0, l, h, _ => by
    rw [List.length_eq_zero_iff.mp h]
    show ([[]] : List (List Pl)).Nodup
    simp
  | n + 1, l, h, d => by
    obtain ⟨a, p, rfl⟩ : ∃ a p, l = a ++ [p] := snoc_of h
    have ha : a.length = n := by simpa using h
    obtain ⟨d1, _, d2⟩ := List.nodup_append.mp d
    have ih := nd_subs ha d1
    rw [subs_snoc]
    refine List.nodup_append.mpr ⟨ih, nd_map (fun x y e => List.append_cancel_right e) ih, fun x hx y hy e => ?_⟩
    subst e
    obtain ⟨r, _, rfl⟩ := List.mem_map.mp hy
    have m : p ∈ a := ((mem_subs ha).mp hx).subset (List.mem_append_right _ (List.mem_singleton.mpr rfl))
    exact d2 p m p (List.mem_singleton.mpr rfl) rfl
theorem len_subs : ∀ {n : Nat} {l : List Pl}, l.length = n → (subs l).length = 2 ^ n
  | 0, l, h => by
    rw [List.length_eq_zero_iff.mp h]
    rfl
  | n + 1, l, h => by
    obtain ⟨a, p, rfl⟩ : ∃ a p, l = a ++ [p] := snoc_of h
    have ha : a.length = n := by simpa using h
    rw [subs_snoc, List.length_append, List.length_map, len_subs ha, Nat.pow_succ]
    omega
/-- those that leave the term as it is, as the law lists them, and as the program does -/
def due (S : List Sy) (t : T) : List (List Pl) := (subs (kn S t)).filter fun R => decide (exR t R = t)
theorem due_perm (S : List Sy) (t : T) : (due S t).Perm (xs S t t) := by
  refine (List.perm_ext_iff_of_nodup (List.Pairwise.filter _ (nd_subs rfl (nd_kn S t))) (nd_xs S t t)).mpr fun R => ?_
  rw [mem_xs, List.mem_filter, mem_subs rfl, decide_eq_true_eq]
theorem due_srt (S : List Sy) (t : T) : srt (due S t) = srt (xs S t t) := srt_eq (due_perm S t)
end My

set_option Elab.async false
set_option linter.all false
set_option maxRecDepth 100000
set_option maxHeartbeats 2000000
namespace My
open PySem PySem.Spec PyProof.Rows L2 Dl
/-! ### parts with places -/
def pw (x : Pl × T) : D := .tup [ip x.1, enc x.2]
def args2 : Pl × T → List (Pl × T)
  | (_, .v _) => []
  | (_, .c _) => []
  | (p, .u _ t) => [(p ++ [0], t)]
  | (p, .b _ s t) => [(p ++ [0], s), (p ++ [1], t)]
def pl2 (x : Pl × T) : List (Pl × T) := (pl x.2).map fun y => (x.1 ++ y.1, y.2)
theorem at_in (p : Pl) (i : Nat) (l : List (Pl × T)) : (l.map fun x => (i :: x.1, x.2)).map (fun y => (p ++ y.1, y.2)) = l.map fun y => ((p ++ [i]) ++ y.1, y.2) := by
  rw [List.map_map]
  refine List.map_congr_left fun x _ => ?_
  show (p ++ i :: x.1, x.2) = ((p ++ [i]) ++ x.1, x.2)
  rw [List.append_assoc]
  rfl
theorem pl2_args : ∀ x : Pl × T, pl2 x = x :: (args2 x).flatMap pl2
  | (p, .v s) => by simp [pl2, pl, args2]
  | (p, .c s) => by simp [pl2, pl, args2]
  | (p, .u f t) => by
    have e := at_in p 0 (pl t)
    simp only [args2, List.flatMap_cons, List.flatMap_nil, List.append_nil, pl2, pl, List.map_cons]
    rw [e]
  | (p, .b f s t) => by
    have e0 := at_in p 0 (pl s)
    have e1 := at_in p 1 (pl t)
    simp only [args2, List.flatMap_cons, List.flatMap_nil, List.append_nil, pl2, pl, List.map_cons, List.map_append]
    rw [e0, e1]
theorem rev1 : revD 1 = [.int 0] := rfl
theorem rev0 : revD 0 = [] := rfl
theorem rev2 : revD 2 = [.int 1, .int 0] := rfl
theorem sub0 : subD (.int 1) (.int 1) = some (.int 0) := rfl
theorem back_ok {p : Pl} (hp : p.length ≤ 2000) : ∀ t : T, f_arguments_backwards [ip p, enc t] = some (.lst ((args2 (p, t)).map pw).reverse)
  | .v s => by
    unfold f_arguments_backwards m_arguments_backwards
    simp [enc, isi_str, unM, retF, args2]
  | .c f => by
    unfold f_arguments_backwards m_arguments_backwards
    simp [enc, isi_str, isi_tup, unM, retF, nextM, args2, revM1, rev0, compM]
  | .u f t => by
    have h1 : p.length + 1 ≤ 100000 := by omega
    unfold f_arguments_backwards m_arguments_backwards
    simp [enc, isi_str, isi_tup, unM, retF, nextM, args2, revM1, rev1, compM, ip, addD, h1, t21, pw]
  | .b f s t => by
    have h1 : p.length + 1 ≤ 100000 := by omega
    unfold f_arguments_backwards m_arguments_backwards
    simp [enc, isi_str, isi_tup, unM, retF, nextM, args2, revM1, rev2, compM, ip, addD, h1, t31, t32, pw]
theorem pop_pair (x0 f y3 y4 : Option Sl) (L : List D) (x : Pl × T) : popM 2 (bndT 2 (bndC (bndN 3) (bndC (bndN 4) bndNil))) [x0, f, some (.own (L ++ [pw x])), y3, y4] = some (.nx [x0, f, some (.own L), some (.val (ip x.1)), some (.val (enc x.2))]) := by
  unfold popM
  show ((L ++ [pw x])[(L ++ [pw x]).length - 1]?).bind _ = _
  rw [List.length_append, List.length_singleton, Nat.add_sub_cancel, List.getElem?_append_right (Nat.le_refl _), Nat.sub_self]
  rw [List.getElem?_cons_zero, List.dropLast_concat]
  rfl
theorem pair_step (x0 y3 y4 : Option Sl) (F : List D) (hF : F.length ≤ 90000) (x : Pl × T) (hx : x.1.length ≤ 2000) (L : List D) (hL : L.length ≤ 90000) : l1_parts_with_places [x0, some (.own F), some (.own (L ++ [pw x])), y3, y4] = some (.nx [x0, some (.own (F ++ [pw x])), some (.own (L ++ ((args2 x).map pw).reverse)), some (.val (ip x.1)), some (.val (enc x.2))]) := by
  have hF' : F.length < 100000 := by omega
  have b := back_ok hx x.2
  have hz : L.length + ((args2 x).map pw).reverse.length ≤ 100000 := by
    rw [List.length_reverse, List.length_map]
    have : (args2 x).length ≤ 2 := by
      obtain ⟨p, t⟩ := x
      cases t <;> simp [args2]
    omega
  unfold l1_parts_with_places
  rw [seq_nx (pop_pair ..)]
  have e1 : appM 1 (tupM (consM (nameV 3) (consM (nameV 4) nilM))) [x0, some (.own F), some (.own L), some (.val (ip x.1)), some (.val (enc x.2))] = some (.nx [x0, some (.own (F ++ [pw x])), some (.own L), some (.val (ip x.1)), some (.val (enc x.2))]) := by
    simp [appM, ownAt, hF', pw]
  rw [seq_nx e1]
  unfold extM
  show ((callM f_arguments_backwards (consM (nameV 3) (consM (nameV 4) nilM)) [x0, some (.own (F ++ [pw x])), some (.own L), some (.val (ip x.1)), some (.val (enc x.2))]).bind fun d => (lst1 d).bind fun es => if L.length + es.length ≤ 100000 then some (Out.nx [x0, some (.own (F ++ [pw x])), some (.own (L ++ es)), some (.val (ip x.1)), some (.val (enc x.2))]) else none) = _
  have e2 : callM f_arguments_backwards (consM (nameV 3) (consM (nameV 4) nilM)) [x0, some (.own (F ++ [pw x])), some (.own L), some (.val (ip x.1)), some (.val (enc x.2))] = some (.lst ((args2 x).map pw).reverse) := b
  rw [e2]
  show (if L.length + ((args2 x).map pw).reverse.length ≤ 100000 then _ else none) = _
  rw [if_pos hz]
def wsz (st : List (Pl × T)) : Nat := (st.map fun x => x.2.size).sum
theorem pairs_loop (x0 : Option Sl) : ∀ (n : Nat) (st : List (Pl × T)) (F : List D) (y3 y4 : Option Sl), wsz st < n → F.length + wsz st ≤ 80000 → (∀ x ∈ st, x.1.length + x.2.size ≤ 2000) →
    ∃ y3' y4', whileM (truM (nameR 2)) l1_parts_with_places n [x0, some (.own F), some (.own ((st.map pw).reverse)), y3, y4] = some (.nx [x0, some (.own (F ++ (st.flatMap pl2).map pw)), some (.own []), y3', y4'])
  | 0, st, F, y3, y4, h, _, _ => by omega
  | n + 1, [], F, y3, y4, h, _, _ => ⟨y3, y4, by
      unfold whileM
      simp [truM, truD]⟩
  | n + 1, x :: st, F, y3, y4, h, hF, hl => by
    have hs : x.2.size + wsz st < n + 1 := by simpa [wsz] using h
    have hF2 : F.length + (x.2.size + wsz st) ≤ 80000 := by simpa [wsz] using hF
    have hp := x.2.pos
    have hst : st.length ≤ wsz st := by
      clear h hF hl hs hF2
      induction st with
      | nil => exact Nat.le_refl _
      | cons a st ih => have := a.2.pos; simp [wsz] at ih ⊢; omega
    have hx := hl x (List.mem_cons_self ..)
    have hz : x.2.size = 1 + wsz (args2 x) ∧ ∀ y ∈ args2 x, y.1.length + y.2.size ≤ 2000 := by
      obtain ⟨p, t⟩ := x
      cases t with
      | v s => exact ⟨rfl, fun y hy => by simp [args2] at hy⟩
      | c s => exact ⟨rfl, fun y hy => by simp [args2] at hy⟩
      | u f t =>
        have hx : p.length + (1 + t.size) ≤ 2000 := hx
        refine ⟨by simp [wsz, args2, T.size], fun y hy => ?_⟩
        have : y = (p ++ [0], t) := by simpa [args2] using hy
        subst this
        simp
        omega
      | b f s t =>
        have hx : p.length + (1 + s.size + t.size) ≤ 2000 := hx
        refine ⟨by simp [wsz, args2, T.size]; omega, fun y hy => ?_⟩
        have : y = (p ++ [0], s) ∨ y = (p ++ [1], t) := by simpa [args2] using hy
        have := s.pos
        have := t.pos
        rcases ‹y = _ ∨ y = _› with rfl | rfl <;> (simp; omega)
    have e0 : ((x :: st).map pw).reverse = (st.map pw).reverse ++ [pw x] := by rw [List.map_cons, List.reverse_cons]
    have e1 := pair_step x0 y3 y4 F (by omega) x (by omega) (st.map pw).reverse (by rw [List.length_reverse, List.length_map]; omega)
    have e2 : (st.map pw).reverse ++ ((args2 x).map pw).reverse = ((args2 x ++ st).map pw).reverse := by rw [List.map_append, List.reverse_append]
    rw [e2] at e1
    have hsum : wsz (args2 x ++ st) = wsz (args2 x) + wsz st := by unfold wsz; rw [List.map_append, List.sum_append]
    obtain ⟨y3', y4', e3⟩ := pairs_loop x0 n (args2 x ++ st) (F ++ [pw x]) (some (.val (ip x.1))) (some (.val (enc x.2))) (by omega) (by rw [List.length_append]; show F.length + 1 + _ ≤ _; omega) (fun y hy => (List.mem_append.mp hy).elim (hz.2 y) fun m => hl y (List.mem_cons_of_mem _ m))
    refine ⟨y3', y4', ?_⟩
    have tr : truM (nameR 2) [x0, some (.own F), some (.own (((x :: st).map pw).reverse)), y3, y4] = some true := by
      rw [e0]
      simp [truM, truD]
    unfold whileM
    rw [tr]
    simp only [Option.bind_some, if_true]
    rw [e0, e1]
    simp only [Option.bind_some]
    rw [e3]
    congr 5
    rw [List.flatMap_append, List.flatMap_cons, pl2_args x]
    simp
theorem pairs_ok {t : T} (h : t.size ≤ 1000) : f_parts_with_places [enc t] = some (.tup ((pl t).map pw)) := by
  have hone : ∀ x ∈ [(([] : Pl), t)], x.1.length + x.2.size ≤ 2000 := fun x hx => by
    have e : x = ([], t) := by simpa using hx
    subst e
    show 0 + t.size ≤ 2000
    omega
  obtain ⟨y3, y4, e⟩ := pairs_loop (some (.val (enc t))) 100000 [([], t)] [] none none (by simp [wsz]; omega) (by simp [wsz]; omega) hone
  have e0 : (([([], t)] : List (Pl × T)).flatMap pl2) = pl t := by simp [pl2]
  rw [e0] at e
  have e' : whileM (truM (nameR 2)) l1_parts_with_places 100000 [some (.val (enc t)), some (.own []), some (.own [pw ([], t)]), none, none] = some (.nx [some (.val (enc t)), some (.own ((pl t).map pw)), some (.own []), y3, y4]) := by
    simpa using e
  have hl : (pl t).length ≤ 100000 := by rw [pl_len]; omega
  have e2 : (D.tup [.tup [], enc t]) = pw ([], t) := rfl
  unfold f_parts_with_places m_parts_with_places
  simp [lstF, e2, e', retF, tupleD, hl]
end My

set_option Elab.async false
set_option linter.all false
set_option maxRecDepth 100000
set_option maxHeartbeats 2000000
namespace My
open PySem PySem.Spec PyProof.Rows L2 Dl
/-! ### two-way places, even places, the number of turnings -/
theorem siftA {α : Type} {g : α → D} {bnd : D → En → Option En} {tst : En → Option Bool} {elt : En → Option D} {env : En} {p : α → Bool} {f : α → D} : ∀ {l : List α}, (∀ a ∈ l, ∃ e1, bnd (g a) env = some e1 ∧ tst e1 = some (p a) ∧ (p a = true → elt e1 = some (f a))) → compM bnd tst elt env (l.map g) = some ((l.filter p).map f)
  | [], _ => rfl
  | a :: l, h => by
    obtain ⟨e1, h1, h2, h3⟩ := h a (List.mem_cons_self ..)
    have ih := siftA (l := l) fun b hb => h b (List.mem_cons_of_mem _ hb)
    rw [List.map_cons]
    unfold compM
    simp only [h1, h2, Option.bind_some]
    cases hp : p a with
    | true => rw [List.filter_cons_of_pos hp]; simp [h3 hp, ih]
    | false => rw [List.filter_cons_of_neg (by simp [hp])]; simp [ih]
theorem mapA {α : Type} {g : α → D} {bnd : D → En → Option En} {elt : En → Option D} {env : En} {f : α → D} {l : List α} (h : ∀ a ∈ l, ∃ e1, bnd (g a) env = some e1 ∧ elt e1 = some (f a)) : compM bnd yesM elt env (l.map g) = some (l.map f) := by
  have := siftA (g := g) (bnd := bnd) (tst := yesM) (elt := elt) (env := env) (p := fun _ => true) (f := f) (l := l) fun a ha => by
    obtain ⟨e1, h1, h2⟩ := h a ha
    exact ⟨e1, h1, rfl, fun _ => h2⟩
  rw [this, List.filter_eq_self.mpr fun _ _ => rfl]
theorem pl_in {S : List Sy} {Z : List Str} : ∀ {t : T}, WT S Z t → ∀ x ∈ pl t, WT S Z x.2 ∧ x.1.length + x.2.size ≤ t.size
  | .v s, h, x, hx => by
    have e : x = ([], .v s) := by simpa [pl] using hx
    subst e
    exact ⟨h, by simp⟩
  | .c s, h, x, hx => by
    have e : x = ([], .c s) := by simpa [pl] using hx
    subst e
    exact ⟨h, by simp⟩
  | .u f t, h, x, hx => by
    rcases List.mem_cons.mp hx with rfl | hx
    · exact ⟨h, by simp⟩
    · obtain ⟨y, hy, rfl⟩ := List.mem_map.mp hx
      obtain ⟨h1, h2⟩ := pl_in h.2 y hy
      refine ⟨h1, ?_⟩
      show y.1.length + 1 + y.2.size ≤ 1 + t.size
      omega
  | .b f s t, h, x, hx => by
    rcases List.mem_cons.mp hx with rfl | hx
    · exact ⟨h, by simp⟩
    · rcases List.mem_append.mp hx with hx | hx
      · obtain ⟨y, hy, rfl⟩ := List.mem_map.mp hx
        obtain ⟨h1, h2⟩ := pl_in h.2.1 y hy
        refine ⟨h1, ?_⟩
        show y.1.length + 1 + y.2.size ≤ 1 + s.size + t.size
        omega
      · obtain ⟨y, hy, rfl⟩ := List.mem_map.mp hx
        obtain ⟨h1, h2⟩ := pl_in h.2.2 y hy
        refine ⟨h1, ?_⟩
        show y.1.length + 1 + y.2.size ≤ 1 + s.size + t.size
        omega
section
variable (c : Addr) {S : List Sy} (hS : SyOk S) {Z : List Str}
include hS
theorem two_part {t : T} (h : WT S Z t) : f_is_two_way_part c [sgD c S, enc t] = some (.bl (isX S t)) := by
  unfold f_is_two_way_part m_is_two_way_part
  cases t with
  | v s => simp [enc, isi_str, unM, retF, isX]
  | c f =>
    have tm := fun rest => two_meth c hS (Has.mem h) [] rest
    have hf : f ∉ twos S := fun hf => by have := two_two hS hf h; omega
    rw [decide_eq_false hf] at tm
    simp [enc, isi_tup, unM, retF, isX, tm]
  | u f t =>
    have tm := fun as rest => two_meth c hS h.1.mem as rest
    have hf : f ∉ twos S := fun hf => by have := two_two hS hf h.1; omega
    rw [decide_eq_false hf] at tm
    simp [enc, isi_tup, unM, retF, isX, tm]
  | b f s t =>
    have tm := fun as rest => two_meth c hS h.1.mem as rest
    simp [enc, isi_tup, unM, retF, isX, tm]
theorem even_part {t : T} (h : WT S Z t) (hz : t.size ≤ 64) : f_is_even_part c [sgD c S, enc t] = some (.bl (isX S t && evX S t)) := by
  have tp := two_part c hS h
  unfold f_is_even_part m_is_even_part
  cases t with
  | v s => simp [tp, isX, retF]
  | c f => simp [tp, isX, retF]
  | u f t => simp [tp, isX, retF]
  | b f s t =>
    have hz : 1 + s.size + t.size ≤ 64 := hz
    have al := alike_ok c hS h.2.1 h.2.2 (by omega) (by omega)
    by_cases hf : f ∈ twos S
    · have e : isX S (.b f s t) = true := decide_eq_true hf
      rw [e] at tp ⊢
      simp only [enc] at tp
      simp [enc, tp, retF, t31, t32, al, evX]
    · have e : isX S (.b f s t) = false := decide_eq_false hf
      rw [e] at tp ⊢
      simp only [enc] at tp
      simp [enc, tp, retF]
theorem two_places {t : T} (h : WT S Z t) (hz : t.size ≤ 64) : f_two_way_places c [sgD c S, enc t] = some (.tup ((kn S t).map ip)) := by
  have pk := pairs_ok (t := t) (by omega)
  have hl : ((pl t).map pw).length ≤ 100000 := by rw [List.length_map, pl_len]; omega
  have cm : compM (bndT 2 (bndC (bndN 2) (bndC (bndN 3) bndNil))) (boolM (callM (f_is_two_way_part c) (consM (nameV 0) (consM (nameV 3) nilM)))) (nameV 2) [some (.val (sgD c S)), some (.val (enc t)), none, none] ((pl t).map pw) = some (((pl t).filter fun x => isX S x.2).map fun x => ip x.1) :=
    siftA fun x hx => ⟨[some (.val (sgD c S)), some (.val (enc t)), some (.val (ip x.1)), some (.val (enc x.2))], rfl, by
      have tp := two_part c hS (pl_in h x hx).1
      simp [boolM, tp], fun _ => rfl⟩
  have e : (((pl t).filter fun x => isX S x.2).map fun x => ip x.1) = (kn S t).map ip := by
    rw [← kn_cx, List.map_map]
    rfl
  rw [e] at cm
  have hk : ((kn S t).map ip).length ≤ 100000 := by
    have := congrArg List.length e
    rw [← this, List.length_map]
    exact Nat.le_trans (List.length_filter_le _ _) (by rw [pl_len]; omega)
  unfold f_two_way_places m_two_way_places
  rw [List.length_map] at hl hk
  simp [pk, hl, cm, retF, tupleD, hk]
theorem even_places {t : T} (h : WT S Z t) (hz : t.size ≤ 64) : ∃ ds : List D, f_even_places c [sgD c S, enc t] = some (.tup ds) ∧ ds.length = ev S t := by
  have pk := pairs_ok (t := t) (by omega)
  have hl : ((pl t).map pw).length ≤ 100000 := by rw [List.length_map, pl_len]; omega
  have cm : compM (bndT 2 (bndC (bndN 2) (bndC (bndN 3) bndNil))) (boolM (callM (f_is_even_part c) (consM (nameV 0) (consM (nameV 3) nilM)))) (nameV 2) [some (.val (sgD c S)), some (.val (enc t)), none, none] ((pl t).map pw) = some (((pl t).filter fun x => isX S x.2 && evX S x.2).map fun x => ip x.1) :=
    siftA fun x hx => ⟨[some (.val (sgD c S)), some (.val (enc t)), some (.val (ip x.1)), some (.val (enc x.2))], rfl, by
      obtain ⟨h1, h2⟩ := pl_in h x hx
      have tp := even_part c hS h1 (by omega)
      simp [boolM, tp], fun _ => rfl⟩
  have hk : ((pl t).filter fun x => isX S x.2 && evX S x.2).length ≤ 100000 := Nat.le_trans (List.length_filter_le _ _) (by rw [pl_len]; omega)
  refine ⟨_, ?_, by rw [← ev_cx]; exact List.length_map (fun x : Pl × T => ip x.1)⟩
  unfold f_even_places m_even_places
  rw [List.length_map] at hl
  simp [pk, hl, cm, retF, tupleD, hk]
omit hS in
theorem ev_le (S : List Sy) (t : T) : ev S t ≤ (kn S t).length := by
  rw [← ev_cx, ← kn_cx, List.length_map]
  unfold cx
  have e : (fun x : Pl × T => isX S x.2 && evX S x.2) = fun x => evX S x.2 && isX S x.2 := funext fun _ => Bool.and_comm _ _
  rw [e, ← List.filter_filter]
  exact List.length_filter_le _ _
theorem count_ok {t : T} (h : WT S Z t) (hz : t.size ≤ 64) : f_count_turnings c [sgD c S, enc t] = some (.int ((2 ^ ((kn S t).length - ev S t) : Nat) : Int)) := by
  have e1 := two_places c hS h hz
  obtain ⟨ds, e2, e3⟩ := even_places c hS h hz
  have le := ev_le S t
  have hk : (kn S t).length ≤ 64 := Nat.le_trans (kn_nb S t) (by have := nb_size t; omega)
  have s : shlD (.int 1) (.int ((((kn S t).map ip).length : Int) - (ds.length : Int))) = some (.int ((2 ^ ((kn S t).length - ev S t) : Nat) : Int)) := by
    rw [List.length_map, e3]
    show (if (1 : Int) = 1 ∧ 0 ≤ ((kn S t).length : Int) - (ev S t : Int) ∧ ((kn S t).length : Int) - (ev S t : Int) ≤ 100000 then some (D.int (2 ^ (((kn S t).length : Int) - (ev S t : Int)).toNat)) else none) = _
    rw [if_pos ⟨rfl, by omega, by omega⟩]
    have : (((kn S t).length : Int) - (ev S t : Int)).toNat = (kn S t).length - ev S t := by omega
    rw [this]
    congr 2
  unfold f_count_turnings m_count_turnings
  rw [List.length_map] at s
  simp [e1, e2, retF, s]
end
end My

set_option Elab.async false
set_option linter.all false
set_option maxRecDepth 100000
set_option maxHeartbeats 2000000
namespace My
open PySem PySem.Spec PyProof.Rows L2 Dl
/-! ### the program's exchange sets -/
def Bd (R : List Pl) : Prop := R.length ≤ 1000 ∧ ∀ p ∈ R, p.length ≤ 1000
theorem add_tups {a b : List D} (h : a.length + b.length ≤ 100000) : addD (.tup a) (.tup b) = some (.tup (a ++ b)) := by
  show (if a.length + b.length ≤ 100000 then some (D.tup (a ++ b)) else none) = _
  rw [if_pos h]
theorem add_lsts {a b : List D} (h : a.length + b.length ≤ 100000) : addD (.lst a) (.lst b) = some (.lst (a ++ b)) := by
  show (if a.length + b.length ≤ 100000 then some (D.lst (a ++ b)) else none) = _
  rw [if_pos h]
theorem below_ok (i : Nat) {R : List Pl} (h : Bd R) : f_below [.int (i : Int), rT R] = some (rT (bel i R)) := by
  have hl : R.length ≤ 100000 := by have := h.1; omega
  have cm : compM (bndN 2) yesM (bind2 (tupM (consM (nameV 0) nilM)) (nameV 2) addD) [some (.val (.int (i : Int))), some (.val (rT R)), none] (R.map ip) = some (R.map fun p => ip (i :: p)) :=
    mapA fun p hp => ⟨[some (.val (.int (i : Int))), some (.val (rT R)), some (.val (ip p))], rfl, by
      have hp := h.2 p hp
      have e := add_tups (a := [.int (i : Int)]) (b := p.map fun (j : Nat) => D.int (j : Int)) (by simp; omega)
      exact e⟩
  have e : (R.map fun p => ip (i :: p)) = (bel i R).map ip := by unfold bel; rw [List.map_map]; rfl
  rw [e] at cm
  have hb : (bel i R).length ≤ 100000 := by unfold bel; rw [List.length_map]; exact hl
  unfold rT at cm ⊢
  unfold f_below m_below
  simp [hl, cm, retF, tupleD, hb]
def stp (P : List (List Pl)) (i : Nat) (A : List (List Pl)) : List (List Pl) := P.flatMap fun r => A.map fun q => r ++ bel i q
theorem comp2_ok {e0 e1 e2 e3 e6 e7 : Option Sl} {i : Nat} {A : List (List Pl)} (hA : ∀ q ∈ A, Bd q) : ∀ {P : List (List Pl)}, (∀ r ∈ P, r.length ≤ 1000) →
    comp2M (bndN 8) yesM [9] (itemsA (nameV 5)) (bndN 9) yesM (bind2 (nameV 8) (callM f_below (consM (nameV 4) (consM (nameV 9) nilM))) addD) [e0, e1, e2, e3, some (.val (.int (i : Int))), some (.val (.lst (A.map rT))), e6, e7, none, none] (P.map rT) = some ((stp P i A).map rT)
  | [], _ => rfl
  | r :: P, hP => by
    have ih := comp2_ok (e0 := e0) (e1 := e1) (e2 := e2) (e3 := e3) (e6 := e6) (e7 := e7) (i := i) hA (P := P) fun x hx => hP x (List.mem_cons_of_mem _ hx)
    have hr := hP r (List.mem_cons_self ..)
    have cm : compM (bndN 9) yesM (bind2 (nameV 8) (callM f_below (consM (nameV 4) (consM (nameV 9) nilM))) addD) [e0, e1, e2, e3, some (.val (.int (i : Int))), some (.val (.lst (A.map rT))), e6, e7, some (.val (rT r)), none] (A.map rT) = some (A.map fun q => rT (r ++ bel i q)) :=
      mapA fun q hq => ⟨[e0, e1, e2, e3, some (.val (.int (i : Int))), some (.val (.lst (A.map rT))), e6, e7, some (.val (rT r)), some (.val (rT q))], rfl, by
        have hb := hA q hq
        have e := below_ok i hb
        have e2 : addD (rT r) (rT (bel i q)) = some (rT (r ++ bel i q)) := by
          have hb1 := hb.1
          have := add_tups (a := r.map ip) (b := (bel i q).map ip) (by unfold bel; simp; omega)
          rw [← List.map_append] at this
          exact this
        simp [e, e2]⟩
    have e : (stp (r :: P) i A).map rT = (A.map fun q => rT (r ++ bel i q)) ++ (stp P i A).map rT := by
      unfold stp
      rw [List.flatMap_cons, List.map_append, List.map_map]
      rfl
    rw [e, List.map_cons]
    show (compM (bndN 9) yesM (bind2 (nameV 8) (callM f_below (consM (nameV 4) (consM (nameV 9) nilM))) addD) [e0, e1, e2, e3, some (.val (.int (i : Int))), some (.val (.lst (A.map rT))), e6, e7, some (.val (rT r)), none] (A.map rT)).bind _ = _
    rw [cm]
    show (comp2M (bndN 8) yesM [9] (itemsA (nameV 5)) (bndN 9) yesM (bind2 (nameV 8) (callM f_below (consM (nameV 4) (consM (nameV 9) nilM))) addD) [e0, e1, e2, e3, some (.val (.int (i : Int))), some (.val (.lst (A.map rT))), e6, e7, none, none] (P.map rT)).bind _ = _
    rw [ih]
    rfl
theorem l1_exa (c : Addr) {self : List D → Option D} {sg a a' : D} {P A : List (List Pl)} {i : Nat} {e1 e2 e5 e8 e9 : Option Sl} (h : self [sg, a, a'] = some (.lst (A.map rT))) (hA : ∀ q ∈ A, Bd q) (hP : ∀ r ∈ P, r.length ≤ 1000) (hz : (stp P i A).length ≤ 100000) :
    l1_exchanges_of_arguments c self [some (.val sg), e1, e2, some (.val (.lst (P.map rT))), some (.val (.int (i : Int))), e5, some (.val a), some (.val a'), e8, e9] =
      some (.nx [some (.val sg), e1, e2, some (.val (.lst ((stp P i A).map rT))), some (.val (.int (i : Int))), some (.val (.lst (A.map rT))), some (.val a), some (.val a'), e8, e9]) := by
  have cm := comp2_ok (e0 := some (.val sg)) (e1 := e1) (e2 := e2) (e3 := some (.val (.lst (P.map rT)))) (e6 := some (.val a)) (e7 := some (.val a')) (i := i) hA hP
  have hz' : ((stp P i A).map rT).length ≤ 100000 := by rw [List.length_map]; exact hz
  unfold l1_exchanges_of_arguments
  have s1 : setM 5 (callM self (consM (nameV 0) (consM (nameV 6) (consM (nameV 7) nilM)))) [some (.val sg), e1, e2, some (.val (.lst (P.map rT))), some (.val (.int (i : Int))), e5, some (.val a), some (.val a'), e8, e9] = some (.nx [some (.val sg), e1, e2, some (.val (.lst (P.map rT))), some (.val (.int (i : Int))), some (.val (.lst (A.map rT))), some (.val a), some (.val a'), e8, e9]) := by
    simp [h]
  rw [seq_nx s1]
  have s2 : lc2M [8, 9] [9] (itemsA (nameV 3)) (bndN 8) yesM (itemsA (nameV 5)) (bndN 9) yesM (bind2 (nameV 8) (callM f_below (consM (nameV 4) (consM (nameV 9) nilM))) addD) [some (.val sg), e1, e2, some (.val (.lst (P.map rT))), some (.val (.int (i : Int))), some (.val (.lst (A.map rT))), some (.val a), some (.val a'), e8, e9] = some ((stp P i A).map rT) := by
    show (comp2M (bndN 8) yesM [9] (itemsA (nameV 5)) (bndN 9) yesM (bind2 (nameV 8) (callM f_below (consM (nameV 4) (consM (nameV 9) nilM))) addD) [some (.val sg), e1, e2, some (.val (.lst (P.map rT))), some (.val (.int (i : Int))), some (.val (.lst (A.map rT))), some (.val a), some (.val a'), none, none] (P.map rT)).bind _ = _
    rw [cm]
    show (if ((stp P i A).map rT).length ≤ 100000 then some ((stp P i A).map rT) else none) = _
    rw [if_pos hz']
  simp [s2]
theorem stp_nil (A : List (List Pl)) : stp [[]] 0 A = A.map (bel 0) := by
  unfold stp
  simp
theorem stp_prd (A B : List (List Pl)) : stp (A.map (bel 0)) 1 B = prd A B := by
  unfold stp prd
  rw [List.flatMap_map]
theorem exa0 (c : Addr) (self : List D → Option D) (sg : D) : f_exchanges_of_arguments c self [sg, .tup [], .tup []] = some (.lst [rT []]) := by
  unfold f_exchanges_of_arguments m_exchanges_of_arguments
  simp [countM, countD, for_nil, retF, rT]
theorem exa1 (c : Addr) {self : List D → Option D} {sg a a' : D} {A : List (List Pl)} (h : self [sg, a, a'] = some (.lst (A.map rT))) (hA : ∀ q ∈ A, Bd q) (hz : A.length ≤ 100000) : f_exchanges_of_arguments c self [sg, .tup [a], .tup [a']] = some (.lst ((A.map (bel 0)).map rT)) := by
  have l := l1_exa c (self := self) (sg := sg) (a := a) (a' := a') (P := [[]]) (A := A) (i := 0) (e1 := some (.val (.tup [a]))) (e2 := some (.val (.tup [a']))) (e5 := none) (e8 := none) (e9 := none) h hA (by simp) (by rw [stp_nil, List.length_map]; exact hz)
  rw [stp_nil] at l
  have e : ([[]] : List (List Pl)).map rT = [.tup []] := rfl
  rw [e] at l
  unfold f_exchanges_of_arguments m_exchanges_of_arguments
  simp [countM, countD, for_nil, for_cons, bndT, bndC, bndN, bndNil, retF] at l ⊢
  simp [l]
theorem exa2 (c : Addr) {self : List D → Option D} {sg a a' b b' : D} {A B : List (List Pl)} (h : self [sg, a, a'] = some (.lst (A.map rT))) (h' : self [sg, b, b'] = some (.lst (B.map rT))) (hA : ∀ q ∈ A, Bd q) (hB : ∀ q ∈ B, Bd q) (zA : A.length ≤ 100000) (hz : (prd A B).length ≤ 100000) :
    f_exchanges_of_arguments c self [sg, .tup [a, b], .tup [a', b']] = some (.lst ((prd A B).map rT)) := by
  have l := l1_exa c (self := self) (sg := sg) (a := a) (a' := a') (P := [[]]) (A := A) (i := 0) (e1 := some (.val (.tup [a, b]))) (e2 := some (.val (.tup [a', b']))) (e5 := none) (e8 := none) (e9 := none) h hA (by simp) (by rw [stp_nil, List.length_map]; exact zA)
  rw [stp_nil] at l
  have l2 := l1_exa c (self := self) (sg := sg) (a := b) (a' := b') (P := A.map (bel 0)) (A := B) (i := 1) (e1 := some (.val (.tup [a, b]))) (e2 := some (.val (.tup [a', b']))) (e5 := some (.val (.lst (A.map rT)))) (e8 := none) (e9 := none) h' hB
    (fun r hr => by obtain ⟨q, hq, rfl⟩ := List.mem_map.mp hr; unfold bel; rw [List.length_map]; exact (hA q hq).1) (by rw [stp_prd]; exact hz)
  rw [stp_prd] at l2
  have e : ([[]] : List (List Pl)).map rT = [.tup []] := rfl
  rw [e] at l
  unfold f_exchanges_of_arguments m_exchanges_of_arguments
  simp [countM, countD, for_nil, for_cons, bndT, bndC, bndN, bndNil, retF] at l l2 ⊢
  simp [l, l2]
end My

set_option Elab.async false
set_option linter.all false
set_option maxRecDepth 100000
set_option maxHeartbeats 2000000
namespace My
open PySem PySem.Spec PyProof.Rows L2 Dl
theorem kn_len (S : List Sy) (t : T) : 2 * (kn S t).length + 1 ≤ t.size := by
  have h1 := kn_nb S t
  have h2 := nb_size t
  omega
theorem kn_in {S : List Sy} {Z : List Str} {t : T} (h : WT S Z t) : ∀ p ∈ kn S t, p.length ≤ t.size := fun p hp => by
  rw [← kn_cx] at hp
  obtain ⟨x, hx, rfl⟩ := List.mem_map.mp hp
  have := (pl_in h x (List.mem_filter.mp hx).1).2
  omega
theorem xs_bd {S : List Sy} {Z : List Str} {t x : T} (h : WT S Z t) (hz : t.size ≤ 64) : ∀ R ∈ xs S t x, Bd R := fun R hR => by
  obtain ⟨h1, _⟩ := (mem_xs S t x R).mp hR
  have h2 := h1.length_le
  have h3 := kn_len S t
  exact ⟨by omega, fun p hp => by have := kn_in h p (h1.subset hp); omega⟩
section
variable (c : Addr) {S : List Sy} (hS : SyOk S) {Z : List Str}
include hS
omit c in
theorem xs_le {t x : T} (h : WT S Z t) (h' : WT S Z x) : (xs S t x).length ≤ 2 ^ nb t := by
  rw [len_xs hS h h']
  split
  · exact Nat.pow_le_pow_right (by decide) (Nat.le_trans (ev_le S t) (kn_nb S t))
  · exact Nat.zero_le _
theorem ex_v {self : List D → Option D} {t x : T} (ht : Okd 64 (enc t)) (hx : Okd 64 (enc x)) (h : (∃ s, t = .v s) ∨ ∃ s, x = .v s) : bodyM 3 6 (m_exchanges c self) [sgD c S, enc t, enc x] = some (.lst ((if t = x then [[]] else [] : List (List Pl)).map rT)) := by
  have e := eqT ht hx
  have e0 : rT [] = .tup [] := rfl
  unfold m_exchanges
  rcases h with ⟨s, rfl⟩ | ⟨s, rfl⟩
  · by_cases q : T.v s = x
    · rw [decide_eq_true q] at e
      simp only [enc] at e
      simp [enc, isi_str, unM, retF, e, q, e0]
    · rw [decide_eq_false q] at e
      simp only [enc] at e
      simp [enc, isi_str, unM, retF, e, q]
  · cases t with
    | v s' =>
      by_cases q : T.v s' = T.v s
      · rw [decide_eq_true q] at e
        simp only [enc] at e
        rw [if_pos q]
        simp [enc, isi_str, unM, retF, e, e0]
      · rw [decide_eq_false q] at e
        simp only [enc] at e
        rw [if_neg q]
        simp [enc, isi_str, unM, retF, e]
    | c f =>
      have q : ¬ T.c f = T.v s := fun z => nomatch z
      rw [decide_eq_false q] at e
      simp only [enc] at e
      rw [if_neg q]
      simp [enc, isi_str, isi_tup, unM, retF, e]
    | u f t =>
      have q : ¬ T.u f t = T.v s := fun z => nomatch z
      rw [decide_eq_false q] at e
      simp only [enc] at e
      rw [if_neg q]
      simp [enc, isi_str, isi_tup, unM, retF, e]
    | b f t t' =>
      have q : ¬ T.b f t t' = T.v s := fun z => nomatch z
      rw [decide_eq_false q] at e
      simp only [enc] at e
      rw [if_neg q]
      simp [enc, isi_str, isi_tup, unM, retF, e]
omit hS in
theorem ex_ne {self : List D → Option D} {sg : D} {f g : Str} {as bs : List D} (hf : SLe 1000 f) (hg : SLe 1000 g) (n : f ≠ g) : bodyM 3 6 (m_exchanges c self) [sg, .tup (.str f :: as), .tup (.str g :: bs)] = some (.lst []) := by
  have e := neS f g hf hg
  rw [decide_eq_false n] at e
  unfold m_exchanges
  simp [isi_tup, unM, retF, nextM, a0, e]
theorem ex_one {self : List D → Option D} {f : Str} {as bs L : List D} (hf : f ∈ S.map (·.1)) (hl : SLe 1000 f) (n : f ∉ twos S) (h : f_exchanges_of_arguments c self [sgD c S, .tup as, .tup bs] = some (.lst L)) :
    bodyM 3 6 (m_exchanges c self) [sgD c S, .tup (.str f :: as), .tup (.str f :: bs)] = some (.lst L) := by
  have e := neS f f hl hl
  have tm := fun rest => two_meth c hS hf as rest
  rw [decide_eq_false n] at tm
  rw [decide_eq_true rfl] at e
  unfold m_exchanges
  simp [isi_tup, unM, retF, nextM, a0, e, cut_tail, h, tm]
theorem ex_two {self : List D → Option D} {f : Str} {a b a' b' : D} {L : List D} {M : List (List Pl)} (hf : f ∈ S.map (·.1)) (hl : SLe 1000 f) (n : f ∈ twos S) (h : f_exchanges_of_arguments c self [sgD c S, .tup [a, b], .tup [a', b']] = some (.lst L))
    (h' : f_exchanges_of_arguments c self [sgD c S, .tup [a, b], .tup [b', a']] = some (.lst (M.map rT))) (hM : ∀ R ∈ M, R.length ≤ 1000) (hz : L.length + M.length ≤ 100000) :
    bodyM 3 6 (m_exchanges c self) [sgD c S, .tup [.str f, a, b], .tup [.str f, a', b']] = some (.lst (L ++ (M.map (List.cons [])).map rT)) := by
  have e := neS f f hl hl
  have tm := fun rest => two_meth c hS hf [a, b] rest
  rw [decide_eq_true n] at tm
  rw [decide_eq_true rfl] at e
  have hm : M.length ≤ 100000 := by omega
  have cm : ∀ e0 e1 e2 e3 e4 : Option Sl, compM (bndN 5) yesM (bind2 (tupM (consM (tupM nilM) nilM)) (nameV 5) addD) [e0, e1, e2, e3, e4, none] (M.map rT) = some (M.map fun R => rT ([] :: R)) := fun e0 e1 e2 e3 e4 =>
    mapA fun R hR => ⟨[e0, e1, e2, e3, e4, some (.val (rT R))], rfl, by
      have := hM R hR
      have q := add_tups (a := [.tup []]) (b := R.map ip) (by simp; omega)
      exact q⟩
  have ad := add_lsts (a := L) (b := M.map fun R => rT ([] :: R)) (by simpa using hz)
  have ee : (M.map (List.cons [])).map rT = M.map fun R => rT ([] :: R) := by rw [List.map_map]; rfl
  rw [ee]
  unfold m_exchanges
  simp [isi_tup, unM, retF, nextM, a0, e, cut_tail, h, h', tm, backTD, hm, cm, ad]
theorem exch_ok : ∀ (t x : T) (k : Nat), WT S Z t → WT S Z x → t.size ≤ k → t.size ≤ 31 → x.size ≤ 64 → f_exchanges_ c k [sgD c S, enc t, enc x] = some (.lst ((xs S t x).map rT))
  | .v s, x, k, h, h', hk, _, hx => by
    obtain ⟨k, rfl⟩ : ∃ k', k = k' + 1 := ⟨k - 1, by have : 1 ≤ k := hk; omega⟩
    show bodyM 3 6 (m_exchanges c (f_exchanges_ c k)) _ = _
    rw [ex_v c hS (t := .v s) (enc_ok hS h (by show 1 ≤ 64; omega)) (enc_ok hS h' hx) (.inl ⟨s, rfl⟩)]
    cases x with
    | v b =>
      by_cases q : s = b
      · subst q
        simp [xs]
      · have q' : ¬ T.v s = T.v b := fun z => q (by injection z)
        simp [xs, q]
    | c f => simp [xs]
    | u f t => simp [xs]
    | b f s t => simp [xs]
  | .c f, x, k, h, h', hk, _, hx => by
    obtain ⟨k, rfl⟩ : ∃ k', k = k' + 1 := ⟨k - 1, by have : 1 ≤ k := hk; omega⟩
    show bodyM 3 6 (m_exchanges c (f_exchanges_ c k)) _ = _
    have lf : SLe 1000 f := ((Has.nm hS h).sle).mono (by decide)
    cases x with
    | v b =>
      rw [ex_v c hS (t := .c f) (enc_ok hS h (by show 1 ≤ 64; omega)) (enc_ok hS h' hx) (.inr ⟨b, rfl⟩)]
      simp [xs]
    | c g =>
      have lg : SLe 1000 g := ((Has.nm hS h').sle).mono (by decide)
      by_cases q : f = g
      · subst q
        have nf : f ∉ twos S := fun hf => by have := two_two hS hf h; omega
        have := ex_one c hS (self := f_exchanges_ c k) (as := []) (bs := []) (Has.mem h) lf nf (exa0 c _ _)
        simp only [enc]
        rw [this]
        simp [xs]
      · have := ex_ne c (self := f_exchanges_ c k) (sg := sgD c S) (as := []) (bs := []) lf lg q
        simp only [enc]
        rw [this]
        simp [xs, q]
    | u g t =>
      have lg : SLe 1000 g := ((Has.nm hS h'.1).sle).mono (by decide)
      have := ex_ne c (self := f_exchanges_ c k) (sg := sgD c S) (as := []) (bs := [enc t]) lf lg (Has.ne hS h h'.1 (by decide))
      simp only [enc]
      rw [this]
      simp [xs]
    | b g s t =>
      have lg : SLe 1000 g := ((Has.nm hS h'.1).sle).mono (by decide)
      have := ex_ne c (self := f_exchanges_ c k) (sg := sgD c S) (as := []) (bs := [enc s, enc t]) lf lg (Has.ne hS h h'.1 (by decide))
      simp only [enc]
      rw [this]
      simp [xs]
  | .u f t, x, k, h, h', hk, hz, hx => by
    have hk1 : 1 + t.size ≤ k := hk
    have hz1 : 1 + t.size ≤ 31 := hz
    obtain ⟨k, rfl⟩ : ∃ k', k = k' + 1 := ⟨k - 1, by omega⟩
    show bodyM 3 6 (m_exchanges c (f_exchanges_ c k)) _ = _
    have lf : SLe 1000 f := ((Has.nm hS h.1).sle).mono (by decide)
    cases x with
    | v b =>
      rw [ex_v c hS (t := .u f t) (enc_ok hS h (by show 1 + t.size ≤ 64; omega)) (enc_ok hS h' hx) (.inr ⟨b, rfl⟩)]
      simp [xs]
    | c g =>
      have lg : SLe 1000 g := ((Has.nm hS h').sle).mono (by decide)
      have := ex_ne c (self := f_exchanges_ c k) (sg := sgD c S) (as := [enc t]) (bs := []) lf lg (Has.ne hS h.1 h' (by decide))
      simp only [enc]
      rw [this]
      simp [xs]
    | u g y =>
      have lg : SLe 1000 g := ((Has.nm hS h'.1).sle).mono (by decide)
      have hx1 : 1 + y.size ≤ 64 := hx
      by_cases q : f = g
      · subst q
        have nf : f ∉ twos S := fun hf => by have := two_two hS hf h.1; omega
        have ih := exch_ok t y k h.2 h'.2 (by omega) (by omega) (by omega)
        have le := xs_le hS h.2 h'.2
        have hn := nb_size t
        have l15 : 2 ^ nb t ≤ 2 ^ 15 := Nat.pow_le_pow_right (by decide) (by omega)
        have p1 : 2 ^ 15 ≤ 50000 := by decide
        have := ex_one c hS (self := f_exchanges_ c k) (as := [enc t]) (bs := [enc y]) h.1.mem lf nf (exa1 c ih (xs_bd h.2 (by omega)) (by omega))
        simp only [enc]
        rw [this]
        have e : xs S (.u f t) (.u f y) = (xs S t y).map (bel 0) := if_pos rfl
        rw [e]
      · have := ex_ne c (self := f_exchanges_ c k) (sg := sgD c S) (as := [enc t]) (bs := [enc y]) lf lg q
        simp only [enc]
        rw [this]
        simp [xs, q]
    | b g s y =>
      have lg : SLe 1000 g := ((Has.nm hS h'.1).sle).mono (by decide)
      have := ex_ne c (self := f_exchanges_ c k) (sg := sgD c S) (as := [enc t]) (bs := [enc s, enc y]) lf lg (Has.ne hS h.1 h'.1 (by decide))
      simp only [enc]
      rw [this]
      simp [xs]
  | .b f s t, x, k, h, h', hk, hz, hx => by
    have hk1 : 1 + s.size + t.size ≤ k := hk
    have hz1 : 1 + s.size + t.size ≤ 31 := hz
    have ps := s.pos
    have pt := t.pos
    obtain ⟨k, rfl⟩ : ∃ k', k = k' + 1 := ⟨k - 1, by omega⟩
    show bodyM 3 6 (m_exchanges c (f_exchanges_ c k)) _ = _
    have lf : SLe 1000 f := ((Has.nm hS h.1).sle).mono (by decide)
    cases x with
    | v b =>
      rw [ex_v c hS (t := .b f s t) (enc_ok hS h (by show 1 + s.size + t.size ≤ 64; omega)) (enc_ok hS h' hx) (.inr ⟨b, rfl⟩)]
      simp [xs]
    | c g =>
      have lg : SLe 1000 g := ((Has.nm hS h').sle).mono (by decide)
      have := ex_ne c (self := f_exchanges_ c k) (sg := sgD c S) (as := [enc s, enc t]) (bs := []) lf lg (Has.ne hS h.1 h' (by decide))
      simp only [enc]
      rw [this]
      simp [xs]
    | u g y =>
      have lg : SLe 1000 g := ((Has.nm hS h'.1).sle).mono (by decide)
      have := ex_ne c (self := f_exchanges_ c k) (sg := sgD c S) (as := [enc s, enc t]) (bs := [enc y]) lf lg (Has.ne hS h.1 h'.1 (by decide))
      simp only [enc]
      rw [this]
      simp [xs]
    | b g s' t' =>
      have lg : SLe 1000 g := ((Has.nm hS h'.1).sle).mono (by decide)
      have hx1 : 1 + s'.size + t'.size ≤ 64 := hx
      by_cases q : f = g
      · subst q
        have i1 := exch_ok s s' k h.2.1 h'.2.1 (by omega) (by omega) (by omega)
        have i2 := exch_ok t t' k h.2.2 h'.2.2 (by omega) (by omega) (by omega)
        have i3 := exch_ok s t' k h.2.1 h'.2.2 (by omega) (by omega) (by omega)
        have i4 := exch_ok t s' k h.2.2 h'.2.1 (by omega) (by omega) (by omega)
        have n1 := nb_size s
        have n2 := nb_size t
        have p1 : 2 ^ 15 ≤ 50000 := by decide
        have l1 := xs_le hS h.2.1 h'.2.1
        have l2 := xs_le hS h.2.2 h'.2.2
        have l3 := xs_le hS h.2.1 h'.2.2
        have l4 := xs_le hS h.2.2 h'.2.1
        have pw15 : 2 ^ nb s * 2 ^ nb t ≤ 2 ^ 15 := by
          rw [← Nat.pow_add]
          exact Nat.pow_le_pow_right (by decide) (by omega)
        have ls : 2 ^ nb s ≤ 2 ^ 15 := Nat.pow_le_pow_right (by decide) (by omega)
        have m12 : (prd (xs S s s') (xs S t t')).length ≤ 2 ^ 15 := by
          rw [len_prd]
          exact Nat.le_trans (Nat.mul_le_mul l1 l2) pw15
        have m34 : (prd (xs S s t') (xs S t s')).length ≤ 2 ^ 15 := by
          rw [len_prd]
          exact Nat.le_trans (Nat.mul_le_mul l3 l4) pw15
        have a1 := exa2 c i1 i2 (xs_bd h.2.1 (by omega)) (xs_bd h.2.2 (by omega)) (by omega) (by omega)
        have a2 := exa2 c i3 i4 (xs_bd h.2.1 (by omega)) (xs_bd h.2.2 (by omega)) (by omega) (by omega)
        have e : xs S (.b f s t) (.b f s' t') = prd (xs S s s') (xs S t t') ++ (if f ∈ twos S then (prd (xs S s t') (xs S t s')).map (List.cons []) else []) := if_pos rfl
        simp only [enc]
        rw [e]
        by_cases hf : f ∈ twos S
        · rw [if_pos hf, ex_two c hS h.1.mem lf hf a1 a2 (fun R hR => ?_) (by rw [List.length_map]; omega), List.map_append]
          obtain ⟨a, b, ha, hb, rfl⟩ := mem_prd.mp hR
          have b1 := (mem_xs S _ _ _).mp ha
          have b2 := (mem_xs S _ _ _).mp hb
          have c1 := b1.1.length_le
          have c2 := b2.1.length_le
          have d1 := kn_len S s
          have d2 := kn_len S t
          unfold bel
          rw [List.length_append, List.length_map, List.length_map]
          omega
        · rw [if_neg hf, List.append_nil, ex_one c hS h.1.mem lf hf a1]
      · have := ex_ne c (self := f_exchanges_ c k) (sg := sgD c S) (as := [enc s, enc t]) (bs := [enc s', enc t']) lf lg q
        simp only [enc]
        rw [this]
        simp [xs, q]
end
end My

set_option Elab.async false
set_option linter.all false
set_option maxRecDepth 100000
set_option maxHeartbeats 2000000
namespace My
open PySem PySem.Spec PyProof.Rows L2 Dl
theorem srt_len (l : List (List Pl)) : (srt l).length = l.length := (srt_perm l).length_eq
theorem own_ok (c : Addr) {S : List Sy} (hS : SyOk S) {Z : List Str} {t : T} (h : WT S Z t) (hz : t.size ≤ 31) : f_own_turnings c [sgD c S, enc t] = some (.tup ((srt (xs S t t)).map rT)) := by
  have e1 : f_exchanges c [sgD c S, enc t, enc t] = _ := exch_ok c hS t t 64 h h (by omega) hz (by omega)
  have le := xs_le hS h h
  have hn := nb_size t
  have p1 : 2 ^ 15 ≤ 50000 := by decide
  have l15 : 2 ^ nb t ≤ 2 ^ 15 := Nat.pow_le_pow_right (by decide) (by omega)
  have hl : (xs S t t).length ≤ 100000 := by omega
  have hl2 : (srt (xs S t t)).length ≤ 100000 := by rw [srt_len]; exact hl
  have c1 : ∀ e0 e1 e2 e4 : Option Sl, compM (bndN 3) yesM (tupM (consM (callM lenD (consM (nameV 3) nilM)) (consM (nameV 3) nilM))) [e0, e1, e2, none, e4] ((xs S t t).map rT) = some ((xs S t t).map eP) := fun e0 e1 e2 e4 =>
    mapA fun R hR => ⟨[e0, e1, e2, some (.val (rT R)), e4], rfl, by
      have hb := (xs_bd h (by omega) R hR).1
      have q : lenD [rT R] = some (.int (R.length : Int)) := by
        unfold rT
        simp
      simp [q, eP]⟩
  have c2 : ∀ e0 e1 e2 : Option Sl, compM (bndT 2 (bndC (bndN 4) (bndC (bndN 3) bndNil))) yesM (nameV 3) [e0, e1, e2, none, none] ((srt (xs S t t)).map eP) = some ((srt (xs S t t)).map rT) := fun e0 e1 e2 =>
    mapA fun R _ => ⟨[e0, e1, e2, some (.val (rT R)), some (.val (.int (R.length : Int)))], rfl, rfl⟩
  have so := sortD_P hl
  unfold f_own_turnings m_own_turnings
  simp [e1, hl, c1, so, sortF, hl2, c2, retF, tupleD]
theorem eqv_ints : ∀ p q : List Int, PyData.eqvAll (p.map PyData.int) (q.map PyData.int) = decide (p = q)
  | [], [] => by simp [PyData.eqvAll]
  | [], j :: q => by simp [PyData.eqvAll]
  | j :: p, [] => by simp [PyData.eqvAll]
  | j :: p, k :: q => by
    rw [List.map_cons, List.map_cons, PyData.eqvAll, eqv_ints p q, PyData.eqv, Bool.eq_iff_iff]
    simp
theorem ints_inj {p q : Pl} (h : (p.map fun (j : Nat) => (j : Int)) = q.map fun (j : Nat) => (j : Int)) : p = q :=
  (List.map_inj_right (fun x y e => Int.ofNat_inj.mp e)).mp h
theorem eqv_ip (p q : Pl) : PyData.eqv (ip p).py (ip q).py = decide (p = q) := by
  rw [py_ip, py_ip, PyData.eqv, eqv_ints]
  exact decide_eq_decide.mpr ⟨ints_inj, fun e => by rw [e]⟩
theorem okd_ip (p : Pl) : Okd 1 (ip p) := by
  unfold ip
  refine okd_tup (n := 0) fun d hd => ?_
  obtain ⟨j, _, rfl⟩ := List.mem_map.mp hd
  exact okd_int
theorem okd_rL (R : List Pl) : Okd 2 (rL R) := by
  unfold rL
  refine okd_lst (n := 1) fun d hd => ?_
  obtain ⟨p, _, rfl⟩ := List.mem_map.mp hd
  exact okd_ip p
theorem in_ok (p : Pl) (R : List Pl) : inLD (ip p) (rL R) = some (.bl (decide (p ∈ R))) := by
  have h1 := ((okd_ip p).mono (m := 64) (by decide)).shp
  have h2 := ((okd_rL R).mono (m := 64) (by decide)).shp
  unfold rL at h2 ⊢
  show (if shp (ip p) = true ∧ shp (.lst (R.map ip)) = true then some (D.bl ((pyL (R.map ip)).any fun z => PyData.eqv z (ip p).py)) else none) = _
  rw [if_pos ⟨h1, h2⟩]
  congr 2
  have e : ∀ L : List Pl, (pyL (L.map ip)).any (fun z => PyData.eqv z (ip p).py) = decide (p ∈ L) := fun L => by
    induction L with
    | nil => rw [List.map_nil, pyL_nil]; simp
    | cons q L ih =>
      rw [List.map_cons, pyL_cons, List.any_cons, ih, eqv_ip]
      by_cases h : p = q
      · subst h
        simp
      · have h' : ¬ q = p := fun z => h z.symm
        simp [h, h']
  exact e R
theorem snoc_app (at_ p : Pl) (i : Nat) : (at_ ++ [i]) ++ p = at_ ++ (i :: p) := by simp
/-- the law's exchange -/
theorem lex_ok {S : List Sy} (hS : SyOk S) {Z : List Str} {R : List Pl} : ∀ (t : T) (k : Nat) (at_ : Pl) (Q : List Pl), WT S Z t → t.size ≤ k → at_.length + t.size ≤ 1000 → List.Sublist Q (kn S t) → (∀ p, at_ ++ p ∈ R ↔ p ∈ Q) → f_law_exchanged_ k [enc t, ip at_, rL R] = some (enc (exR t Q))
  | .v s, k, at_, Q, h, hk, ha, hq, hm => by
    obtain ⟨k, rfl⟩ : ∃ k', k = k' + 1 := ⟨k - 1, by have : 1 ≤ k := hk; omega⟩
    show bodyM 3 5 (m_law_exchanged (f_law_exchanged_ k)) _ = _
    have e : exR (.v s) Q = .v s := rfl
    rw [e]
    unfold m_law_exchanged
    simp [enc, isi_str, unM, retF]
  | .c f, k, at_, Q, h, hk, ha, hq, hm => by
    obtain ⟨k, rfl⟩ : ∃ k', k = k' + 1 := ⟨k - 1, by have : 1 ≤ k := hk; omega⟩
    have q0 : Q = [] := List.sublist_nil.mp hq
    have n : at_ ∉ R := fun z => by
      have := (hm []).mp (by rw [List.append_nil]; exact z)
      rw [q0] at this
      cases this
    have io := in_ok at_ R
    rw [decide_eq_false n] at io
    have r0 : rngD 0 0 = [] := rfl
    have e : exR (.c f) Q = .c f := rfl
    rw [e]
    show bodyM 3 5 (m_law_exchanged (f_law_exchanged_ k)) _ = _
    unfold m_law_exchanged
    simp [enc, isi_str, isi_tup, unM, retF, nextM, r0, compM, io, a0, addD, tupleD]
  | .u f t, k, at_, Q, h, hk, ha, hq, hm => by
    have hk1 : 1 + t.size ≤ k := hk
    have ha1 : at_.length + (1 + t.size) ≤ 1000 := ha
    obtain ⟨k, rfl⟩ : ∃ k', k = k' + 1 := ⟨k - 1, by omega⟩
    obtain ⟨Q1, q1, rfl⟩ := sub_bel.mp (show List.Sublist Q (bel 0 (kn S t)) from hq)
    have n : at_ ∉ R := fun z => nil_bel ((hm []).mp (by rw [List.append_nil]; exact z))
    have io := in_ok at_ R
    rw [decide_eq_false n] at io
    have ih := lex_ok hS t k (at_ ++ [0]) Q1 h.2 (by omega) (by rw [List.length_append]; show at_.length + 1 + t.size ≤ 1000; omega) q1 (fun p => by rw [snoc_app, hm, cons_bel])
    rw [ip_snoc] at ih
    have r1 : rngD 0 1 = [.int 0] := rfl
    have hpl : at_.length + 1 ≤ 100000 := by omega
    have io2 : inLD (.tup (at_.map fun (j : Nat) => D.int (j : Int))) (rL R) = some (.bl false) := io
    rw [exR_u]
    show bodyM 3 5 (m_law_exchanged (f_law_exchanged_ k)) _ = _
    unfold m_law_exchanged
    simp at ih
    simp [enc, isi_str, isi_tup, unM, retF, nextM, r1, compM, io2, a0, t21, ip, addD, hpl, ih, tupleD]
  | .b f s t, k, at_, Q, h, hk, ha, hq, hm => by
    have hk1 : 1 + s.size + t.size ≤ k := hk
    have ha1 : at_.length + (1 + s.size + t.size) ≤ 1000 := ha
    obtain ⟨k, rfl⟩ : ∃ k', k = k' + 1 := ⟨k - 1, by omega⟩
    have hpl : at_.length + 1 ≤ 100000 := by omega
    have r2 : rngD 0 2 = [.int 0, .int 1] := rfl
    have sp : ∃ l a b, (l = [] ∨ l = [[]]) ∧ List.Sublist a (kn S s) ∧ List.Sublist b (kn S t) ∧ Q = l ++ (bel 0 a ++ bel 1 b) := by
      have hq : List.Sublist Q ((if f ∈ twos S then [[]] else []) ++ (bel 0 (kn S s) ++ bel 1 (kn S t))) := hq
      obtain ⟨l1, l2, e, h1, h2⟩ := List.sublist_append_iff.mp hq
      obtain ⟨a, b, ha, hb, rfl⟩ := sub_two.mp h2
      refine ⟨l1, a, b, ?_, ha, hb, e⟩
      by_cases hf : f ∈ twos S
      · rw [if_pos hf] at h1
        exact sub_one h1
      · rw [if_neg hf] at h1
        exact .inl (List.sublist_nil.mp h1)
    obtain ⟨l, a, b, hl, sa, sb, rfl⟩ := sp
    have i1 := lex_ok hS s k (at_ ++ [0]) a h.2.1 (by omega) (by rw [List.length_append]; show at_.length + 1 + s.size ≤ 1000; omega) sa (fun p => by rw [snoc_app, hm, in_mix0 hl])
    have i2 := lex_ok hS t k (at_ ++ [1]) b h.2.2 (by omega) (by rw [List.length_append]; show at_.length + 1 + t.size ≤ 1000; omega) sb (fun p => by rw [snoc_app, hm, in_mix1 hl])
    rw [ip_snoc] at i1 i2
    show bodyM 3 5 (m_law_exchanged (f_law_exchanged_ k)) _ = _
    rcases hl with rfl | rfl
    · have n : at_ ∉ R := fun z => by
        have := (hm []).mp (by rw [List.append_nil]; exact z)
        rcases List.mem_append.mp this with z | z
        · cases z
        · exact (List.mem_append.mp z).elim nil_bel nil_bel
      have io := in_ok at_ R
      rw [decide_eq_false n] at io
      have io2 : inLD (.tup (at_.map fun (j : Nat) => D.int (j : Int))) (rL R) = some (.bl false) := io
      rw [List.nil_append, exR_b0]
      unfold m_law_exchanged
      simp at i1 i2
      simp [enc, isi_str, isi_tup, unM, retF, nextM, r2, compM, io2, a0, t31, t32, ip, addD, hpl, i1, i2, tupleD]
    · have n : at_ ∈ R := by
        have := (hm []).mpr (by simp)
        rwa [List.append_nil] at this
      have io := in_ok at_ R
      rw [decide_eq_true n] at io
      have io2 : inLD (.tup (at_.map fun (j : Nat) => D.int (j : Int))) (rL R) = some (.bl true) := io
      rw [show [[]] ++ (bel 0 a ++ bel 1 b) = [] :: (bel 0 a ++ bel 1 b) from rfl, exR_b1]
      unfold m_law_exchanged
      simp at i1 i2
      simp [enc, isi_str, isi_tup, unM, retF, nextM, r2, compM, io2, a0, t20, t21, t31, t32, ip, addD, hpl, i1, i2, tupleD]
end My

set_option Elab.async false
set_option linter.all false
set_option maxRecDepth 100000
set_option maxHeartbeats 2000000
namespace My
open PySem PySem.Spec PyProof.Rows L2 Dl
/-! ### the law's own list -/
theorem own_step {e0 e1 e2 e5 e6 : Option Sl} {X : List (List Pl)} {p : Pl} (hX : X.length ≤ 50000) (hr : ∀ r ∈ X, r.length ≤ 1000) : l1_law_own [e0, e1, e2, some (.val (.lst (X.map rL))), some (.val (ip p)), e5, e6] = some (.nx [e0, e1, e2, some (.val (.lst ((X ++ X.map fun r => r ++ [p]).map rL))), some (.val (ip p)), e5, e6]) := by
  have cm : compM (bndN 5) yesM (bind2 (nameV 5) (lstM (consM (nameV 4) nilM)) addD) [e0, e1, e2, some (.val (.lst (X.map rL))), some (.val (ip p)), none, e6] (X.map rL) = some (X.map fun r => rL (r ++ [p])) :=
    mapA fun r hm => ⟨[e0, e1, e2, some (.val (.lst (X.map rL))), some (.val (ip p)), some (.val (rL r)), e6], rfl, by
      have := hr r hm
      have q := add_lsts (a := r.map ip) (b := [ip p]) (by simp; omega)
      have e : rL (r ++ [p]) = .lst (r.map ip ++ [ip p]) := by unfold rL; rw [List.map_append]; rfl
      rw [e]
      unfold rL
      simp [q]⟩
  have ad := add_lsts (a := X.map rL) (b := X.map fun r => rL (r ++ [p])) (by simp; omega)
  have e : (X ++ X.map fun r => r ++ [p]).map rL = X.map rL ++ X.map fun r => rL (r ++ [p]) := by rw [List.map_append, List.map_map]; rfl
  have hX' : X.length ≤ 100000 := by omega
  rw [e]
  unfold l1_law_own
  simp [hX', cm, ad]
theorem own_sets {e0 e1 e2 e5 e6 : Option Sl} : ∀ (l : List Pl) (X : List (List Pl)) (e4 : Option Sl) (n : Nat), (∀ r ∈ X, r.length ≤ n) → n + l.length ≤ 1000 → X.length * 2 ^ l.length ≤ 50000 →
    ∃ y4, forM' (bndN 4) l1_law_own (l.map ip) [e0, e1, e2, some (.val (.lst (X.map rL))), e4, e5, e6] = some (.nx [e0, e1, e2, some (.val (.lst ((l.foldl (fun acc p => acc ++ acc.map fun r => r ++ [p]) X).map rL))), y4, e5, e6])
  | [], X, e4, n, _, _, _ => ⟨e4, rfl⟩
  | p :: l, X, e4, n, hr, hn, hz => by
    have hn : n + (l.length + 1) ≤ 1000 := hn
    have hz : X.length * 2 ^ (l.length + 1) ≤ 50000 := hz
    rw [Nat.pow_succ] at hz
    have hp : 0 < 2 ^ l.length := Nat.pow_pos (by decide)
    have h1 : X.length ≤ X.length * (2 ^ l.length * 2) := Nat.le_mul_of_pos_right _ (by omega)
    obtain ⟨y4, ih⟩ := own_sets l (X ++ X.map fun r => r ++ [p]) (some (.val (ip p))) (n + 1) (fun r hm => by
      rcases List.mem_append.mp hm with hm | hm
      · have := hr r hm; omega
      · obtain ⟨q, hq, rfl⟩ := List.mem_map.mp hm
        have := hr q hq
        rw [List.length_append, List.length_singleton]
        omega) (by omega) (by rw [List.length_append, List.length_map, ← Nat.two_mul, Nat.mul_comm 2, Nat.mul_assoc, Nat.mul_comm 2]; exact hz)
    refine ⟨y4, ?_⟩
    have st := own_step (e0 := e0) (e1 := e1) (e2 := e2) (e5 := e5) (e6 := e6) (X := X) (p := p) (by omega) (fun r hm => by have := hr r hm; omega)
    rw [List.map_cons, for_cons]
    show ((l1_law_own [e0, e1, e2, some (.val (.lst (X.map rL))), some (.val (ip p)), e5, e6]).bind _) = _
    rw [st]
    exact ih
theorem own_find {S : List Sy} (hS : SyOk S) {Z : List Str} {t : T} (h : WT S Z t) (hz : t.size ≤ 64) {e1 e3 e4 e6 : Option Sl} : ∀ (rows : List (List Pl)) (F : List (List Pl)) (e5 : Option Sl), (∀ R ∈ rows, List.Sublist R (kn S t)) → F.length + rows.length ≤ 90000 →
    ∃ y5, forM' (bndN 5) l2_law_own (rows.map rL) [some (.val (enc t)), e1, some (.own (F.map eL)), e3, e4, e5, e6] = some (.nx [some (.val (enc t)), e1, some (.own ((F ++ rows.filter fun R => decide (exR t R = t)).map eL)), e3, e4, y5, e6])
  | [], F, e5, _, _ => ⟨e5, by simp [for_nil]⟩
  | R :: rows, F, e5, hr, hl => by
    have hl : F.length + (rows.length + 1) ≤ 90000 := hl
    have sR := hr R (List.mem_cons_self ..)
    have lx : f_law_exchanged [enc t, .tup [], rL R] = some (enc (exR t R)) := lex_ok hS (R := R) t 64 [] R h hz (by simp; omega) sR (fun p => by rw [List.nil_append])
    have wx : Okd 64 (enc (exR t R)) := by
      have : ∀ (t : T) (m : Pl → Bool), WT S Z t → WT S Z (ex t m) ∧ (ex t m).size = t.size := by
        intro t
        induction t with
        | v s => exact fun m h => ⟨h, rfl⟩
        | c s => exact fun m h => ⟨h, rfl⟩
        | u f t ih => exact fun m h => ⟨⟨h.1, (ih _ h.2).1⟩, by show 1 + (ex t _).size = 1 + t.size; rw [(ih _ h.2).2]⟩
        | b f s t i1 i2 =>
          intro m h
          have a1 := i1 (fun p => m (0 :: p)) h.2.1
          have a2 := i2 (fun p => m (1 :: p)) h.2.2
          show WT S Z (if m [] = true then T.b f (ex t fun p => m (1 :: p)) (ex s fun p => m (0 :: p)) else T.b f (ex s fun p => m (0 :: p)) (ex t fun p => m (1 :: p))) ∧ T.size (if m [] = true then T.b f (ex t fun p => m (1 :: p)) (ex s fun p => m (0 :: p)) else T.b f (ex s fun p => m (0 :: p)) (ex t fun p => m (1 :: p))) = 1 + s.size + t.size
          split
          · refine ⟨⟨h.1, a2.1, a1.1⟩, ?_⟩
            show 1 + (ex t _).size + (ex s _).size = _
            rw [a1.2, a2.2]
            omega
          · refine ⟨⟨h.1, a1.1, a2.1⟩, ?_⟩
            show 1 + (ex s _).size + (ex t _).size = _
            rw [a1.2, a2.2]
      obtain ⟨w, z⟩ := this t (fun p => decide (p ∈ R)) h
      exact enc_ok hS w (by show (ex t fun p => decide (p ∈ R)).size ≤ 64; rw [z]; exact hz)
    have eq := eqT wx (enc_ok hS h hz)
    have ln : lenD [rL R] = some (.int (R.length : Int)) := by
      unfold rL
      simp
    have hF : F.length < 100000 := by omega
    have st : l2_law_own [some (.val (enc t)), e1, some (.own (F.map eL)), e3, e4, some (.val (rL R)), e6] = some (.nx [some (.val (enc t)), e1, some (.own ((F ++ if exR t R = t then [R] else []).map eL)), e3, e4, some (.val (rL R)), e6]) := by
      unfold l2_law_own
      by_cases q : exR t R = t
      · rw [decide_eq_true q] at eq
        rw [if_pos q, List.map_append]
        simp [lx, eq, appM, ownAt, hF, ln, eL]
      · rw [decide_eq_false q] at eq
        rw [if_neg q, List.append_nil]
        simp [lx, eq, nextM]
    obtain ⟨y5, ih⟩ := own_find hS h hz (e1 := e1) (e3 := e3) (e4 := e4) (e6 := e6) rows (F ++ if exR t R = t then [R] else []) (some (.val (rL R))) (fun R' m => hr R' (List.mem_cons_of_mem _ m)) (by
      have : (if exR t R = t then [R] else []).length ≤ 1 := by split <;> simp
      rw [List.length_append]
      omega)
    refine ⟨y5, ?_⟩
    rw [List.map_cons, for_cons]
    show ((l2_law_own [some (.val (enc t)), e1, some (.own (F.map eL)), e3, e4, some (.val (rL R)), e6]).bind _) = _
    rw [st]
    show forM' (bndN 5) l2_law_own (rows.map rL) [some (.val (enc t)), e1, some (.own ((F ++ if exR t R = t then [R] else []).map eL)), e3, e4, some (.val (rL R)), e6] = _
    rw [ih]
    have e : (F ++ if exR t R = t then [R] else []) ++ (rows.filter fun R => decide (exR t R = t)) = F ++ ((R :: rows).filter fun R => decide (exR t R = t)) := by
      by_cases q : exR t R = t
      · rw [if_pos q, List.filter_cons_of_pos (by simpa using q)]
        simp
      · rw [if_neg q, List.filter_cons_of_neg (by simpa using q)]
        simp
    rw [e]
theorem law_own_ok {S : List Sy} (hS : SyOk S) {Z : List Str} {t : T} (h : WT S Z t) (hz : t.size ≤ 31) : f_law_own [enc t, .lst ((kn S t).map ip)] = some (.lst ((srt (due S t)).map rL)) := by
  have hk := kn_len S t
  have p1 : 2 ^ 15 ≤ 50000 := by decide
  have p2 : 2 ^ (kn S t).length ≤ 2 ^ 15 := Nat.pow_le_pow_right (by decide) (by omega)
  have ls := len_subs (l := kn S t) rfl
  have hkl : (kn S t).length ≤ 100000 := by omega
  have hsl : (subs (kn S t)).length ≤ 100000 := by omega
  obtain ⟨y4, e3⟩ := own_sets (e0 := some (.val (enc t))) (e1 := some (.val (.lst ((kn S t).map ip)))) (e2 := some (.own [])) (e5 := none) (e6 := none) (kn S t) [[]] none 0 (by simp) (by omega) (by simp; omega)
  have e3 : forM' (bndN 4) l1_law_own ((kn S t).map ip) [some (.val (enc t)), some (.val (.lst ((kn S t).map ip))), some (.own []), some (.val (.lst [.lst []])), none, none, none] = some (.nx [some (.val (enc t)), some (.val (.lst ((kn S t).map ip))), some (.own []), some (.val (.lst ((subs (kn S t)).map rL))), y4, none, none]) := e3
  obtain ⟨y5, e4⟩ := own_find hS h (by omega) (e1 := some (.val (.lst ((kn S t).map ip)))) (e3 := some (.val (.lst ((subs (kn S t)).map rL)))) (e4 := y4) (e6 := none) (subs (kn S t)) [] none (fun R m => (mem_subs rfl).mp m) (by simp; omega)
  have e4 : forM' (bndN 5) l2_law_own ((subs (kn S t)).map rL) [some (.val (enc t)), some (.val (.lst ((kn S t).map ip))), some (.own []), some (.val (.lst ((subs (kn S t)).map rL))), y4, none, none] = some (.nx [some (.val (enc t)), some (.val (.lst ((kn S t).map ip))), some (.own ((due S t).map eL)), some (.val (.lst ((subs (kn S t)).map rL))), y4, y5, none]) := e4
  have hd : (due S t).length ≤ 100000 := Nat.le_trans (List.length_filter_le _ _) hsl
  have so := sortD_L hd
  have hd2 : (srt (due S t)).length ≤ 100000 := by rw [srt_len]; exact hd
  have c2 : ∀ e0 e1 e2 e3 e4 e5 : Option Sl, compM (bndN 6) yesM (bind2 (nameV 6) (cI 1) ixD) [e0, e1, e2, e3, e4, e5, none] ((srt (due S t)).map eL) = some ((srt (due S t)).map rL) := fun e0 e1 e2 e3 e4 e5 =>
    mapA fun R _ => ⟨[e0, e1, e2, e3, e4, e5, some (.val (eL R))], rfl, by simp [eL, t21]⟩
  unfold f_law_own m_law_own
  simp [lstF, e3, e4, sortF, so, hd2, c2, retF]
end My

set_option Elab.async false
set_option linter.all false
set_option maxRecDepth 100000
set_option maxHeartbeats 2000000
namespace My
open PySem PySem.Spec PyProof.Rows L2 Dl
/-! ### the same places -/
theorem isi_ii (i : Int) : isiD "int" (.int i) = some (.bl true) := by
  have : kitB "int" "int" = some true := by decide +kernel
  unfold isiD
  rw [if_neg (fun h => nomatch h)]
  show (kitB "int" "int").bind _ = _
  rw [this]
  rfl
theorem isi_ib (i : Int) : isiD "bool" (.int i) = some (.bl false) := by
  have : kitB "int" "bool" = some false := by decide +kernel
  unfold isiD
  rw [if_neg (fun h => nomatch h)]
  show (kitB "int" "bool").bind _ = _
  rw [this]
  rfl
theorem isi_tt (ds : List D) : isiD "tuple" (.tup ds) = some (.bl true) := by
  have : kitB "tuple" "tuple" = some true := by decide +kernel
  unfold isiD
  rw [if_neg (fun h => nomatch h)]
  show (kitB "tuple" "tuple").bind _ = _
  rw [this]
  rfl
theorem whole_ok (i : Int) : f_law_whole [.int i] = some (.bl true) := by
  unfold f_law_whole m_law_whole
  simp [unM, retF, isi_ii, isi_ib]
theorem place_ok {p : Pl} (hp : p.length ≤ 1000) : f_law_same_place [ip p, ip p] = some (.bl true) := by
  have ne := ne_ok ((okd_ip p).mono (m := 64) (by decide)) ((okd_ip p).mono (m := 64) (by decide))
  have e : eqB (ip p) (ip p) = true := by
    unfold eqB
    rw [eqv_ip]
    simp
  rw [e] at ne
  have it : isiD "tuple" (ip p) = some (.bl true) := isi_tt _
  have cm : ∀ e0 e1 : Option Sl, compM (bndN 2) (notM (boolM (callM f_law_whole (consM (nameV 2) nilM)))) (nameV 2) [e0, e1, none] (p.map fun (j : Nat) => D.int (j : Int)) = some [] := fun e0 e1 => by
    have := siftA (g := fun (j : Nat) => D.int (j : Int)) (bnd := bndN 2) (tst := notM (boolM (callM f_law_whole (consM (nameV 2) nilM)))) (elt := nameV 2) (env := [e0, e1, none]) (p := fun _ => false) (f := fun (j : Nat) => D.int (j : Int)) (l := p) fun j _ => ⟨[e0, e1, some (.val (.int (j : Int)))], rfl, by
      simp [whole_ok], fun z => by cases z⟩
    rw [this]
    simp
  have hl : p.length ≤ 100000 := by omega
  have itm : ∀ e1 e2 : Option Sl, itemsA (nameV 0) [some (.val (ip p)), e1, e2] = some (p.map fun (j : Nat) => D.int (j : Int)) := fun _ _ => rfl
  have lc : ∀ e1 e2 : Option Sl, lcM [2] (itemsA (nameV 0)) (bndN 2) (notM (boolM (callM f_law_whole (consM (nameV 2) nilM)))) (nameV 2) [some (.val (ip p)), e1, e2] = some [] := fun e1 e2 => by
    rw [e_lcM, itm]
    show (if (p.map fun (j : Nat) => D.int (j : Int)).length ≤ 100000 then compM _ _ _ [some (.val (ip p)), e1, none] (p.map fun (j : Nat) => D.int (j : Int)) else none) = _
    rw [List.length_map, if_pos hl, cm]
  unfold f_law_same_place m_law_same_place
  simp [-g_lcM, -e_lcM, unM, retF, nextM, it, ne, lc, eqI]
theorem places_same {R : List Pl} (h : Bd R) : f_law_same_places [rT R, rL R] = some (.bl true) := by
  have it : isiD "tuple" (rT R) = some (.bl true) := isi_tt _
  have l1 : lenD [rT R] = some (.int (R.length : Int)) := by
    unfold rT
    simp
  have l2 : lenD [rL R] = some (.int (R.length : Int)) := by
    unfold rL
    simp
  have hl : R.length ≤ 1000 := h.1
  have rg : ∀ e2 : Option Sl, rngM1 (consM (callM lenD (consM (nameV 1) nilM)) nilM) [some (.val (rT R)), some (.val (rL R)), e2] = some (rngD 0 R.length) := fun e2 => by
    unfold rngM1
    simp [l2]
    omega
  have cm : ∀ e2 : Option Sl, compM (bndN 2) (notM (boolM (callM f_law_same_place (consM (bind2 (nameV 0) (nameV 2) ixD) (consM (bind2 (nameV 1) (nameV 2) ixD) nilM))))) (nameV 2) [some (.val (rT R)), some (.val (rL R)), e2] (rngD 0 R.length) = some [] := fun e2 => by
    have := siftA (g := fun (j : Nat) => D.int (0 + (j : Int))) (bnd := bndN 2) (tst := notM (boolM (callM f_law_same_place (consM (bind2 (nameV 0) (nameV 2) ixD) (consM (bind2 (nameV 1) (nameV 2) ixD) nilM))))) (elt := nameV 2) (env := [some (.val (rT R)), some (.val (rL R)), e2]) (p := fun _ => false) (f := fun (j : Nat) => D.int (j : Int)) (l := List.range R.length) fun j hj => ⟨[some (.val (rT R)), some (.val (rL R)), some (.val (.int (0 + (j : Int))))], rfl, by
      have hj : j < R.length := List.mem_range.mp hj
      have a1 : ixD (rT R) (.int (j : Int)) = some (ip R[j]) := by
        have := pick_map ip R hj
        unfold rT
        simpa using this
      have a2 : ixD (rL R) (.int (j : Int)) = some (ip R[j]) := by
        have := pick_map ip R hj
        unfold rL
        simpa using this
      have pk := place_ok (p := R[j]) (h.2 _ (List.getElem_mem hj))
      simp [a1, a2, pk], fun z => by cases z⟩
    unfold rngD
    rw [this]
    simp
  have lc : ∀ e2 : Option Sl, lcM [2] (rngM1 (consM (callM lenD (consM (nameV 1) nilM)) nilM)) (bndN 2) (notM (boolM (callM f_law_same_place (consM (bind2 (nameV 0) (nameV 2) ixD) (consM (bind2 (nameV 1) (nameV 2) ixD) nilM))))) (nameV 2) [some (.val (rT R)), some (.val (rL R)), e2] = some [] := fun e2 => by
    rw [e_lcM, rg]
    show (if (rngD 0 R.length).length ≤ 100000 then compM _ _ _ [some (.val (rT R)), some (.val (rL R)), none] (rngD 0 R.length) else none) = _
    rw [if_pos (by unfold rngD; simp; omega), cm]
  have nn : neD (.int (R.length : Int)) (.int (R.length : Int)) = some (.bl false) := by
    rw [ne_ok okd_int okd_int]
    unfold eqB
    rw [py_int]
    simp [PyData.eqv]
  unfold f_law_same_places m_law_same_places
  simp [-g_lcM, -e_lcM, unM, retF, nextM, it, l1, l2, nn, lc, eqI]
end My

set_option Elab.async false
set_option linter.all false
set_option maxRecDepth 100000
set_option maxHeartbeats 2000000
namespace My
open PySem PySem.Spec PyProof.Rows L2 Dl
/-! ### plain signs -/
def an (c : Nat) : Bool := c == 45 || (decide (48 ≤ c) && decide (c ≤ 57)) || (decide (65 ≤ c) && decide (c ≤ 90)) || (decide (97 ≤ c) && decide (c ≤ 122))
def An (s : Str) : Prop := ∀ c ∈ cs s, an c = true
theorem An.app {s t : Str} (h : An s) (h' : An t) : An (s ++ t) := fun c hc => by
  rw [cs_app, List.mem_append] at hc
  exact hc.elim (h c) (h' c)
theorem An.cut {s : Str} (h : An s) (lo hi : Option Int) : An (cutS s lo hi) := fun c hc => by
  rw [cs_cut] at hc
  exact h c (List.mem_of_mem_drop (List.mem_of_mem_take hc))
theorem an_lit {s : Str} (h : (s.cps.toList.all an) = true) : An s := fun c hc => List.all_eq_true.mp h c hc
theorem an_nt (i : Int) : An (nt i) := fun c hc => by
  by_cases h : an c = true
  · exact h
  · exfalso
    unfold an at h
    simp at h
    exact int_text_free' c ⟨by omega, by omega⟩ i hc
theorem an_cap {r : Int} (h0 : 0 ≤ r) (h1 : r < 26) : An (sg zCaps r) := fun c hc => by
  have h : c = zCaps.cps.toList.getD r.toNat 0 := by simpa [sg, cs] using hc
  have all : ∀ n : Nat, n < 26 → an (zCaps.cps.toList.getD n 0) = true := by decide +kernel
  rw [h]
  exact all r.toNat (by omega)
theorem an_nm {s : Str} (h : NmOk s) : An s := fun c hc => by
  have q : Sg c := h.wd c hc
  unfold an
  rcases q with q | q
  · have q1 := q.1
    have q2 := q.2
    simp
    omega
  · have q1 := q.1
    have q2 := q.2
    simp
    omega
theorem at_strs2 {l : List Str} {n : Nat} (hp : (l.all fun s => decide (s.length ≤ n) && s.cps.toList.all fun c => decide (c < 1114112)) = true) (ha : (l.all fun s => s.cps.toList.all an) = true) {r : Int} (h0 : 0 ≤ r) (h1 : r < l.length) : ∃ s, atI (l.map D.str) r = some (.str s) ∧ SLe n s ∧ An s := by
  obtain ⟨j, rfl⟩ := Int.eq_ofNat_of_zero_le h0
  have hj : j < l.length := by omega
  exact ⟨l[j], at_lit j rfl (by simp [hj]), SLe.lit (List.all_eq_true.mp hp _ (List.getElem_mem hj)), an_lit (List.all_eq_true.mp ha _ (List.getElem_mem hj))⟩
theorem var_body2 {cell : D} {row : List Int} (hf : Fits row vsz) {names : List Str} (hn : names.length ≤ 100) {k : Nat} (hk : k < 8) (x4 x5 x6 x7 : Option Sl) :
    ∃ v y4 y5 y6 y7, (SLe 40 v ∧ An v) ∧ l1_law_variables (venv cell (row.map D.int) names (some (.val (.int (k : Int)))) x4 x5 x6 x7) = some (.nx (venv cell (row.map D.int) (names ++ [v]) (some (.val (.int (k : Int)))) y4 y5 y6 y7)) := by
  obtain ⟨r1, a1, p1, q1⟩ := hf.at 1 (i := 1) rfl rfl
  obtain ⟨r2, a2, p2, q2⟩ := hf.at 2 (i := 2) rfl rfl
  obtain ⟨r, a, p, q⟩ := hf.at (2 + k) (i := 2 + (k : Int)) (s := 15600000) (by omega) (by
    show ([8, 2] ++ List.replicate 8 (15600000 : Int))[2 + k]? = _
    rw [List.getElem?_append_right (by simp)]; rw [List.getElem?_replicate, if_pos (by simp; omega)])
  obtain ⟨c1, c2⟩ := cap_ok r
  obtain ⟨d1, d2⟩ := cap_ok r2
  obtain ⟨t1, t2⟩ := txt_ok p
  have f1 : fdivD (.int r) (.int 6) = some (.int (r / 6)) := fdiv_ok (by decide) (by decide)
  have f2 : fdivD (.int r) (.int 156) = some (.int (r / 156)) := fdiv_ok (by decide) (by decide)
  have f3 : fdivD (.int r2) (.int 6) = some (.int (r2 / 6)) := fdiv_ok (by decide) (by decide)
  obtain ⟨e, e1, e2, e3⟩ := at_strs2 (l := ["", "1", "01", "10", "2", "0", "9", "00001", "11", "001"]) (n := 5) (by decide +kernel) (by decide +kernel) (r := r / 6 % 10) (Int.emod_nonneg _ (by decide)) (Int.emod_lt_of_pos _ (by decide))
  have e1' : atI [D.str "", .str "1", .str "01", .str "10", .str "2", .str "0", .str "9", .str "00001", .str "11", .str "001"] (r / 6 % 10) = some (.str e) := e1
  let v0 : Str := sg zCaps (r / 6 % 26) ++ cutS (nt (100000 + r / 156 % 100000)) (some 1) (some (r % 6 + 1))
  let v1 : Str := sg zCaps (r2 / 6 % 26) ++ e
  have s0 : addD (.str (sg zCaps (r / 6 % 26))) (.str (cutS (nt (100000 + r / 156 % 100000)) (some 1) (some (r % 6 + 1)))) = some (.str v0) := add_str c2 (t2.cut _ _) (by omega)
  have s0' := cut_str t2 (by omega) (some 1) (some (r % 6 + 1))
  have s1 : addD (.str (sg zCaps (r2 / 6 % 26))) (.str e) = some (.str v1) := add_str d2 e2 (by omega)
  have b0 : SLe 40 v0 ∧ An v0 := ⟨(c2.append (t2.cut _ _)).mono (by omega), (an_cap (Int.emod_nonneg _ (by decide)) (Int.emod_lt_of_pos _ (by decide))).app ((an_nt _).cut _ _)⟩
  have b1 : SLe 40 v1 ∧ An v1 := ⟨(d2.append e2).mono (by omega), (an_cap (Int.emod_nonneg _ (by decide)) (Int.emod_lt_of_pos _ (by decide))).app e3⟩
  have hl : names.length < 100000 := by omega
  by_cases g1 : r1 = 1
  · subst g1
    refine ⟨v1, some (.val (.int r)), some (.val (.str (sg zCaps (r / 6 % 26)))), some (.val (.str v1)), some (.val (.str (sg zCaps (r2 / 6 % 26)))), b1, ?_⟩
    unfold l1_law_variables venv
    simp [a1, a2, a, c1, d1, t1, f1, f2, f3, e1', s0, s0', s1, e_mod, eqI, beqI, hl]
  · refine ⟨v0, some (.val (.int r)), some (.val (.str (sg zCaps (r / 6 % 26)))), some (.val (.str v0)), x7, b0, ?_⟩
    unfold l1_law_variables venv
    simp [a1, a2, a, c1, t1, f1, f2, s0, s0', e_mod, eqI, beqI, hl, g1, nextM]
theorem var_loop2 {cell : D} {row : List Int} (hf : Fits row vsz) : ∀ (ks : List Nat) (names : List Str) (x3 x4 x5 x6 x7 : Option Sl), (∀ k ∈ ks, k < 8) → names.length + ks.length ≤ 100 →
    ∃ vs y3 y4 y5 y6 y7, vs.length = ks.length ∧ (∀ v ∈ vs, SLe 40 v ∧ An v) ∧ forM' (bndN 3) l1_law_variables (ks.map fun (k : Nat) => D.int (k : Int)) (venv cell (row.map D.int) names x3 x4 x5 x6 x7) = some (.nx (venv cell (row.map D.int) (names ++ vs) y3 y4 y5 y6 y7))
  | [], names, x3, x4, x5, x6, x7, _, _ => ⟨[], x3, x4, x5, x6, x7, rfl, by simp, by rw [List.append_nil]; rfl⟩
  | k :: ks, names, x3, x4, x5, x6, x7, hk, hl => by
    have hl' : names.length + (ks.length + 1) ≤ 100 := hl
    obtain ⟨v, y4, y5, y6, y7, hv, e⟩ := var_body2 (cell := cell) hf (names := names) (by omega) (hk k (List.mem_cons_self ..)) x4 x5 x6 x7
    obtain ⟨vs, z3, z4, z5, z6, z7, h1, h2, h3⟩ := var_loop2 hf ks (names ++ [v]) (some (.val (.int (k : Int)))) y4 y5 y6 y7 (fun j hj => hk j (List.mem_cons_of_mem _ hj)) (by rw [List.length_append]; simp; omega)
    refine ⟨v :: vs, z3, z4, z5, z6, z7, by simp [h1], fun w hw => ?_, ?_⟩
    · rcases List.mem_cons.mp hw with rfl | hw
      · exact hv
      · exact h2 w hw
    · rw [List.map_cons, for_cons]
      have : bndN 3 (.int (k : Int)) (venv cell (row.map D.int) names x3 x4 x5 x6 x7) = some (venv cell (row.map D.int) names (some (.val (.int (k : Int)))) x4 x5 x6 x7) := rfl
      rw [this]
      simp only [Option.bind_some]
      rw [e]
      simp only [Option.bind_some]
      rw [h3]
      simp
theorem variables_ok2 (c : Int) : ∃ vs : List Str, f_law_variables [.int c] = some (.lst (vs.map D.str)) ∧ 1 ≤ vs.length ∧ vs.length ≤ 8 ∧ ∀ v ∈ vs, SLe 40 v ∧ An v := by
  obtain ⟨row, hf, hd⟩ := digits_ok c vsz (sizes_ok (by decide)) (by decide)
  obtain ⟨r0, a0, p0, q0⟩ := hf.at 0 (i := 0) rfl rfl
  obtain ⟨m, hm, hp⟩ := at_list (l := [3, 1, 4, 2, 3, 2, 6, 8]) (p := fun m => decide (1 ≤ m) && decide (m ≤ 8)) (by decide) p0 q0
  rw [Bool.and_eq_true] at hp
  have m0 := of_decide_eq_true hp.1
  have m1 := of_decide_eq_true hp.2
  obtain ⟨many, rfl⟩ := Int.eq_ofNat_of_zero_le (show 0 ≤ m by omega)
  have hm' : atI [D.int 3, .int 1, .int 4, .int 2, .int 3, .int 2, .int 6, .int 8] r0 = some (.int (many : Int)) := hm
  have hr : (many : Int) ≤ 1000000 ∧ -1000000 ≤ (many : Int) := by omega
  obtain ⟨vs, y3, y4, y5, y6, y7, h1, h2, h3⟩ := var_loop2 (cell := .int c) hf (List.range many) [] none none none none none (fun k hk => by have := List.mem_range.mp hk; omega) (by simp; omega)
  have hx : ((List.range many).map fun (k : Nat) => D.int (k : Int)) = rngD 0 many := by unfold rngD; simp
  rw [hx] at h3
  rw [List.length_range] at h1
  refine ⟨vs, ?_, by omega, by omega, h2⟩
  unfold f_law_variables m_law_variables
  simp only [szM3]
  unfold venv at h3
  simp [hd, a0, hm', hr] at h3 ⊢
  simp [h3, retF]
end My

set_option Elab.async false
set_option linter.all false
set_option maxRecDepth 100000
set_option maxHeartbeats 2000000
namespace My
open PySem PySem.Spec PyProof.Rows L2 Dl
/-! ### a term's text -/
theorem an_char : ∀ c : Nat, c < 123 → an c = true → Builtin.Str.reprChar 39 c = [c] := by decide +kernel
theorem an_lt {c : Nat} (h : an c = true) : c < 123 := by
  unfold an at h
  simp at h
  omega
theorem an_39 {c : Nat} (h : an c = true) : c ≠ 39 := fun e => by
  subst e
  revert h
  decide
theorem fold_plain : ∀ (l : List Nat) (a : Array Nat), (∀ c ∈ l, an c = true) → (l.foldl (fun out c => out ++ (Builtin.Str.reprChar 39 c).toArray) a).toList = a.toList ++ l
  | [], a, _ => by simp
  | c :: l, a, h => by
    have hc := h c (List.mem_cons_self ..)
    rw [List.foldl_cons, fold_plain l _ fun d hd => h d (List.mem_cons_of_mem _ hd), an_char c (an_lt hc) hc]
    simp
theorem cs_repr {s : Str} (h : An s) : cs (reprText s) = 39 :: (cs s ++ [39]) := by
  have q : reprQuote s = 39 := by
    unfold reprQuote
    rw [if_neg]
    intro z
    rw [Bool.and_eq_true] at z
    have : (39 : Nat) ∈ s.cps := by simpa using z.1
    exact an_39 (h 39 (by simpa [cs] using this)) rfl
  unfold reprText
  rw [q, ← Array.foldl_toList]
  show ((s.cps.toList.foldl (fun out c => out ++ (Builtin.Str.reprChar 39 c).toArray) #[39]).push 39).toList = _
  rw [Array.toList_push, fold_plain _ _ h]
  rfl
def sh : T → List Nat
  | .v s => 39 :: (cs s ++ [39])
  | .c f => 40 :: 39 :: (cs f ++ [39, 44, 41])
  | .u f t => 40 :: 39 :: (cs f ++ 39 :: 44 :: 32 :: (sh t ++ [41]))
  | .b f s t => 40 :: 39 :: (cs f ++ 39 :: 44 :: 32 :: (sh s ++ 44 :: 32 :: (sh t ++ [41])))
theorem shown_str (s : Str) : (PyData.str s).shown = reprText s := by rw [PyData.shown]
theorem shown_tup (ds : List PyData) : (PyData.tuple ds).shown = tupleText (PyData.shownAll ds) := by rw [PyData.shown]
theorem l40 : cs (("(" : String) : Str) = [40] := rfl
theorem l4441 : cs ((",)" : String) : Str) = [44, 41] := rfl
theorem l41 : cs ((")" : String) : Str) = [41] := rfl
theorem l4432 : cs ((", " : String) : Str) = [44, 32] := rfl
theorem tt1 (a : Str) : cs (tupleText [a]) = 40 :: (cs a ++ [44, 41]) := by
  show cs (("(" : Str) ++ a ++ ((",)" : String) : Str)) = _
  rw [cs_app, cs_app, l40, l4441]
  rfl
theorem tt2 (a b : Str) : cs (tupleText [a, b]) = 40 :: (cs a ++ 44 :: 32 :: (cs b ++ [41])) := by
  show cs (("(" : Str) ++ (a ++ ((", " : String) : Str) ++ b) ++ ((")" : String) : Str)) = _
  rw [cs_app, cs_app, cs_app, cs_app, l40, l41, l4432]
  simp
theorem tt3 (a b d : Str) : cs (tupleText [a, b, d]) = 40 :: (cs a ++ 44 :: 32 :: (cs b ++ 44 :: 32 :: (cs d ++ [41]))) := by
  show cs (("(" : Str) ++ (a ++ ((", " : String) : Str) ++ (b ++ ((", " : String) : Str) ++ d)) ++ ((")" : String) : Str)) = _
  rw [cs_app, cs_app, cs_app, cs_app, cs_app, cs_app, l40, l41, l4432]
  simp
section
variable {S : List Sy} {Z : List Str} (hS : SyOk S) (hZ : ∀ s ∈ Z, An s)
include hS hZ
theorem cs_shown : ∀ {t : T}, WT S Z t → cs (enc t).py.shown = sh t
  | .v s, h => by
    show cs (D.str s).py.shown = _
    rw [py_str, shown_str, cs_repr (hZ s h.2)]
    rfl
  | .c f, h => by
    have hn := an_nm (Has.nm hS h)
    show cs (D.tup [.str f]).py.shown = _
    rw [py_tup, pyL_cons, pyL_nil, py_str, shown_tup, PyData.shownAll, PyData.shownAll, tt1, shown_str, cs_repr hn]
    simp [sh]
  | .u f t, h => by
    have hn := an_nm (Has.nm hS h.1)
    have ih := cs_shown h.2
    show cs (D.tup [.str f, enc t]).py.shown = _
    rw [py_tup, pyL_cons, pyL_cons, pyL_nil, py_str, shown_tup, PyData.shownAll, PyData.shownAll, PyData.shownAll, tt2, shown_str, cs_repr hn, ih]
    simp [sh]
  | .b f s t, h => by
    have hn := an_nm (Has.nm hS h.1)
    have i1 := cs_shown h.2.1
    have i2 := cs_shown h.2.2
    show cs (D.tup [.str f, enc s, enc t]).py.shown = _
    rw [py_tup, pyL_cons, pyL_cons, pyL_cons, pyL_nil, py_str, shown_tup, PyData.shownAll, PyData.shownAll, PyData.shownAll, PyData.shownAll, tt3, shown_str, cs_repr hn, i1, i2]
    simp [sh]
omit hS hZ in
theorem till39 : ∀ {a b p q : List Nat}, (∀ c ∈ a, an c = true) → (∀ c ∈ b, an c = true) → a ++ 39 :: p = b ++ 39 :: q → a = b ∧ p = q
  | [], [], p, q, _, _, h => by
    injection h with _ h
    exact ⟨rfl, h⟩
  | [], c :: b, p, q, _, hb, h => by
    injection h with h _
    exact absurd h.symm (an_39 (hb c (List.mem_cons_self ..)))
  | c :: a, [], p, q, ha, _, h => by
    injection h with h _
    exact absurd h (an_39 (ha c (List.mem_cons_self ..)))
  | c :: a, d :: b, p, q, ha, hb, h => by
    injection h with h1 h2
    obtain ⟨e1, e2⟩ := till39 (a := a) (b := b) (fun x hx => ha x (List.mem_cons_of_mem _ hx)) (fun x hx => hb x (List.mem_cons_of_mem _ hx)) h2
    exact ⟨by rw [h1, e1], e2⟩
theorem sh_inj : ∀ {a b : T} {p q : List Nat}, WT S Z a → WT S Z b → sh a ++ p = sh b ++ q → a = b ∧ p = q
  | .v s, .v t, p, q, ha, hb, h => by
    have h : 39 :: (cs s ++ [39]) ++ p = 39 :: (cs t ++ [39]) ++ q := h
    injection h with _ h
    have h : (cs s ++ [39]) ++ p = (cs t ++ [39]) ++ q := h
    rw [List.append_assoc, List.append_assoc] at h
    obtain ⟨e1, e2⟩ := till39 (hZ s ha.2) (hZ t hb.2) h
    exact ⟨by rw [cs_inj e1], e2⟩
  | .v s, .c g, p, q, ha, hb, h => by
    injection h with h _
    cases h
  | .v s, .u g t, p, q, ha, hb, h => by
    injection h with h _
    cases h
  | .v s, .b g t t', p, q, ha, hb, h => by
    injection h with h _
    cases h
  | .c g, .v s, p, q, ha, hb, h => by
    injection h with h _
    cases h
  | .u g t, .v s, p, q, ha, hb, h => by
    injection h with h _
    cases h
  | .b g t t', .v s, p, q, ha, hb, h => by
    injection h with h _
    cases h
  | .c f, .c g, p, q, ha, hb, h => by
    have h : (40 :: 39 :: (cs f ++ [39, 44, 41])) ++ p = (40 :: 39 :: (cs g ++ [39, 44, 41])) ++ q := h
    injection h with _ h
    injection h with _ h
    have h : (cs f ++ [39, 44, 41]) ++ p = (cs g ++ [39, 44, 41]) ++ q := h
    rw [List.append_assoc, List.append_assoc] at h
    obtain ⟨e1, e2⟩ := till39 (an_nm (Has.nm hS ha)) (an_nm (Has.nm hS hb)) h
    injection e2 with _ e2
    injection e2 with _ e2
    exact ⟨by rw [cs_inj e1], e2⟩
  | .c f, .u g t, p, q, ha, hb, h => by
    have h : (40 :: 39 :: (cs f ++ [39, 44, 41])) ++ p = (40 :: 39 :: (cs g ++ 39 :: 44 :: 32 :: (sh t ++ [41]))) ++ q := h
    injection h with _ h
    injection h with _ h
    have h : (cs f ++ [39, 44, 41]) ++ p = (cs g ++ 39 :: 44 :: 32 :: (sh t ++ [41])) ++ q := h
    rw [List.append_assoc, List.append_assoc] at h
    obtain ⟨e1, e2⟩ := till39 (an_nm (Has.nm hS ha)) (an_nm (Has.nm hS hb.1)) h
    injection e2 with _ e2
    injection e2 with e2
    cases e2
  | .c f, .b g t t', p, q, ha, hb, h => by
    have h : (40 :: 39 :: (cs f ++ [39, 44, 41])) ++ p = (40 :: 39 :: (cs g ++ 39 :: 44 :: 32 :: (sh t ++ 44 :: 32 :: (sh t' ++ [41])))) ++ q := h
    injection h with _ h
    injection h with _ h
    have h : (cs f ++ [39, 44, 41]) ++ p = (cs g ++ 39 :: 44 :: 32 :: (sh t ++ 44 :: 32 :: (sh t' ++ [41]))) ++ q := h
    rw [List.append_assoc, List.append_assoc] at h
    obtain ⟨e1, e2⟩ := till39 (an_nm (Has.nm hS ha)) (an_nm (Has.nm hS hb.1)) h
    injection e2 with _ e2
    injection e2 with e2
    cases e2
  | .u g t, .c f, p, q, hb, ha, h => by
    have h : (40 :: 39 :: (cs g ++ 39 :: 44 :: 32 :: (sh t ++ [41]))) ++ p = (40 :: 39 :: (cs f ++ [39, 44, 41])) ++ q := h
    injection h with _ h
    injection h with _ h
    have h : (cs g ++ 39 :: 44 :: 32 :: (sh t ++ [41])) ++ p = (cs f ++ [39, 44, 41]) ++ q := h
    rw [List.append_assoc, List.append_assoc] at h
    obtain ⟨e1, e2⟩ := till39 (an_nm (Has.nm hS hb.1)) (an_nm (Has.nm hS ha)) h
    injection e2 with _ e2
    injection e2 with e2
    cases e2
  | .b g t t', .c f, p, q, hb, ha, h => by
    have h : (40 :: 39 :: (cs g ++ 39 :: 44 :: 32 :: (sh t ++ 44 :: 32 :: (sh t' ++ [41])))) ++ p = (40 :: 39 :: (cs f ++ [39, 44, 41])) ++ q := h
    injection h with _ h
    injection h with _ h
    have h : (cs g ++ 39 :: 44 :: 32 :: (sh t ++ 44 :: 32 :: (sh t' ++ [41]))) ++ p = (cs f ++ [39, 44, 41]) ++ q := h
    rw [List.append_assoc, List.append_assoc] at h
    obtain ⟨e1, e2⟩ := till39 (an_nm (Has.nm hS hb.1)) (an_nm (Has.nm hS ha)) h
    injection e2 with _ e2
    injection e2 with e2
    cases e2
  | .u f t, .u g t', p, q, ha, hb, h => by
    have h : (40 :: 39 :: (cs f ++ 39 :: 44 :: 32 :: (sh t ++ [41]))) ++ p = (40 :: 39 :: (cs g ++ 39 :: 44 :: 32 :: (sh t' ++ [41]))) ++ q := h
    injection h with _ h
    injection h with _ h
    have h : (cs f ++ 39 :: 44 :: 32 :: (sh t ++ [41])) ++ p = (cs g ++ 39 :: 44 :: 32 :: (sh t' ++ [41])) ++ q := h
    rw [List.append_assoc, List.append_assoc] at h
    obtain ⟨e1, e2⟩ := till39 (an_nm (Has.nm hS ha.1)) (an_nm (Has.nm hS hb.1)) h
    injection e2 with _ e2
    injection e2 with _ e2
    have e2 : (sh t ++ [41]) ++ p = (sh t' ++ [41]) ++ q := e2
    rw [List.append_assoc, List.append_assoc] at e2
    obtain ⟨e3, e4⟩ := sh_inj ha.2 hb.2 e2
    injection e4 with _ e4
    exact ⟨by rw [cs_inj e1, e3], e4⟩
  | .u f t, .b g s' t', p, q, ha, hb, h => by
    have h : (40 :: 39 :: (cs f ++ 39 :: 44 :: 32 :: (sh t ++ [41]))) ++ p = (40 :: 39 :: (cs g ++ 39 :: 44 :: 32 :: (sh s' ++ 44 :: 32 :: (sh t' ++ [41])))) ++ q := h
    injection h with _ h
    injection h with _ h
    have h : (cs f ++ 39 :: 44 :: 32 :: (sh t ++ [41])) ++ p = (cs g ++ 39 :: 44 :: 32 :: (sh s' ++ 44 :: 32 :: (sh t' ++ [41]))) ++ q := h
    rw [List.append_assoc, List.append_assoc] at h
    obtain ⟨e1, e2⟩ := till39 (an_nm (Has.nm hS ha.1)) (an_nm (Has.nm hS hb.1)) h
    injection e2 with _ e2
    injection e2 with _ e2
    have e2 : (sh t ++ [41]) ++ p = (sh s' ++ 44 :: 32 :: (sh t' ++ [41])) ++ q := e2
    rw [List.append_assoc, List.append_assoc] at e2
    obtain ⟨e3, e4⟩ := sh_inj ha.2 hb.2.1 e2
    injection e4 with e4
    cases e4
  | .b g s' t', .u f t, p, q, hb, ha, h => by
    have h : (40 :: 39 :: (cs g ++ 39 :: 44 :: 32 :: (sh s' ++ 44 :: 32 :: (sh t' ++ [41])))) ++ p = (40 :: 39 :: (cs f ++ 39 :: 44 :: 32 :: (sh t ++ [41]))) ++ q := h
    injection h with _ h
    injection h with _ h
    have h : (cs g ++ 39 :: 44 :: 32 :: (sh s' ++ 44 :: 32 :: (sh t' ++ [41]))) ++ p = (cs f ++ 39 :: 44 :: 32 :: (sh t ++ [41])) ++ q := h
    rw [List.append_assoc, List.append_assoc] at h
    obtain ⟨e1, e2⟩ := till39 (an_nm (Has.nm hS hb.1)) (an_nm (Has.nm hS ha.1)) h
    injection e2 with _ e2
    injection e2 with _ e2
    have e2 : (sh s' ++ 44 :: 32 :: (sh t' ++ [41])) ++ p = (sh t ++ [41]) ++ q := e2
    rw [List.append_assoc, List.append_assoc] at e2
    obtain ⟨e3, e4⟩ := sh_inj hb.2.1 ha.2 e2
    injection e4 with e4
    cases e4
  | .b f s t, .b g s' t', p, q, ha, hb, h => by
    have h : (40 :: 39 :: (cs f ++ 39 :: 44 :: 32 :: (sh s ++ 44 :: 32 :: (sh t ++ [41])))) ++ p = (40 :: 39 :: (cs g ++ 39 :: 44 :: 32 :: (sh s' ++ 44 :: 32 :: (sh t' ++ [41])))) ++ q := h
    injection h with _ h
    injection h with _ h
    have h : (cs f ++ 39 :: 44 :: 32 :: (sh s ++ 44 :: 32 :: (sh t ++ [41]))) ++ p = (cs g ++ 39 :: 44 :: 32 :: (sh s' ++ 44 :: 32 :: (sh t' ++ [41]))) ++ q := h
    rw [List.append_assoc, List.append_assoc] at h
    obtain ⟨e1, e2⟩ := till39 (an_nm (Has.nm hS ha.1)) (an_nm (Has.nm hS hb.1)) h
    injection e2 with _ e2
    injection e2 with _ e2
    have e2 : (sh s ++ 44 :: 32 :: (sh t ++ [41])) ++ p = (sh s' ++ 44 :: 32 :: (sh t' ++ [41])) ++ q := e2
    rw [List.append_assoc, List.append_assoc] at e2
    obtain ⟨e3, e4⟩ := sh_inj ha.2.1 hb.2.1 e2
    injection e4 with _ e4
    injection e4 with _ e4
    have e4 : (sh t ++ [41]) ++ p = (sh t' ++ [41]) ++ q := e4
    rw [List.append_assoc, List.append_assoc] at e4
    obtain ⟨e5, e6⟩ := sh_inj ha.2.2 hb.2.2 e4
    injection e6 with _ e6
    exact ⟨by rw [cs_inj e1, e3, e5], e6⟩
theorem sh_eq {a b : T} (ha : WT S Z a) (hb : WT S Z b) (h : sh a = sh b) : a = b :=
  (sh_inj hS hZ (p := []) (q := []) ha hb (by rw [h])).1
omit hZ in
theorem sh_len : ∀ {t : T}, WT S Z t → (sh t).length ≤ 50 * t.size
  | .v s, h => by
    have := h.1.len
    show (39 :: (cs s ++ [39])).length ≤ 50 * 1
    rw [List.length_cons, List.length_append, cs_len, List.length_singleton]
    omega
  | .c f, h => by
    have := (Has.nm hS h).len
    show (40 :: 39 :: (cs f ++ [39, 44, 41])).length ≤ 50 * 1
    rw [List.length_cons, List.length_cons, List.length_append, cs_len]
    simp
    omega
  | .u f t, h => by
    have h8 : f.cps.size ≤ 8 := (Has.nm hS h.1).len
    have ih := sh_len h.2
    show (40 :: 39 :: (cs f ++ 39 :: 44 :: 32 :: (sh t ++ [41]))).length ≤ 50 * (1 + t.size)
    simp [cs_len]
    omega
  | .b f s t, h => by
    have h8 : f.cps.size ≤ 8 := (Has.nm hS h.1).len
    have i1 := sh_len h.2.1
    have i2 := sh_len h.2.2
    show (40 :: 39 :: (cs f ++ 39 :: 44 :: 32 :: (sh s ++ 44 :: 32 :: (sh t ++ [41])))).length ≤ 50 * (1 + s.size + t.size)
    simp [cs_len]
    omega
omit hS hZ in
theorem showable_enc : ∀ t : T, (enc t).py.showable = true
  | .v s => by
    show (D.str s).py.showable = true
    rw [py_str, PyData.showable]
  | .c f => by
    show (D.tup [.str f]).py.showable = true
    rw [py_tup, pyL_cons, pyL_nil, py_str, PyData.showable, PyData.showableAll, PyData.showableAll, PyData.showable]
    rfl
  | .u f t => by
    have ih := showable_enc t
    show (D.tup [.str f, enc t]).py.showable = true
    rw [py_tup, pyL_cons, pyL_cons, pyL_nil, py_str, PyData.showable, PyData.showableAll, PyData.showableAll, PyData.showableAll, PyData.showable, ih]
    rfl
  | .b f s t => by
    have i1 := showable_enc s
    have i2 := showable_enc t
    show (D.tup [.str f, enc s, enc t]).py.showable = true
    rw [py_tup, pyL_cons, pyL_cons, pyL_cons, pyL_nil, py_str, PyData.showable, PyData.showableAll, PyData.showableAll, PyData.showableAll, PyData.showableAll, PyData.showable, i1, i2]
    rfl
theorem repr_ok {t : T} (h : WT S Z t) (hz : t.size ≤ 50) : reprD [enc t] = some (.str (mk (sh t))) := by
  have ok := enc_ok hS h hz
  have e := cs_shown hS hZ h
  have l := sh_len hS h
  have es : (enc t).py.shown = mk (sh t) := cs_inj e
  have ln : (enc t).py.shown.length ≤ 100000 := by
    rw [← cs_len, e]
    omega
  show (if reprOk (enc t).py then some (D.str (enc t).py.shown) else none) = _
  rw [if_pos (show reprOk (enc t).py from ⟨ok.lay, showable_enc t, ok.dep, ln⟩), es]
end
end My

set_option Elab.async false
set_option linter.all false
set_option maxRecDepth 100000
set_option maxHeartbeats 2000000
namespace My
open PySem PySem.Spec PyProof.Rows L2 Dl
/-! ### the law's forms -/
def fm (S : List Sy) : T → T
  | .v s => .v s
  | .c f => .c f
  | .u f t => .u f (fm S t)
  | .b f s t => if f ∈ twos S ∧ sh (fm S t) < sh (fm S s) then .b f (fm S t) (fm S s) else .b f (fm S s) (fm S t)
theorem trn_fm (S : List Sy) : ∀ t : T, Trn S t (fm S t)
  | .v s => .v s
  | .c f => .c f
  | .u f t => .u f (trn_fm S t)
  | .b f s t => by
    have h1 := trn_fm S s
    have h2 := trn_fm S t
    show Trn S (.b f s t) (if f ∈ twos S ∧ sh (fm S t) < sh (fm S s) then .b f (fm S t) (fm S s) else .b f (fm S s) (fm S t))
    split
    · rename_i h
      exact .w f h.1 h1 h2
    · exact .b f h1 h2
section
variable {S : List Sy} {Z : List Str} (hS : SyOk S) (hZ : ∀ s ∈ Z, An s)
include hS hZ
theorem fm_turn {t x : T} (h : Trn S t x) : WT S Z t → fm S x = fm S t := by
  induction h with
  | v s => exact fun _ => rfl
  | c f => exact fun _ => rfl
  | u f _ ih =>
    intro w
    show T.u f _ = T.u f _
    rw [ih w.2]
  | @b f s t s' t' _ _ i1 i2 =>
    intro w
    show (if f ∈ twos S ∧ sh (fm S t') < sh (fm S s') then T.b f (fm S t') (fm S s') else .b f (fm S s') (fm S t')) = if f ∈ twos S ∧ sh (fm S t) < sh (fm S s) then T.b f (fm S t) (fm S s) else .b f (fm S s) (fm S t)
    rw [i1 w.2.1, i2 w.2.2]
  | @w f s t s' t' hf _ _ i1 i2 =>
    intro w
    have w1 := trn_wt (trn_fm S s) w.2.1
    have w2 := trn_wt (trn_fm S t) w.2.2
    show (if f ∈ twos S ∧ sh (fm S s') < sh (fm S t') then T.b f (fm S s') (fm S t') else .b f (fm S t') (fm S s')) = if f ∈ twos S ∧ sh (fm S t) < sh (fm S s) then T.b f (fm S t) (fm S s) else .b f (fm S s) (fm S t)
    rw [i1 w.2.1, i2 w.2.2]
    by_cases h1 : sh (fm S t) < sh (fm S s)
    · have h2 : ¬ sh (fm S s) < sh (fm S t) := fun z => List.lt_asymm h1 z
      rw [if_neg fun z => h2 z.2, if_pos ⟨hf, h1⟩]
    · by_cases h2 : sh (fm S s) < sh (fm S t)
      · rw [if_pos ⟨hf, h2⟩, if_neg fun z => h1 z.2]
      · have e : fm S s = fm S t := sh_eq hS hZ w1 w2 (List.le_antisymm h1 h2)
        rw [if_neg fun z => h2 z.2, if_neg fun z => h1 z.2, e]
theorem fm_iff {a b : T} (ha : WT S Z a) (hb : WT S Z b) : fm S a = fm S b ↔ mf S a = mf S b := by
  constructor
  · intro e
    have h1 := mf_eq hS (trn_fm S a) ha
    have h2 := mf_eq hS (trn_fm S b) hb
    rw [← h1, ← h2, e]
  · intro e
    exact fm_turn hS hZ (trn_of e) hb
theorem form_ok : ∀ (t : T) (k : Nat), WT S Z t → t.size ≤ k → t.size ≤ 50 → f_law_form_ k [.lst ((twos S).map D.str), enc t] = some (enc (fm S t))
  | .v s, k, h, hk, h64 => by
    obtain ⟨k, rfl⟩ : ∃ k', k = k' + 1 := ⟨k - 1, by have : 1 ≤ k := hk; omega⟩
    show bodyM 2 4 (m_law_form (f_law_form_ k)) _ = _
    unfold m_law_form
    simp [enc, isi_str, unM, retF, fm]
  | .c f, k, h, hk, h64 => by
    obtain ⟨k, rfl⟩ : ∃ k', k = k' + 1 := ⟨k - 1, by have : 1 ≤ k := hk; omega⟩
    have hf : f ∉ twos S := fun hf => by have := two_two hS hf h; omega
    show bodyM 2 4 (m_law_form (f_law_form_ k)) _ = _
    unfold m_law_form
    simp [enc, isi_tup, unM, retF, fm, cut_tail, compM, a0, in_strs, hf, addD, tupleD, nextM]
  | .u f t, k, h, hk, h64 => by
    have h1 : 1 + t.size ≤ k := hk
    have h2 : 1 + t.size ≤ 50 := h64
    obtain ⟨k, rfl⟩ : ∃ k', k = k' + 1 := ⟨k - 1, by omega⟩
    have hf : f ∉ twos S := fun hf => by have := two_two hS hf h.1; omega
    have ih := form_ok t k h.2 (by omega) (by omega)
    show bodyM 2 4 (m_law_form (f_law_form_ k)) _ = _
    unfold m_law_form
    simp [enc, isi_tup, unM, retF, fm, cut_tail, compM, a0, in_strs, hf, addD, tupleD, nextM, ih]
  | .b f s t, k, h, hk, h64 => by
    have h1 : 1 + s.size + t.size ≤ k := hk
    have h2 : 1 + s.size + t.size ≤ 50 := h64
    obtain ⟨k, rfl⟩ : ∃ k', k = k' + 1 := ⟨k - 1, by omega⟩
    have ih1 := form_ok s k h.2.1 (by omega) (by omega)
    have ih2 := form_ok t k h.2.2 (by omega) (by omega)
    have w1 := trn_wt (trn_fm S s) h.2.1
    have w2 := trn_wt (trn_fm S t) h.2.2
    have r1 := repr_ok hS hZ w1 (by rw [trn_size (trn_fm S s)]; omega)
    have r2 := repr_ok hS hZ w2 (by rw [trn_size (trn_fm S t)]; omega)
    have lt := ltS (mk (sh (fm S t))) (mk (sh (fm S s)))
    rw [cs_mk, cs_mk] at lt
    have em : fm S (.b f s t) = if f ∈ twos S ∧ sh (fm S t) < sh (fm S s) then .b f (fm S t) (fm S s) else .b f (fm S s) (fm S t) := rfl
    rw [em]
    show bodyM 2 4 (m_law_form (f_law_form_ k)) _ = _
    unfold m_law_form
    by_cases hf : f ∈ twos S
    · by_cases hc : sh (fm S t) < sh (fm S s)
      · simp [enc, isi_tup, unM, retF, cut_tail, compM, a0, t20, t21, in_strs, hf, addD, tupleD, nextM, ih1, ih2, r1, r2, lt, hc]
      · simp [enc, isi_tup, unM, retF, cut_tail, compM, a0, t20, t21, in_strs, hf, addD, tupleD, nextM, ih1, ih2, r1, r2, lt, hc]
    · simp [enc, isi_tup, unM, retF, cut_tail, compM, a0, t20, t21, in_strs, hf, addD, tupleD, nextM, ih1, ih2]
/-! ### the law's two-way places, even ones -/
omit hZ in
theorem crossed_ok {t : T} (h : WT S Z t) (hz : t.size ≤ 64) : f_law_crossed [.lst ((twos S).map D.str), enc t] = some (.lst ((cx S t).map (pe []))) := by
  have pk : f_law_places [enc t, .tup []] = some (.lst ((pl t).map (pe []))) := places_ok t 64 [] hz (by simp; omega)
  have hl : (pl t).length ≤ 100000 := by rw [pl_len]; omega
  have cm : compM (bndN 2) (andM (notM (boolM (unM (isiD "str") (bind2 (nameV 2) (cI 1) ixD)))) (boolM (bind2 (bind2 (bind2 (nameV 2) (cI 1) ixD) (cI 0) ixD) (nameV 0) inD))) (nameV 2) [some (.val (.lst ((twos S).map D.str))), some (.val (enc t)), none] ((pl t).map (pe [])) = some (((pl t).filter fun x => isX S x.2).map (pe [])) :=
    siftA fun x hx => ⟨[some (.val (.lst ((twos S).map D.str))), some (.val (enc t)), some (.val (pe [] x))], rfl, by
      obtain ⟨w, _⟩ := pl_in h x hx
      obtain ⟨p, y⟩ := x
      cases y with
      | v s => simp [pe, t21, enc, unM, isi_str, isX]
      | c f =>
        have hf : f ∉ twos S := fun hf => by have := two_two hS hf w; omega
        simp [pe, t21, a0, enc, unM, isi_tup, isX, in_strs, hf]
      | u f t =>
        have hf : f ∉ twos S := fun hf => by have := two_two hS hf w.1; omega
        simp [pe, t21, a0, enc, unM, isi_tup, isX, in_strs, hf]
      | b f s t => simp [pe, t21, a0, enc, unM, isi_tup, isX, in_strs], fun _ => rfl⟩
  unfold f_law_crossed m_law_crossed
  simp [pk, hl, cm, retF]
  rfl
theorem even_ok {t : T} (h : WT S Z t) (hz : t.size ≤ 50) : ∃ ds : List D, f_law_even [.lst ((twos S).map D.str), enc t] = some (.lst ds) ∧ ds.length = ev S t := by
  have ck := crossed_ok hS h (by omega)
  have hl : (cx S t).length ≤ 100000 := Nat.le_trans (List.length_filter_le _ _) (by rw [pl_len]; omega)
  have cm : ∀ e2 : Option Sl, compM (bndN 3) (boolM (bind2 (callM f_law_form (consM (nameV 0) (consM (bind2 (bind2 (nameV 3) (cI 1) ixD) (cI 1) ixD) nilM))) (callM f_law_form (consM (nameV 0) (consM (bind2 (bind2 (nameV 3) (cI 1) ixD) (cI 2) ixD) nilM))) eqD)) (bind2 (nameV 3) (cI 0) ixD) [some (.val (.lst ((twos S).map D.str))), some (.val (enc t)), e2, none] ((cx S t).map (pe [])) = some (((cx S t).filter fun x => evX S x.2).map fun x => ip x.1) := fun e2 =>
    siftA fun x hx => ⟨[some (.val (.lst ((twos S).map D.str))), some (.val (enc t)), e2, some (.val (pe [] x))], rfl, by
      obtain ⟨hx1, hx2⟩ := List.mem_filter.mp hx
      obtain ⟨w, z⟩ := pl_in h x hx1
      obtain ⟨p, y⟩ := x
      cases y with
      | v s => cases hx2
      | c f => cases hx2
      | u f t => cases hx2
      | b f a b =>
        have z : p.length + (1 + a.size + b.size) ≤ t.size := z
        have f1 : f_law_form [.lst ((twos S).map D.str), enc a] = some (enc (fm S a)) := form_ok hS hZ a 64 w.2.1 (by omega) (by omega)
        have f2 : f_law_form [.lst ((twos S).map D.str), enc b] = some (enc (fm S b)) := form_ok hS hZ b 64 w.2.2 (by omega) (by omega)
        have o1 := enc_ok hS (trn_wt (trn_fm S a) w.2.1) (n := 64) (by rw [trn_size (trn_fm S a)]; omega)
        have o2 := enc_ok hS (trn_wt (trn_fm S b) w.2.2) (n := 64) (by rw [trn_size (trn_fm S b)]; omega)
        have q := eqT o1 o2
        have e : decide (fm S a = fm S b) = decide (mf S a = mf S b) := decide_eq_decide.mpr (fm_iff hS hZ w.2.1 w.2.2)
        rw [e] at q
        simp [pe, t21, t31, t32, enc, f1, f2, q, evX], fun _ => by simp [pe, t20]⟩
  refine ⟨(((cx S t).filter fun x => evX S x.2).map fun x => ip x.1), ?_, ?_⟩
  · unfold f_law_even m_law_even
    simp [ck, hl, cm, retF]
  · rw [List.length_map, ← ev_cx]
    unfold cx
    have e : (fun x : Pl × T => isX S x.2 && evX S x.2) = fun x => evX S x.2 && isX S x.2 := funext fun _ => Bool.and_comm _ _
    rw [e, ← List.filter_filter]
end
end My

set_option Elab.async false
set_option linter.all false
set_option maxRecDepth 100000
set_option maxHeartbeats 2000000
namespace My
open PySem PySem.Spec PyProof.Rows L2 Dl
/-! ### what the law asks of one term -/
def tw0 (cSignature : Addr) : En → Option Out := (setM 3 (asLst (lcM [10] (itemsA (callM f_law_crossed (consM (nameV 1) (consM (nameV 2) nilM)))) (bndN 10) yesM (bind2 (nameV 10) (cI 0) ixD))))
def tw1 (cSignature : Addr) : En → Option Out := (setM 4 (callM f_law_own (consM (nameV 2) (consM (nameV 3) nilM))))
def tw2 (cSignature : Addr) : En → Option Out := (forM (itemsA (lstM (consM (callM (f_own_turnings cSignature) (consM (nameV 0) (consM (nameV 2) nilM))) (consM (callM (f_own_turnings cSignature) (consM (nameV 0) (consM (nameV 2) nilM))) nilM)))) (bndN 5) (l2_law_tells_own cSignature))
def tw3 (cSignature : Addr) : En → Option Out := (setM 6 (cI 1))
def tw4 (cSignature : Addr) : En → Option Out := (forM (rngM1 (consM (callM lenD (consM (callM f_law_even (consM (nameV 1) (consM (nameV 2) nilM))) nilM)) nilM)) (bndN 7) (l3_law_tells_own cSignature))
def tw5 (cSignature : Addr) : En → Option Out := (setM 8 (cI 1))
def tw6 (cSignature : Addr) : En → Option Out := (forM (rngM1 (consM (callM lenD (consM (nameV 3) nilM)) nilM)) (bndN 7) (l4_law_tells_own cSignature))
def tw7 (cSignature : Addr) : En → Option Out := (setM 9 (callM (f_count_turnings cSignature) (consM (nameV 0) (consM (nameV 2) nilM))))
def tw8 (cSignature : Addr) : En → Option Out := (retF (andV (bind2 (callM lenD (consM (nameV 4) nilM)) (nameV 6) eqD) (andV (callM f_law_whole (consM (nameV 9) nilM)) (bind2 (bind2 (nameV 9) (callM lenD (consM (nameV 4) nilM)) mulD) (nameV 8) eqD))))
theorem tw_split (cSignature : Addr) : m_law_tells_own cSignature = (seqM (tw0 cSignature) (seqM (tw1 cSignature) (seqM (tw2 cSignature) (seqM (tw3 cSignature) (seqM (tw4 cSignature) (seqM (tw5 cSignature) (seqM (tw6 cSignature) (seqM (tw7 cSignature) (tw8 cSignature))))))))) := rfl
def intL (l : List Nat) : List D := l.map fun (j : Nat) => D.int (0 + (j : Int))
theorem rng_intL (n : Nat) : rngD 0 n = intL (List.range n) := rfl
theorem eqI' (i j : Int) : eqD (.int i) (.int j) = some (.bl (decide (i = j))) := by rw [eqI, beqI]
section
variable (c : Addr) {S : List Sy} {Z : List Str}
theorem l1_tells {DU : List (List Pl)} (hB : ∀ R ∈ DU, Bd R) {e0 e1 e2 e3 e6 e8 e9 e10 : Option Sl} : ∀ (l : List Nat) (e7 : Option Sl), (∀ k ∈ l, k < DU.length) →
    ∃ y7, forM' (bndN 7) (l1_law_tells_own c) (intL l) [e0, e1, e2, e3, some (.val (.lst (DU.map rL))), some (.val (.tup (DU.map rT))), e6, e7, e8, e9, e10] = some (.nx [e0, e1, e2, e3, some (.val (.lst (DU.map rL))), some (.val (.tup (DU.map rT))), e6, y7, e8, e9, e10])
  | [], e7, _ => ⟨e7, rfl⟩
  | k :: l, e7, h => by
    have hk := h k (List.mem_cons_self ..)
    obtain ⟨y7, ih⟩ := l1_tells hB (e0 := e0) (e1 := e1) (e2 := e2) (e3 := e3) (e6 := e6) (e8 := e8) (e9 := e9) (e10 := e10) l (some (.val (.int (0 + (k : Int))))) fun j hj => h j (List.mem_cons_of_mem _ hj)
    refine ⟨y7, ?_⟩
    have a1 : ixD (.tup (DU.map rT)) (.int (k : Int)) = some (rT DU[k]) := by simpa using pick_map rT DU hk
    have a2 : ixD (.lst (DU.map rL)) (.int (k : Int)) = some (rL DU[k]) := by simpa using pick_map rL DU hk
    have ps := places_same (hB _ (List.getElem_mem hk))
    have a1' : atI (DU.map rT) (k : Int) = some (rT DU[k]) := pick_map rT DU hk
    have a2' : atI (DU.map rL) (k : Int) = some (rL DU[k]) := pick_map rL DU hk
    have st : l1_law_tells_own c [e0, e1, e2, e3, some (.val (.lst (DU.map rL))), some (.val (.tup (DU.map rT))), e6, some (.val (.int (0 + (k : Int)))), e8, e9, e10] = some (.nx [e0, e1, e2, e3, some (.val (.lst (DU.map rL))), some (.val (.tup (DU.map rT))), e6, some (.val (.int (0 + (k : Int)))), e8, e9, e10]) := by
      unfold l1_law_tells_own
      simp [a1', a2', ps, nextM]
    show ((l1_law_tells_own c [e0, e1, e2, e3, some (.val (.lst (DU.map rL))), some (.val (.tup (DU.map rT))), e6, some (.val (.int (0 + (k : Int)))), e8, e9, e10]).bind _) = _
    rw [st]
    exact ih
theorem l2_tells {DU : List (List Pl)} (hB : ∀ R ∈ DU, Bd R) (hl : DU.length ≤ 100000) {e0 e1 e2 e3 e6 e7 e8 e9 e10 : Option Sl} : ∃ y7, l2_law_tells_own c [e0, e1, e2, e3, some (.val (.lst (DU.map rL))), some (.val (.tup (DU.map rT))), e6, e7, e8, e9, e10] = some (.nx [e0, e1, e2, e3, some (.val (.lst (DU.map rL))), some (.val (.tup (DU.map rT))), e6, y7, e8, e9, e10]) := by
  obtain ⟨y7, lp⟩ := l1_tells c hB (e0 := e0) (e1 := e1) (e2 := e2) (e3 := e3) (e6 := e6) (e8 := e8) (e9 := e9) (e10 := e10) (List.range DU.length) e7 fun k hk => List.mem_range.mp hk
  rw [← rng_intL] at lp
  refine ⟨y7, ?_⟩
  have nn : neD (.int (DU.length : Int)) (.int (DU.length : Int)) = some (.bl false) := by
    rw [ne_ok okd_int okd_int]
    unfold eqB
    rw [py_int]
    simp [PyData.eqv]
  have hb : (DU.length : Int) ≤ 1000000 ∧ -1000000 ≤ (DU.length : Int) := by omega
  have fr : forM (rngM1 (consM (callM lenD (consM (nameV 4) nilM)) nilM)) (bndN 7) (l1_law_tells_own c) [e0, e1, e2, e3, some (.val (.lst (DU.map rL))), some (.val (.tup (DU.map rT))), e6, e7, e8, e9, e10] = some (.nx [e0, e1, e2, e3, some (.val (.lst (DU.map rL))), some (.val (.tup (DU.map rT))), e6, y7, e8, e9, e10]) := by
    have rg : rngM1 (consM (callM lenD (consM (nameV 4) nilM)) nilM) [e0, e1, e2, e3, some (.val (.lst (DU.map rL))), some (.val (.tup (DU.map rT))), e6, e7, e8, e9, e10] = some (rngD 0 DU.length) := by
      unfold rngM1
      simp [hb]
    unfold Dl.forM
    rw [rg]
    exact lp
  unfold l2_law_tells_own
  rw [seq_nx (env' := [e0, e1, e2, e3, some (.val (.lst (DU.map rL))), some (.val (.tup (DU.map rT))), e6, e7, e8, e9, e10]), fr]
  simp [unM, isi_tt, nn, nextM]
theorem two_64 (n v : Nat) (h : v * 2 ^ (n + 1) ≤ 2 ^ 60) : v * 2 * 2 ^ n = v * 2 ^ (n + 1) ∧ v ≤ 2 ^ 60 := by
  have e : v * 2 * 2 ^ n = v * 2 ^ (n + 1) := by rw [Nat.pow_succ, Nat.mul_assoc, Nat.mul_comm 2]
  refine ⟨e, Nat.le_trans (Nat.le_mul_of_pos_right v (Nat.pow_pos (by decide))) h⟩
theorem l3_tells {e0 e1 e2 e3 e4 e5 e8 e9 e10 : Option Sl} : ∀ (l : List Nat) (v : Nat) (e7 : Option Sl), v * 2 ^ l.length ≤ 2 ^ 60 →
    ∃ y7, forM' (bndN 7) (l3_law_tells_own c) (intL l) [e0, e1, e2, e3, e4, e5, some (.val (.int (v : Int))), e7, e8, e9, e10] = some (.nx [e0, e1, e2, e3, e4, e5, some (.val (.int ((v * 2 ^ l.length : Nat) : Int))), y7, e8, e9, e10])
  | [], v, e7, _ => ⟨e7, by simp [intL, for_nil]⟩
  | k :: l, v, e7, h => by
    obtain ⟨e, hv⟩ := two_64 l.length v h
    have h' : v * 2 ^ (l.length + 1) ≤ 2 ^ 60 := h
    obtain ⟨y7, ih⟩ := l3_tells (e0 := e0) (e1 := e1) (e2 := e2) (e3 := e3) (e4 := e4) (e5 := e5) (e8 := e8) (e9 := e9) (e10 := e10) l (v * 2) (some (.val (.int (0 + (k : Int))))) (by rw [e]; exact h')
    have m : mulD (.int (v : Int)) (.int 2) = some (.int ((v * 2 : Nat) : Int)) := by
      rw [e_mul (big (b := 2 ^ 64) (by omega) (by decide)) (big (b := 2 ^ 64) (by decide) (by decide))]
      simp
    refine ⟨y7, ?_⟩
    show ((l3_law_tells_own c [e0, e1, e2, e3, e4, e5, some (.val (.int (v : Int))), some (.val (.int (0 + (k : Int)))), e8, e9, e10]).bind _) = _
    have st : l3_law_tells_own c [e0, e1, e2, e3, e4, e5, some (.val (.int (v : Int))), some (.val (.int (0 + (k : Int)))), e8, e9, e10] = some (.nx [e0, e1, e2, e3, e4, e5, some (.val (.int ((v * 2 : Nat) : Int))), some (.val (.int (0 + (k : Int)))), e8, e9, e10]) := by
      unfold l3_law_tells_own
      simp [m]
    rw [st]
    show forM' (bndN 7) (l3_law_tells_own c) (intL l) [e0, e1, e2, e3, e4, e5, some (.val (.int ((v * 2 : Nat) : Int))), some (.val (.int (0 + (k : Int)))), e8, e9, e10] = _
    rw [ih, e]
    rfl
theorem l4_tells {e0 e1 e2 e3 e4 e5 e6 e9 e10 : Option Sl} : ∀ (l : List Nat) (v : Nat) (e7 : Option Sl), v * 2 ^ l.length ≤ 2 ^ 60 →
    ∃ y7, forM' (bndN 7) (l4_law_tells_own c) (intL l) [e0, e1, e2, e3, e4, e5, e6, e7, some (.val (.int (v : Int))), e9, e10] = some (.nx [e0, e1, e2, e3, e4, e5, e6, y7, some (.val (.int ((v * 2 ^ l.length : Nat) : Int))), e9, e10])
  | [], v, e7, _ => ⟨e7, by simp [intL, for_nil]⟩
  | k :: l, v, e7, h => by
    obtain ⟨e, hv⟩ := two_64 l.length v h
    have h' : v * 2 ^ (l.length + 1) ≤ 2 ^ 60 := h
    obtain ⟨y7, ih⟩ := l4_tells (e0 := e0) (e1 := e1) (e2 := e2) (e3 := e3) (e4 := e4) (e5 := e5) (e6 := e6) (e9 := e9) (e10 := e10) l (v * 2) (some (.val (.int (0 + (k : Int))))) (by rw [e]; exact h')
    have m : mulD (.int (v : Int)) (.int 2) = some (.int ((v * 2 : Nat) : Int)) := by
      rw [e_mul (big (b := 2 ^ 64) (by omega) (by decide)) (big (b := 2 ^ 64) (by decide) (by decide))]
      simp
    refine ⟨y7, ?_⟩
    show ((l4_law_tells_own c [e0, e1, e2, e3, e4, e5, e6, some (.val (.int (0 + (k : Int)))), some (.val (.int (v : Int))), e9, e10]).bind _) = _
    have st : l4_law_tells_own c [e0, e1, e2, e3, e4, e5, e6, some (.val (.int (0 + (k : Int)))), some (.val (.int (v : Int))), e9, e10] = some (.nx [e0, e1, e2, e3, e4, e5, e6, some (.val (.int (0 + (k : Int)))), some (.val (.int ((v * 2 : Nat) : Int))), e9, e10]) := by
      unfold l4_law_tells_own
      simp [m]
    rw [st]
    show forM' (bndN 7) (l4_law_tells_own c) (intL l) [e0, e1, e2, e3, e4, e5, e6, some (.val (.int (0 + (k : Int)))), some (.val (.int ((v * 2 : Nat) : Int))), e9, e10] = _
    rw [ih, e]
    rfl
theorem tells_ok (hS : SyOk S) (hZ : ∀ s ∈ Z, An s) {t : T} (h : WT S Z t) (hz : t.size ≤ 31) : f_law_tells_own c [sgD c S, .lst ((twos S).map D.str), enc t] = some (.bl true) := by
  have hk := kn_len S t
  have p1 : 2 ^ 15 ≤ 50000 := by decide
  have le := ev_le S t
  have ck := crossed_ok hS h (by omega)
  have lo := law_own_ok hS h hz
  have ow := own_ok c hS h hz
  rw [← due_srt] at ow
  have ln : (srt (due S t)).length = 2 ^ ev S t := by
    rw [due_srt, srt_len, len_xs hS h h, if_pos rfl]
  have hB : ∀ R ∈ srt (due S t), Bd R := fun R hR => by
    rw [due_srt] at hR
    exact xs_bd h (by omega) R ((srt_perm _).mem_iff.mp hR)
  generalize srt (due S t) = DU at lo ow ln hB
  have l15 : 2 ^ ev S t ≤ 2 ^ 15 := Nat.pow_le_pow_right (by decide) (by omega)
  have hD : DU.length ≤ 100000 := by omega
  obtain ⟨eds, ee, el⟩ := even_ok hS hZ h (by omega)
  have co := count_ok c hS h (by omega)
  have hcl : (cx S t).length ≤ 100000 := Nat.le_trans (List.length_filter_le _ _) (by rw [pl_len]; omega)
  have cmk : ∀ e0 e1 e2 e3 e4 e5 e6 e7 e8 e9 : Option Sl, compM (bndN 10) yesM (bind2 (nameV 10) (cI 0) ixD) [e0, e1, e2, e3, e4, e5, e6, e7, e8, e9, none] ((cx S t).map (pe [])) = some ((kn S t).map ip) := fun e0 e1 e2 e3 e4 e5 e6 e7 e8 e9 => by
    have := mapA (g := pe []) (bnd := bndN 10) (elt := bind2 (nameV 10) (cI 0) ixD) (env := [e0, e1, e2, e3, e4, e5, e6, e7, e8, e9, none]) (f := fun x : Pl × T => ip x.1) (l := cx S t) fun x _ => ⟨[e0, e1, e2, e3, e4, e5, e6, e7, e8, e9, some (.val (pe [] x))], rfl, by simp [pe, t20]⟩
    rw [this, ← kn_cx, List.map_map]
    rfl
  have n1 : ∀ x : Nat, x ≤ 1000 → 1 * 2 ^ x ≤ 2 ^ 60 → True := fun _ _ _ => trivial
  have b15 : (2 : Nat) ^ 15 ≤ 2 ^ 60 := Nat.pow_le_pow_right (by decide) (by decide)
  have k15 : 2 ^ (kn S t).length ≤ 2 ^ 15 := Nat.pow_le_pow_right (by decide) (by omega)
  -- the statements
  have s0 : tw0 c [some (.val (sgD c S)), some (.val (.lst ((twos S).map D.str))), some (.val (enc t)), none, none, none, none, none, none, none, none] = some (.nx [some (.val (sgD c S)), some (.val (.lst ((twos S).map D.str))), some (.val (enc t)), some (.val (.lst ((kn S t).map ip))), none, none, none, none, none, none, none]) := by
    unfold tw0
    simp [ck, hcl, cmk]
  have s1 : tw1 c [some (.val (sgD c S)), some (.val (.lst ((twos S).map D.str))), some (.val (enc t)), some (.val (.lst ((kn S t).map ip))), none, none, none, none, none, none, none] = some (.nx [some (.val (sgD c S)), some (.val (.lst ((twos S).map D.str))), some (.val (enc t)), some (.val (.lst ((kn S t).map ip))), some (.val (.lst (DU.map rL))), none, none, none, none, none, none]) := by
    unfold tw1
    simp [lo]
  obtain ⟨y7, l2a⟩ := l2_tells c hB hD (e0 := some (.val (sgD c S))) (e1 := some (.val (.lst ((twos S).map D.str)))) (e2 := some (.val (enc t))) (e3 := some (.val (.lst ((kn S t).map ip)))) (e6 := none) (e7 := none) (e8 := none) (e9 := none) (e10 := none)
  obtain ⟨z7, l2b⟩ := l2_tells c hB hD (e0 := some (.val (sgD c S))) (e1 := some (.val (.lst ((twos S).map D.str)))) (e2 := some (.val (enc t))) (e3 := some (.val (.lst ((kn S t).map ip)))) (e6 := none) (e7 := y7) (e8 := none) (e9 := none) (e10 := none)
  have s2 : tw2 c [some (.val (sgD c S)), some (.val (.lst ((twos S).map D.str))), some (.val (enc t)), some (.val (.lst ((kn S t).map ip))), some (.val (.lst (DU.map rL))), none, none, none, none, none, none] = some (.nx [some (.val (sgD c S)), some (.val (.lst ((twos S).map D.str))), some (.val (enc t)), some (.val (.lst ((kn S t).map ip))), some (.val (.lst (DU.map rL))), some (.val (.tup (DU.map rT))), none, z7, none, none, none]) := by
    have it : itemsA (lstM (consM (callM (f_own_turnings c) (consM (nameV 0) (consM (nameV 2) nilM))) (consM (callM (f_own_turnings c) (consM (nameV 0) (consM (nameV 2) nilM))) nilM))) [some (.val (sgD c S)), some (.val (.lst ((twos S).map D.str))), some (.val (enc t)), some (.val (.lst ((kn S t).map ip))), some (.val (.lst (DU.map rL))), none, none, none, none, none, none] = some [.tup (DU.map rT), .tup (DU.map rT)] := by
      simp [ow]
    unfold tw2 Dl.forM
    rw [it]
    show ((l2_law_tells_own c [some (.val (sgD c S)), some (.val (.lst ((twos S).map D.str))), some (.val (enc t)), some (.val (.lst ((kn S t).map ip))), some (.val (.lst (DU.map rL))), some (.val (.tup (DU.map rT))), none, none, none, none, none]).bind _) = _
    rw [l2a]
    show ((l2_law_tells_own c [some (.val (sgD c S)), some (.val (.lst ((twos S).map D.str))), some (.val (enc t)), some (.val (.lst ((kn S t).map ip))), some (.val (.lst (DU.map rL))), some (.val (.tup (DU.map rT))), none, y7, none, none, none]).bind _) = _
    rw [l2b]
    rfl
  have s3 : tw3 c [some (.val (sgD c S)), some (.val (.lst ((twos S).map D.str))), some (.val (enc t)), some (.val (.lst ((kn S t).map ip))), some (.val (.lst (DU.map rL))), some (.val (.tup (DU.map rT))), none, z7, none, none, none] = some (.nx [some (.val (sgD c S)), some (.val (.lst ((twos S).map D.str))), some (.val (enc t)), some (.val (.lst ((kn S t).map ip))), some (.val (.lst (DU.map rL))), some (.val (.tup (DU.map rT))), some (.val (.int ((1 : Nat) : Int))), z7, none, none, none]) := rfl
  obtain ⟨w7, l3a⟩ := l3_tells c (e0 := some (.val (sgD c S))) (e1 := some (.val (.lst ((twos S).map D.str)))) (e2 := some (.val (enc t))) (e3 := some (.val (.lst ((kn S t).map ip)))) (e4 := some (.val (.lst (DU.map rL)))) (e5 := some (.val (.tup (DU.map rT)))) (e8 := none) (e9 := none) (e10 := none) (List.range (ev S t)) 1 z7 (by rw [List.length_range, Nat.one_mul]; omega)
  rw [← rng_intL, List.length_range, Nat.one_mul] at l3a
  have s4 : tw4 c [some (.val (sgD c S)), some (.val (.lst ((twos S).map D.str))), some (.val (enc t)), some (.val (.lst ((kn S t).map ip))), some (.val (.lst (DU.map rL))), some (.val (.tup (DU.map rT))), some (.val (.int ((1 : Nat) : Int))), z7, none, none, none] = some (.nx [some (.val (sgD c S)), some (.val (.lst ((twos S).map D.str))), some (.val (enc t)), some (.val (.lst ((kn S t).map ip))), some (.val (.lst (DU.map rL))), some (.val (.tup (DU.map rT))), some (.val (.int ((2 ^ ev S t : Nat) : Int))), w7, none, none, none]) := by
    have rg : rngM1 (consM (callM lenD (consM (callM f_law_even (consM (nameV 1) (consM (nameV 2) nilM))) nilM)) nilM) [some (.val (sgD c S)), some (.val (.lst ((twos S).map D.str))), some (.val (enc t)), some (.val (.lst ((kn S t).map ip))), some (.val (.lst (DU.map rL))), some (.val (.tup (DU.map rT))), some (.val (.int ((1 : Nat) : Int))), z7, none, none, none] = some (rngD 0 (ev S t)) := by
      unfold rngM1
      simp [ee, el]
      omega
    unfold tw4 Dl.forM
    rw [rg]
    exact l3a
  have s5 : tw5 c [some (.val (sgD c S)), some (.val (.lst ((twos S).map D.str))), some (.val (enc t)), some (.val (.lst ((kn S t).map ip))), some (.val (.lst (DU.map rL))), some (.val (.tup (DU.map rT))), some (.val (.int ((2 ^ ev S t : Nat) : Int))), w7, none, none, none] = some (.nx [some (.val (sgD c S)), some (.val (.lst ((twos S).map D.str))), some (.val (enc t)), some (.val (.lst ((kn S t).map ip))), some (.val (.lst (DU.map rL))), some (.val (.tup (DU.map rT))), some (.val (.int ((2 ^ ev S t : Nat) : Int))), w7, some (.val (.int ((1 : Nat) : Int))), none, none]) := rfl
  obtain ⟨v7, l4a⟩ := l4_tells c (e0 := some (.val (sgD c S))) (e1 := some (.val (.lst ((twos S).map D.str)))) (e2 := some (.val (enc t))) (e3 := some (.val (.lst ((kn S t).map ip)))) (e4 := some (.val (.lst (DU.map rL)))) (e5 := some (.val (.tup (DU.map rT)))) (e6 := some (.val (.int ((2 ^ ev S t : Nat) : Int)))) (e9 := none) (e10 := none) (List.range (kn S t).length) 1 w7 (by rw [List.length_range, Nat.one_mul]; omega)
  rw [← rng_intL, List.length_range, Nat.one_mul] at l4a
  have s6 : tw6 c [some (.val (sgD c S)), some (.val (.lst ((twos S).map D.str))), some (.val (enc t)), some (.val (.lst ((kn S t).map ip))), some (.val (.lst (DU.map rL))), some (.val (.tup (DU.map rT))), some (.val (.int ((2 ^ ev S t : Nat) : Int))), w7, some (.val (.int ((1 : Nat) : Int))), none, none] = some (.nx [some (.val (sgD c S)), some (.val (.lst ((twos S).map D.str))), some (.val (enc t)), some (.val (.lst ((kn S t).map ip))), some (.val (.lst (DU.map rL))), some (.val (.tup (DU.map rT))), some (.val (.int ((2 ^ ev S t : Nat) : Int))), v7, some (.val (.int ((2 ^ (kn S t).length : Nat) : Int))), none, none]) := by
    have rg : rngM1 (consM (callM lenD (consM (nameV 3) nilM)) nilM) [some (.val (sgD c S)), some (.val (.lst ((twos S).map D.str))), some (.val (enc t)), some (.val (.lst ((kn S t).map ip))), some (.val (.lst (DU.map rL))), some (.val (.tup (DU.map rT))), some (.val (.int ((2 ^ ev S t : Nat) : Int))), w7, some (.val (.int ((1 : Nat) : Int))), none, none] = some (rngD 0 (kn S t).length) := by
      unfold rngM1
      simp
      omega
    unfold tw6 Dl.forM
    rw [rg]
    exact l4a
  have s7 : tw7 c [some (.val (sgD c S)), some (.val (.lst ((twos S).map D.str))), some (.val (enc t)), some (.val (.lst ((kn S t).map ip))), some (.val (.lst (DU.map rL))), some (.val (.tup (DU.map rT))), some (.val (.int ((2 ^ ev S t : Nat) : Int))), v7, some (.val (.int ((2 ^ (kn S t).length : Nat) : Int))), none, none] = some (.nx [some (.val (sgD c S)), some (.val (.lst ((twos S).map D.str))), some (.val (enc t)), some (.val (.lst ((kn S t).map ip))), some (.val (.lst (DU.map rL))), some (.val (.tup (DU.map rT))), some (.val (.int ((2 ^ ev S t : Nat) : Int))), v7, some (.val (.int ((2 ^ (kn S t).length : Nat) : Int))), some (.val (.int ((2 ^ ((kn S t).length - ev S t) : Nat) : Int))), none]) := by
    unfold tw7
    simp [co]
  have s8 : tw8 c [some (.val (sgD c S)), some (.val (.lst ((twos S).map D.str))), some (.val (enc t)), some (.val (.lst ((kn S t).map ip))), some (.val (.lst (DU.map rL))), some (.val (.tup (DU.map rT))), some (.val (.int ((2 ^ ev S t : Nat) : Int))), v7, some (.val (.int ((2 ^ (kn S t).length : Nat) : Int))), some (.val (.int ((2 ^ ((kn S t).length - ev S t) : Nat) : Int))), none] = some (.rt (.bl true)) := by
    have c15 : 2 ^ ((kn S t).length - ev S t) ≤ 2 ^ 15 := Nat.pow_le_pow_right (by decide) (by omega)
    have mu : (2 ^ ((kn S t).length - ev S t)) * 2 ^ ev S t = 2 ^ (kn S t).length := by rw [← Nat.pow_add]; congr 1; omega
    generalize 2 ^ ((kn S t).length - ev S t) = a at c15 mu ⊢
    generalize 2 ^ ev S t = b at ln l15 mu ⊢
    generalize 2 ^ (kn S t).length = d at mu k15 ⊢
    have m : mulD (.int (a : Int)) (.int (DU.length : Int)) = some (.int (d : Int)) := by
      rw [e_mul (big (b := 2 ^ 64) (by omega) (by decide)) (big (b := 2 ^ 64) (by omega) (by decide)), ln]
      rw [← Int.natCast_mul, mu]
    have q1 : eqD (.int (DU.length : Int)) (.int (b : Int)) = some (.bl true) := by rw [eqI', ln]; simp
    have q2 : eqD (.int (d : Int)) (.int (d : Int)) = some (.bl true) := by rw [eqI']; simp
    unfold tw8
    simp [m, q1, q2, whole_ok, retF]
  refine body_rt rfl ?_
  show m_law_tells_own c [some (.val (sgD c S)), some (.val (.lst ((twos S).map D.str))), some (.val (enc t)), none, none, none, none, none, none, none, none] = _
  rw [tw_split, seq_nx s0, seq_nx s1, seq_nx s2, seq_nx s3, seq_nx s4, seq_nx s5, seq_nx s6, seq_nx s7, s8]
end
end My

set_option Elab.async false
set_option linter.all false
set_option maxRecDepth 100000
set_option maxHeartbeats 2000000
namespace My
open PySem PySem.Spec PyProof.Rows L2 Dl
/-! ### the law -/
def z60 : List Int := List.replicate 60 288000
def z8 : List Int := List.replicate 8 2
theorem szZ60 : bind2 (lstM (consM (cI 288000) nilM)) (cI 60) mulD = fun _ => some (.lst (z60.map D.int)) := funext fun env => rfl
theorem szZ8 : bind2 (lstM (consM (cI 2) nilM)) (cI 8) mulD = fun _ => some (.lst (z8.map D.int)) := funext fun env => rfl
theorem twos_comp {S : List Sy} {i : Nat} {env : En} (hi : i < env.length) : compM (bndN i) (boolM (bind2 (nameV i) (cI 2) ixD)) (bind2 (nameV i) (cI 0) ixD) env (S.map syE) = some ((twos S).map D.str) := by
  rw [← twos_map]
  have g : ∀ q : Sy, nameV i (env.set i (some (.val (syE q)))) = some (syE q) := fun q => by
    unfold nameV
    rw [List.getElem?_set_self hi]
    try rfl
  refine sift (p := fun q => q.2.2) (f := fun q => D.str q.1) (fun q hq => ?_) fun q hq => ?_
  · unfold boolM bind2
    rw [g q]
    try rfl
  · unfold bind2
    rw [g q]
    try rfl

noncomputable def lw0 (cSignature : Addr) : En → Option Out := (setM 1 (callM f_law_symbols (consM (nameV 0) (consM (cI 0) nilM))))
noncomputable def lw1 (cSignature : Addr) : En → Option Out := (setM 2 (callM f_law_variables (consM (callM f_law_cell (consM (nameV 0) (consM (cI 2) nilM))) nilM)))
noncomputable def lw2 (cSignature : Addr) : En → Option Out := (setM 3 (asLst (lcM [12] (itemsA (nameV 1)) (bndN 12) (boolM (bind2 (nameV 12) (cI 2) ixD)) (bind2 (nameV 12) (cI 0) ixD))))
noncomputable def lw3 (cSignature : Addr) : En → Option Out := (setM 4 (callM f_law_digits (consM (callM f_law_cell (consM (nameV 0) (consM (cI 3) nilM))) (consM (lstM (consM (cI 8) (consM (cI 8) (consM (cI 4) nilM)))) nilM))))
noncomputable def lw4 (cSignature : Addr) : En → Option Out := (setM 5 (bind2 (lstM (consM (cI 11) (consM (cI 15) (consM (cI 21) (consM (cI 30) (consM (cI 13) (consM (cI 17) (consM (cI 9) (consM (cI 25) nilM))))))))) (bind2 (nameV 4) (cI 0) ixD) ixD))
noncomputable def lw5 (cSignature : Addr) : En → Option Out := (setM 6 (bind2 (lstM (consM (cI 5) (consM (cI 7) (consM (cI 4) (consM (cI 6) (consM (cI 3) (consM (cI 5) (consM (cI 7) (consM (cI 8) nilM))))))))) (bind2 (nameV 4) (cI 1) ixD) ixD))
noncomputable def lw6 (cSignature : Addr) : En → Option Out := (setM 7 (callM f_law_digits (consM (callM f_law_cell (consM (nameV 0) (consM (cI 4) nilM))) (consM (bind2 (lstM (consM (cI 288000) nilM)) (cI 60) mulD) nilM))))
noncomputable def lw7 (cSignature : Addr) : En → Option Out := (setM 8 (bind2 (callM f_law_term (consM (nameV 1) (consM (nameV 2) (consM (nameV 7) (consM (cI 0) (consM (nameV 5) (consM (nameV 6) (consM (bind2 (lstM (consM (cI 3) (consM (cI 1) (consM (cI 4) (consM (cI 1) nilM))))) (bind2 (nameV 4) (cI 2) ixD) ixD) nilM)))))))) (cI 0) ixD))
noncomputable def lw8 (cSignature : Addr) : En → Option Out := (setM 9 (bind2 (callM f_law_turned (consM (nameV 3) (consM (nameV 8) (consM (callM f_law_digits (consM (callM f_law_cell (consM (nameV 0) (consM (cI 5) nilM))) (consM (bind2 (lstM (consM (cI 2) nilM)) (cI 8) mulD) nilM))) (consM (cI 0) nilM))))) (cI 0) ixD))
noncomputable def lw9 (cSignature : Addr) : En → Option Out := (setM 10 (makeM cSignature (f_Signature_init cSignature) (consM (nameV 1) nilM)))
noncomputable def lw10 (cSignature : Addr) : En → Option Out := (forM (itemsA (lstM (consM (nameV 8) (consM (nameV 9) (consM (nameV 8) nilM))))) (bndN 11) (l1_law cSignature))
noncomputable def lw11 (cSignature : Addr) : En → Option Out := (retF (bind2 (fldM [cSignature] "symbols" (nameV 10)) (callM tupleD (consM (nameV 1) nilM)) eqD))
theorem lw_split (cSignature : Addr) : m_law cSignature = (seqM (lw0 cSignature) (seqM (lw1 cSignature) (seqM (lw2 cSignature) (seqM (lw3 cSignature) (seqM (lw4 cSignature) (seqM (lw5 cSignature) (seqM (lw6 cSignature) (seqM (lw7 cSignature) (seqM (lw8 cSignature) (seqM (lw9 cSignature) (seqM (lw10 cSignature) (lw11 cSignature)))))))))))) := rfl

theorem asked_ok (c : Addr) {S : List Sy} {Z : List Str} (hS : SyOk S) (hZ : ∀ s ∈ Z, An s) {t : T} (h : WT S Z t) (hz : t.size ≤ 31) {e0 e1 e2 e4 e5 e6 e7 e8 e9 e12 : Option Sl} : l1_law c [e0, e1, e2, some (.val (.lst ((twos S).map D.str))), e4, e5, e6, e7, e8, e9, some (.val (sgD c S)), some (.val (enc t)), e12] = some (.nx [e0, e1, e2, some (.val (.lst ((twos S).map D.str))), e4, e5, e6, e7, e8, e9, some (.val (sgD c S)), some (.val (enc t)), e12]) := by
  have tk := tells_ok c hS hZ h hz
  unfold l1_law
  simp [tk, nextM]
theorem law_true (c : Addr) (ns : List Int) (hl : ns.length ≤ 63) : f_law c [.scr (ns.map D.int)] = some (.bl true) := by
  obtain ⟨S, hS, eS⟩ := symbols_ok ns 0 (by omega) (ia := 0) rfl
  obtain ⟨c2, hc2⟩ := cell_ok ns 2 (by omega)
  obtain ⟨vs, ev, hv1, hv8, hva⟩ := variables_ok2 c2
  have hv : ∀ v ∈ vs, SLe 40 v := fun v h => (hva v h).1
  have hZ : ∀ v ∈ vs, An v := fun v h => (hva v h).2
  have ei := init_ok c hS
  have hsl : S.length ≤ 100000 := by have := hS.len; omega
  have cT := fun env hi => twos_comp (S := S) (i := 12) (env := env) hi
  obtain ⟨c3, r3, hc3, hf3, hd3⟩ := draw ns 3 (by omega) (i := 3) rfl [8, 8, 4] (by decide) (by decide)
  obtain ⟨c4, r4, hc4, hf4, hd4⟩ := draw ns 4 (by omega) (i := 4) rfl z60 (by decide) (by decide)
  obtain ⟨c5, r5, hc5, hf5, hd5⟩ := draw ns 5 (by omega) (i := 5) rfl z8 (by decide) (by decide)
  have l4 : r4.length = 60 := hf4.len
  have l5 : r5.length = 8 := hf5.len
  obtain ⟨a, ea, pa, qa⟩ := hf3.at 0 (i := 0) rfl rfl
  obtain ⟨b, eb, pb, qb⟩ := hf3.at 1 (i := 1) rfl rfl
  obtain ⟨d, ed, pd, qd⟩ := hf3.at 2 (i := 2) rfl rfl
  obtain ⟨ro, ero, hp⟩ := at_list (l := [11, 15, 21, 30, 13, 17, 9, 25]) (p := fun m => decide (1 ≤ m) && decide (m ≤ 30)) (by decide) pa qa
  rw [Bool.and_eq_true] at hp
  have ro1 := of_decide_eq_true hp.1
  have ro2 := of_decide_eq_true hp.2
  obtain ⟨room, rfl⟩ := Int.eq_ofNat_of_zero_le (show 0 ≤ ro by omega)
  have ero' : atI [D.int 11, .int 15, .int 21, .int 30, .int 13, .int 17, .int 9, .int 25] a = some (.int (room : Int)) := ero
  obtain ⟨tu, etu, _⟩ := at_list (l := [5, 7, 4, 6, 3, 5, 7, 8]) (p := fun _ => true) (by decide) pb qb
  have etu' : atI [D.int 5, .int 7, .int 4, .int 6, .int 3, .int 5, .int 7, .int 8] b = some (.int tu) := etu
  obtain ⟨cp, elr, _⟩ := at_list (l := [3, 1, 4, 1]) (p := fun _ => true) (by decide) pd qd
  have elr' : atI [D.int 3, .int 1, .int 4, .int 1] d = some (.int cp) := elr
  obtain ⟨tm, b1, m1, e1, wt, zt, _⟩ := term_ok hS hv hv1 hv8 (row := r4) (by omega) 64 room 0 (room : Int) 0 tu cp rfl rfl (by omega) (by omega) (by omega)
  have e1' : f_law_term [.lst (S.map syE), .lst (vs.map D.str), .lst (r4.map D.int), .int 0, .int (room : Int), .int tu, .int cp] = _ := e1
  have zt30 : tm.size ≤ 31 := by omega
  obtain ⟨tn, b2, e2, wn, zn, _⟩ := turned_ok hS r5 (by omega) tm 64 0 wt (by omega)
  have e2' : f_law_turned [.lst ((twos S).map D.str), enc tm, .lst (r5.map D.int), .int 0] = _ := e2
  have zn30 : tn.size ≤ 31 := by omega
  have hsy : Okd 64 (.tup (S.map syE)) := Okd.mono (n := 2) (okd_tup (n := 1) fun x hx => by
    obtain ⟨q, hq, rfl⟩ := List.mem_map.mp hx
    refine okd_tup (n := 0) fun y hy => ?_
    have : y = .str q.1 ∨ y = .int q.2.1 ∨ y = .bl q.2.2 := by simpa using hy
    rcases this with rfl | rfl | rfl
    · exact okd_str (hS.nm q hq).sle
    · exact okd_int
    · exact okd_bl) (by decide)
  have eq2 := eq_self hsy
  have hfld : ∀ (e0 e1 e2 e3 e4 e5 e6 e7 e8 e9 : Option Sl) (rest : En), fldM [c] "symbols" (nameV 10) (e0 :: e1 :: e2 :: e3 :: e4 :: e5 :: e6 :: e7 :: e8 :: e9 :: some (.val (sgD c S)) :: rest) = some (.tup (S.map syE)) := fun _ _ _ _ _ _ _ _ _ _ rest => by
    show (if c ∈ [c] then lkF ["symbols", "_ranks"] [.tup (S.map syE), rkD S] "symbols" else none) = _
    rw [if_pos (List.mem_singleton.mpr rfl)]
    rfl
  have hc2b : f_law_cell [.scr (ns.map D.int), .int 2] = some (.int c2) := hc2
  have hd3b : f_law_digits [.int c3, .lst [.int 8, .int 8, .int 4]] = some (.lst (r3.map D.int)) := hd3
  have s0 : lw0 c [some (.val (.scr (ns.map D.int))), none, none, none, none, none, none, none, none, none, none, none, none] = some (.nx [some (.val (.scr (ns.map D.int))), some (.val (.lst (S.map syE))), none, none, none, none, none, none, none, none, none, none, none]) := by
    unfold lw0
    simp [eS]
  have s1 : lw1 c [some (.val (.scr (ns.map D.int))), some (.val (.lst (S.map syE))), none, none, none, none, none, none, none, none, none, none, none] = some (.nx [some (.val (.scr (ns.map D.int))), some (.val (.lst (S.map syE))), some (.val (.lst (vs.map D.str))), none, none, none, none, none, none, none, none, none, none]) := by
    unfold lw1
    simp [hc2b, ev]
  have s2 : lw2 c [some (.val (.scr (ns.map D.int))), some (.val (.lst (S.map syE))), some (.val (.lst (vs.map D.str))), none, none, none, none, none, none, none, none, none, none] = some (.nx [some (.val (.scr (ns.map D.int))), some (.val (.lst (S.map syE))), some (.val (.lst (vs.map D.str))), some (.val (.lst ((twos S).map D.str))), none, none, none, none, none, none, none, none, none]) := by
    unfold lw2
    simp [hsl, cT]
  have s3 : lw3 c [some (.val (.scr (ns.map D.int))), some (.val (.lst (S.map syE))), some (.val (.lst (vs.map D.str))), some (.val (.lst ((twos S).map D.str))), none, none, none, none, none, none, none, none, none] = some (.nx [some (.val (.scr (ns.map D.int))), some (.val (.lst (S.map syE))), some (.val (.lst (vs.map D.str))), some (.val (.lst ((twos S).map D.str))), some (.val (.lst (r3.map D.int))), none, none, none, none, none, none, none, none]) := by
    unfold lw3
    simp [hc3, hd3b]
  have s4 : lw4 c [some (.val (.scr (ns.map D.int))), some (.val (.lst (S.map syE))), some (.val (.lst (vs.map D.str))), some (.val (.lst ((twos S).map D.str))), some (.val (.lst (r3.map D.int))), none, none, none, none, none, none, none, none] = some (.nx [some (.val (.scr (ns.map D.int))), some (.val (.lst (S.map syE))), some (.val (.lst (vs.map D.str))), some (.val (.lst ((twos S).map D.str))), some (.val (.lst (r3.map D.int))), some (.val (.int (room : Int))), none, none, none, none, none, none, none]) := by
    unfold lw4
    simp [ea, ero']
  have s5 : lw5 c [some (.val (.scr (ns.map D.int))), some (.val (.lst (S.map syE))), some (.val (.lst (vs.map D.str))), some (.val (.lst ((twos S).map D.str))), some (.val (.lst (r3.map D.int))), some (.val (.int (room : Int))), none, none, none, none, none, none, none] = some (.nx [some (.val (.scr (ns.map D.int))), some (.val (.lst (S.map syE))), some (.val (.lst (vs.map D.str))), some (.val (.lst ((twos S).map D.str))), some (.val (.lst (r3.map D.int))), some (.val (.int (room : Int))), some (.val (.int tu)), none, none, none, none, none, none]) := by
    unfold lw5
    simp [eb, etu']
  have s6 : lw6 c [some (.val (.scr (ns.map D.int))), some (.val (.lst (S.map syE))), some (.val (.lst (vs.map D.str))), some (.val (.lst ((twos S).map D.str))), some (.val (.lst (r3.map D.int))), some (.val (.int (room : Int))), some (.val (.int tu)), none, none, none, none, none, none] = some (.nx [some (.val (.scr (ns.map D.int))), some (.val (.lst (S.map syE))), some (.val (.lst (vs.map D.str))), some (.val (.lst ((twos S).map D.str))), some (.val (.lst (r3.map D.int))), some (.val (.int (room : Int))), some (.val (.int tu)), some (.val (.lst (r4.map D.int))), none, none, none, none, none]) := by
    unfold lw6
    simp only [szZ60]
    simp [hc4, hd4]
  have s7 : lw7 c [some (.val (.scr (ns.map D.int))), some (.val (.lst (S.map syE))), some (.val (.lst (vs.map D.str))), some (.val (.lst ((twos S).map D.str))), some (.val (.lst (r3.map D.int))), some (.val (.int (room : Int))), some (.val (.int tu)), some (.val (.lst (r4.map D.int))), none, none, none, none, none] = some (.nx [some (.val (.scr (ns.map D.int))), some (.val (.lst (S.map syE))), some (.val (.lst (vs.map D.str))), some (.val (.lst ((twos S).map D.str))), some (.val (.lst (r3.map D.int))), some (.val (.int (room : Int))), some (.val (.int tu)), some (.val (.lst (r4.map D.int))), some (.val (enc tm)), none, none, none, none]) := by
    unfold lw7
    simp [ed, elr', e1', t30]
  have s8 : lw8 c [some (.val (.scr (ns.map D.int))), some (.val (.lst (S.map syE))), some (.val (.lst (vs.map D.str))), some (.val (.lst ((twos S).map D.str))), some (.val (.lst (r3.map D.int))), some (.val (.int (room : Int))), some (.val (.int tu)), some (.val (.lst (r4.map D.int))), some (.val (enc tm)), none, none, none, none] = some (.nx [some (.val (.scr (ns.map D.int))), some (.val (.lst (S.map syE))), some (.val (.lst (vs.map D.str))), some (.val (.lst ((twos S).map D.str))), some (.val (.lst (r3.map D.int))), some (.val (.int (room : Int))), some (.val (.int tu)), some (.val (.lst (r4.map D.int))), some (.val (enc tm)), some (.val (enc tn)), none, none, none]) := by
    unfold lw8
    simp only [szZ8]
    simp [hc5, hd5, e2', t20]
  have s9 : lw9 c [some (.val (.scr (ns.map D.int))), some (.val (.lst (S.map syE))), some (.val (.lst (vs.map D.str))), some (.val (.lst ((twos S).map D.str))), some (.val (.lst (r3.map D.int))), some (.val (.int (room : Int))), some (.val (.int tu)), some (.val (.lst (r4.map D.int))), some (.val (enc tm)), some (.val (enc tn)), none, none, none] = some (.nx [some (.val (.scr (ns.map D.int))), some (.val (.lst (S.map syE))), some (.val (.lst (vs.map D.str))), some (.val (.lst ((twos S).map D.str))), some (.val (.lst (r3.map D.int))), some (.val (.int (room : Int))), some (.val (.int tu)), some (.val (.lst (r4.map D.int))), some (.val (enc tm)), some (.val (enc tn)), some (.val (sgD c S)), none, none]) := by
    unfold lw9
    simp [makeM, ei, sgD]
  have a1 := fun e12 => asked_ok c hS hZ wt zt30 (e0 := some (.val (.scr (ns.map D.int)))) (e1 := some (.val (.lst (S.map syE)))) (e2 := some (.val (.lst (vs.map D.str)))) (e4 := some (.val (.lst (r3.map D.int)))) (e5 := some (.val (.int (room : Int)))) (e6 := some (.val (.int tu))) (e7 := some (.val (.lst (r4.map D.int)))) (e8 := some (.val (enc tm))) (e9 := some (.val (enc tn))) (e12 := e12)
  have a2 := fun e12 => asked_ok c hS hZ wn zn30 (e0 := some (.val (.scr (ns.map D.int)))) (e1 := some (.val (.lst (S.map syE)))) (e2 := some (.val (.lst (vs.map D.str)))) (e4 := some (.val (.lst (r3.map D.int)))) (e5 := some (.val (.int (room : Int)))) (e6 := some (.val (.int tu))) (e7 := some (.val (.lst (r4.map D.int)))) (e8 := some (.val (enc tm))) (e9 := some (.val (enc tn))) (e12 := e12)
  have s10 : lw10 c [some (.val (.scr (ns.map D.int))), some (.val (.lst (S.map syE))), some (.val (.lst (vs.map D.str))), some (.val (.lst ((twos S).map D.str))), some (.val (.lst (r3.map D.int))), some (.val (.int (room : Int))), some (.val (.int tu)), some (.val (.lst (r4.map D.int))), some (.val (enc tm)), some (.val (enc tn)), some (.val (sgD c S)), none, none] = some (.nx [some (.val (.scr (ns.map D.int))), some (.val (.lst (S.map syE))), some (.val (.lst (vs.map D.str))), some (.val (.lst ((twos S).map D.str))), some (.val (.lst (r3.map D.int))), some (.val (.int (room : Int))), some (.val (.int tu)), some (.val (.lst (r4.map D.int))), some (.val (enc tm)), some (.val (enc tn)), some (.val (sgD c S)), some (.val (enc tm)), none]) := by
    have it : itemsA (lstM (consM (nameV 8) (consM (nameV 9) (consM (nameV 8) nilM)))) [some (.val (.scr (ns.map D.int))), some (.val (.lst (S.map syE))), some (.val (.lst (vs.map D.str))), some (.val (.lst ((twos S).map D.str))), some (.val (.lst (r3.map D.int))), some (.val (.int (room : Int))), some (.val (.int tu)), some (.val (.lst (r4.map D.int))), some (.val (enc tm)), some (.val (enc tn)), some (.val (sgD c S)), none, none] = some [enc tm, enc tn, enc tm] := by simp
    unfold lw10 Dl.forM
    rw [it]
    show ((l1_law c [some (.val (.scr (ns.map D.int))), some (.val (.lst (S.map syE))), some (.val (.lst (vs.map D.str))), some (.val (.lst ((twos S).map D.str))), some (.val (.lst (r3.map D.int))), some (.val (.int (room : Int))), some (.val (.int tu)), some (.val (.lst (r4.map D.int))), some (.val (enc tm)), some (.val (enc tn)), some (.val (sgD c S)), some (.val (enc tm)), none]).bind _) = _
    rw [a1]
    show ((l1_law c [some (.val (.scr (ns.map D.int))), some (.val (.lst (S.map syE))), some (.val (.lst (vs.map D.str))), some (.val (.lst ((twos S).map D.str))), some (.val (.lst (r3.map D.int))), some (.val (.int (room : Int))), some (.val (.int tu)), some (.val (.lst (r4.map D.int))), some (.val (enc tm)), some (.val (enc tn)), some (.val (sgD c S)), some (.val (enc tn)), none]).bind _) = _
    rw [a2]
    show ((l1_law c [some (.val (.scr (ns.map D.int))), some (.val (.lst (S.map syE))), some (.val (.lst (vs.map D.str))), some (.val (.lst ((twos S).map D.str))), some (.val (.lst (r3.map D.int))), some (.val (.int (room : Int))), some (.val (.int tu)), some (.val (.lst (r4.map D.int))), some (.val (enc tm)), some (.val (enc tn)), some (.val (sgD c S)), some (.val (enc tm)), none]).bind _) = _
    rw [a1]
    rfl
  have s11 : lw11 c [some (.val (.scr (ns.map D.int))), some (.val (.lst (S.map syE))), some (.val (.lst (vs.map D.str))), some (.val (.lst ((twos S).map D.str))), some (.val (.lst (r3.map D.int))), some (.val (.int (room : Int))), some (.val (.int tu)), some (.val (.lst (r4.map D.int))), some (.val (enc tm)), some (.val (enc tn)), some (.val (sgD c S)), some (.val (enc tm)), none] = some (.rt (.bl true)) := by
    unfold lw11
    simp [eq2, hfld, tupleD, retF, hsl]
  refine body_rt rfl ?_
  rw [lw_split]
  show (seqM (lw0 c) _) [some (.val (.scr (ns.map D.int))), none, none, none, none, none, none, none, none, none, none, none, none] = _
  rw [seq_nx s0, seq_nx s1, seq_nx s2, seq_nx s3, seq_nx s4, seq_nx s5, seq_nx s6, seq_nx s7, seq_nx s8, seq_nx s9, seq_nx s10, s11]
end My

open PySem PySem.W PyProof.Rows
set_option maxRecDepth 100000 in
set_option maxHeartbeats 0 in
theorem PySem.Challenge.cw_twowaysigns_k05_own_turnings_whole_holds : PySem.Challenge.rw_twowaysigns_k05_own_turnings_whole.Holds := by
  w_on; o_law; k_head; (case hw => w_witness2)
  k_fill
  refine Dl.walk_G (l := PySem.Challenge.rw_twowaysigns_k05_own_turnings_whole) (n := 63) (k := 133) (x := "script") rfl (by decide) rfl ⟨rfl, by decide, by decide⟩ (fun w h Y => PySem.W.km_in_of Y) ?F
  case F =>
    intro w mg fa h Y KX G hmg
    km_tabs Y
    refine' My.all_mk KX G hmg My.law_true ?aC_Signature ?pg_Signature ?hd_Signature ?po_Signature ?sa_Signature ?mk_Signature ?kc_Signature ?nf_Signature_ranks ?nf_Signature_symbols ?a0 ?l0 ?c0 ?k0 ?a1 ?l1 ?c1 ?k1 ?a2 ?l2 ?c2 ?k2 ?a3 ?l3 ?c3 ?k3 ?a4 ?i4 ?l4 ?c4 ?k4 ?a5 ?l5 ?c5 ?k5 ?a6 ?i6 ?l6 ?c6 ?k6 ?a7 ?l7 ?c7 ?k7 ?v7 ?p7 ?h7 ?t7 ?nl7 ?a8 ?l8 ?c8 ?k8 ?a9 ?l9 ?c9 ?k9 ?a10 ?l10 ?c10 ?k10 ?a11 ?l11 ?c11 ?k11 ?a12 ?l12 ?c12 ?k12 ?a13 ?l13 ?c13 ?k13 ?a14 ?l14 ?c14 ?k14 ?a15 ?l15 ?c15 ?k15 ?a16 ?l16 ?c16 ?k16 ?a17 ?l17 ?c17 ?k17 ?a18 ?l18 ?c18 ?k18 ?a19 ?l19 ?c19 ?k19 ?a20 ?i20 ?l20 ?c20 ?k20 ?a21 ?l21 ?c21 ?k21 ?a22 ?l22 ?c22 ?k22 ?a23 ?l23 ?c23 ?k23 ?a24 ?l24 ?c24 ?k24 ?a25 ?l25 ?c25 ?k25 ?a26 ?l26 ?c26 ?k26 ?a27 ?l27 ?c27 ?k27 ?a28 ?l28 ?c28 ?k28 ?a29 ?l29 ?c29 ?k29 ?a30 ?l30 ?c30 ?k30 ?a31 ?l31 ?c31 ?k31 ?a32 ?l32 ?c32 ?k32 ?a33 ?l33 ?c33 ?k33 ?a34 ?l34 ?c34 ?k34 ?a35 ?l35 ?c35 ?k35 ?a36 ?l36 ?c36 ?k36 ?a37 ?l37 ?c37 ?k37 ?a38 ?l38 ?c38 ?k38 ?a39 ?l39 ?c39 ?k39 ?a40 ?l40 ?c40 ?k40 ?y_bool ?y_enumerate ?y_int ?y_isinstance ?y_len ?y_range ?y_repr ?y_reversed ?y_sorted ?y_str ?y_tuple ?y_zip ?y_DIGITS ?y_SMALL_LETTERS ?z_digits
    (case aC_Signature => k_is); (case pg_Signature => k_is); (case hd_Signature => k_is)
    (case po_Signature => k_is); (case sa_Signature => k_is); (case mk_Signature => k_is)
    (case kc_Signature => k_is); (case nf_Signature_ranks => k_is); (case nf_Signature_symbols => k_is)
    (case a0 => k_is); (case l0 => k_is); (case c0 => k_is)
    (case k0 => k_is); (case a1 => k_is); (case l1 => k_is)
    (case c1 => k_is); (case k1 => k_is); (case a2 => k_is)
    (case l2 => k_is); (case c2 => k_is); (case k2 => k_is)
    (case a3 => k_is); (case l3 => k_is); (case c3 => k_is)
    (case k3 => k_is); (case a4 => k_is); (case i4 => k_is)
    (case l4 => k_is); (case c4 => k_is); (case k4 => k_is)
    (case a5 => k_is); (case l5 => k_is); (case c5 => k_is)
    (case k5 => k_is); (case a6 => k_is); (case i6 => k_is)
    (case l6 => k_is); (case c6 => k_is); (case k6 => k_is)
    (case a7 => k_is); (case l7 => k_is); (case c7 => k_is)
    (case k7 => k_is); (case v7 => k_is); (case p7 => rfl)
    (case h7 => kernel_rfl); (case t7 => exact hT8 _ (by decide)); (case nl7 => kernel_rfl)
    (case a8 => k_is); (case l8 => k_is); (case c8 => k_is)
    (case k8 => k_is); (case a9 => k_is); (case l9 => k_is)
    (case c9 => k_is); (case k9 => k_is); (case a10 => k_is)
    (case l10 => k_is); (case c10 => k_is); (case k10 => k_is)
    (case a11 => k_is); (case l11 => k_is); (case c11 => k_is)
    (case k11 => k_is); (case a12 => k_is); (case l12 => k_is)
    (case c12 => k_is); (case k12 => k_is); (case a13 => k_is)
    (case l13 => k_is); (case c13 => k_is); (case k13 => k_is)
    (case a14 => k_is); (case l14 => k_is); (case c14 => k_is)
    (case k14 => k_is); (case a15 => k_is); (case l15 => k_is)
    (case c15 => k_is); (case k15 => k_is); (case a16 => k_is)
    (case l16 => k_is); (case c16 => k_is); (case k16 => k_is)
    (case a17 => k_is); (case l17 => k_is); (case c17 => k_is)
    (case k17 => k_is); (case a18 => k_is); (case l18 => k_is)
    (case c18 => k_is); (case k18 => k_is); (case a19 => k_is)
    (case l19 => k_is); (case c19 => k_is); (case k19 => k_is)
    (case a20 => k_is); (case i20 => k_is); (case l20 => k_is)
    (case c20 => k_is); (case k20 => k_is); (case a21 => k_is)
    (case l21 => k_is); (case c21 => k_is); (case k21 => k_is)
    (case a22 => k_is); (case l22 => k_is); (case c22 => k_is)
    (case k22 => k_is); (case a23 => k_is); (case l23 => k_is)
    (case c23 => k_is); (case k23 => k_is); (case a24 => k_is)
    (case l24 => k_is); (case c24 => k_is); (case k24 => k_is)
    (case a25 => k_is); (case l25 => k_is); (case c25 => k_is)
    (case k25 => k_is); (case a26 => k_is); (case l26 => k_is)
    (case c26 => k_is); (case k26 => k_is); (case a27 => k_is)
    (case l27 => k_is); (case c27 => k_is); (case k27 => k_is)
    (case a28 => k_is); (case l28 => k_is); (case c28 => k_is)
    (case k28 => k_is); (case a29 => k_is); (case l29 => k_is)
    (case c29 => k_is); (case k29 => k_is); (case a30 => k_is)
    (case l30 => k_is); (case c30 => k_is); (case k30 => k_is)
    (case a31 => k_is); (case l31 => k_is); (case c31 => k_is)
    (case k31 => k_is); (case a32 => k_is); (case l32 => k_is)
    (case c32 => k_is); (case k32 => k_is); (case a33 => k_is)
    (case l33 => k_is); (case c33 => k_is); (case k33 => k_is)
    (case a34 => k_is); (case l34 => k_is); (case c34 => k_is)
    (case k34 => k_is); (case a35 => k_is); (case l35 => k_is)
    (case c35 => k_is); (case k35 => k_is); (case a36 => k_is)
    (case l36 => k_is); (case c36 => k_is); (case k36 => k_is)
    (case a37 => k_is); (case l37 => k_is); (case c37 => k_is)
    (case k37 => k_is); (case a38 => k_is); (case l38 => k_is)
    (case c38 => k_is); (case k38 => k_is); (case a39 => k_is)
    (case l39 => k_is); (case c39 => k_is); (case k39 => k_is)
    (case a40 => k_is); (case l40 => k_is); (case c40 => k_is)
    (case k40 => k_is); (case y_bool => k_is); (case y_enumerate => k_is)
    (case y_int => k_is); (case y_isinstance => k_is); (case y_len => k_is)
    (case y_range => k_is); (case y_repr => k_is); (case y_reversed => k_is)
    (case y_sorted => k_is); (case y_str => k_is); (case y_tuple => k_is)
    (case y_zip => k_is); (case y_DIGITS => k_is); (case y_SMALL_LETTERS => k_is)
    (case z_digits => unfold Dl.NoDg; k_is)
