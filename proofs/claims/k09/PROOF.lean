import PyProof.Rows.All
import Wide.All
import OpenK.AllK
import Wide.FinOn
import HandS.ForMost
import PyProof.ReprRoads
import PyProof.ReprBulk
import HandS.EndBits
import HandS.Wide
import PySem.Challenge.RW_numberpapers_k09_whole_counts_of_three
set_option Elab.async false
set_option linter.all false
set_option maxRecDepth 100000
set_option maxHeartbeats 4000000
/-! promises of defs that are called with no text of an object under way, and what shows data as texts -/
namespace GB
open PySem PySem.Spec PyProof.Rows L2

/-- as FnOk, where no text of an object is under way -/
structure GOk (pr : Program) (wd : World) (fr : PySem.W.Frag) (mod : Str → Option Value) (bh : Heap) (cx : CXT) (lev : Nat) (at_ : Addr) (fun_ : FuncData) (pars : List Str) (say : Sp) : Prop where
  arity : ∀ us T Q E, say us T Q E → us.length = pars.length
  go : ∀ (B : Around) (callers : List Env) (st : Shared) (T : Hp) (given : Args) (ws : List Value) (us : List V) (Q : VK) (E : XK), B.guards = some [] → Room lev B →
    Env0 pr wd fr mod bh B callers st T → BindsTo st fun_ given (pars.zip ws) → Vals us ws → say us T Q E →
    codeAny (model pr wd) B (.call (.ref at_) given) (CR cx callers pr wd T st Q E) st

section
variable {pr : Program} {wd : World} {fr : PySem.W.Frag} {mod : Str → Option Value} {bh : Heap} {cx : CXT} {lev : Nat} {at_ : Addr} {fun_ : FuncData} {pars : List Str} {say : Sp}
theorem GOk.of (z : FnOk pr wd fr mod bh cx lev at_ fun_ pars say) : GOk pr wd fr mod bh cx lev at_ fun_ pars say :=
  ⟨z.len, fun B cs st T g ws us Q E _ room env bs vs hs => z.run B cs st T g ws us Q E room env bs vs hs⟩
theorem GOk.mono {lev' : Nat} (z : GOk pr wd fr mod bh cx lev at_ fun_ pars say) (le : lev ≤ lev') : GOk pr wd fr mod bh cx lev' at_ fun_ pars say :=
  ⟨z.arity, fun B cs st T g ws us Q E hg room => z.go B cs st T g ws us Q E hg (room.mono le)⟩
end

/-- a def by its body, where no text is under way -/
theorem fun_okG {pr : Program} {wd : World} {fr : PySem.W.Frag} {mod : Str → Option Value} {bh : Heap} {nm qn : Str} {st : Stmt} {at_ : Addr} {fun_ : FuncData} {names pars : List Str} {lev : Nat} {say : Sp}
    (Z : Fun fr nm qn st at_ fun_) (S : FnScope names pars (defScope st)) (arity : ∀ us T Q E, say us T Q E → us.length = pars.length)
    (body : ∀ (cv : Value) (B : Around) (callers : List Env) (s : Shared) (T : Hp) (us : List V) (Q : VK) (E : XK), (B.deeper (envOfC qn (defScope st) s.heap.objs.size at_ cv)).guards = some [] →
      Room lev (B.deeper (envOfC qn (defScope st) s.heap.objs.size at_ cv)) → say us T Q E →
      ∃ t, PSs (cxOf CX0 pr wd fr mod bh names qn (defScope st) at_ cv B callers s T E).nox (defBody st) t ∧ t { nx := fun _ T' => Q .non T', rt := Q } (start names us) T) :
    GOk pr wd fr mod bh CX0 (lev + 1) at_ fun_ pars say := by
  obtain ⟨oc, od, kV, doc, pm, an, cv, ct, osl, rfl, found, hcode⟩ := Z.ex
  refine ⟨arity, fun B callers s T given ws us Q E noguard room env bnd vals hsay => ?_⟩
  have many := arity _ _ _ _ hsay
  have below : ∀ {b : Addr} {o : Obj}, bh.get? b = some o → s.heap.get? b = some o := fun q => (env.bs _ _ q).1
  have frIn : fr.In s.heap := env.mod.kin.keeps fun _ _ q => below q
  have nolim : s.heap.NoLimit := env.mod.nolimit.keeps fun _ _ q => below q
  have kinds : ∀ y ∈ pars.zip ws, (defScope st).names.lookup y.1 = some .local ∨ ((defScope st).names.lookup y.1 = some .cell ∧ ((cellsFrom (s.heap.objs.size + 1) (defScope st).names []).lookup y.1).isSome = true) := by
    intro y hy
    obtain ⟨n, v⟩ := y
    have hn : n ∈ pars := (List.of_mem_zip hy).1
    exact (S.par n hn).elim Or.inl fun q => Or.inr ⟨q, PySem.W.cellsFrom_some _ _ _ (.inl q)⟩
  have entry := codeAny_call_function (prog := pr) (w := wd) (A := B) (args := given) (R := CR CX0 callers pr wd T s Q E) (s := s) room.depth (frIn _ _ found) rfl S.co S.gen rfl (PySem.W.codeRec_of frIn hcode)
  refine entry (bnd _ _ _ _ ?_)
  refine wpAny_newFunctionEnv_cells S.kind kinds fun env' henv s1 hs1 => ?_
  subst henv
  refine ⟨nolim.keeps hs1.toInCall.keep, codeAny_func ?_⟩
  obtain ⟨t, hder, hread⟩ := body cv B callers s T us Q E (by exact noguard) (room.deeper _) hsay
  have inv0 := inv_start (CX := CX0) (P := pr) (w := wd) (mg := mod) (E := E) (cd := cv) S room.hd env many vals hs1
  have finish : ∀ {σ' : L2.St} {T' : Hp} {v : V} {u : Value} {s' : Shared}, Inv (cxOf CX0 pr wd fr mod bh names qn (defScope st) at_ cv B callers s T E) [] σ' T' s' → RelV v u → Q v T' → CE callers pr wd T s Q u s' :=
    fun J rv q => ⟨_, _, J.os, J.bare, J.base, J.hok, rv, q⟩
  have ran := hder.nox.run [] s1 (start names us) T _ inv0 hread
  refine wpAny_mono ran (fun fl s' got => ?_) fun _ _ got => got
  match fl, got with
  | .ret u, ⟨_, _, _, J, rv, q⟩ => exact finish J rv q
  | .next, ⟨_, _, J, q⟩ => exact finish (v := V.non) (u := Value.none) J rfl q
  | .brk, ⟨_, _, _, q⟩ => exact q.elim
  | .cont, ⟨_, _, _, q⟩ => exact q.elim

section
variable {X : Cx} {cx : CXT} {lev : Nat} {at_ : Addr} {fun_ : FuncData} {pars : List Str} {say : Sp} {more : List V} {dfl : List Value} {E : XK} {x : Str} {p pos : Pos} {e : Expr} {es : List Expr} {t : TA}
theorem run_G {pins : List (Addr × Obj)} {σ : L2.St} {T : Hp} {s : Shared} {Q : VK} {ws : List Value} {us : List V} (Z : GOk X.prog X.w X.K X.mg X.base cx lev at_ fun_ pars say) (noguard : X.A.guards = some []) (room : Room lev X.A)
    (bnd : Binds X.K fun_ pars dfl) (dv : Vals more dfl) (pass : Passes cx X E) (J : Inv X pins σ T s) (vs : Vals us ws) (hs : say (us ++ more) T Q E) : wpAny (model X.prog X.w) X.A (call (.ref at_) ws) (EP X pins σ Q) X.xe s := by
  have both : Vals (us ++ more) (ws ++ dfl) := vs.append dv
  have many : (ws ++ dfl).length = pars.length := both.length.symm.trans (Z.arity _ _ _ _ hs)
  have ran := Z.go X.A X.stack s T ⟨ws, []⟩ (ws ++ dfl) (us ++ more) Q E noguard room J.env0 (bnd s ws J.kIn many) both hs
  refine wpAny_call (codeAny_mono ran fun r s' got => ?_)
  match r, got with
  | .error er, got => exact pass pins σ T s er s' J got
  | .ok (.ret u), got => exact J.after got
  | .ok .next, got => exact got.elim
  | .ok .brk, got => exact got.elim
  | .ok .cont, got => exact got.elim
/-- f(e, ..) of a def that shows texts -/
theorem pe_callG (Z : GOk X.prog X.w X.K X.mg X.base cx lev at_ fun_ pars say) (noguard : X.A.guards = some []) (room : Room lev X.A) (hg : Gl X x) (hm : X.mg x = some (.ref at_)) (hk : PySem.W.keepIn X.K (.ref at_) = true)
    (bnd : Binds X.K fun_ pars dfl) (dv : Vals more dfl) (pass : Passes cx X E) (ha : PA X (e :: es) t) (nodb : (x == ("__debug__" : Str)) = false := by decide)
    (hstar : starEach (e :: es) X.env = (false, eval e X.env) :: starEach es X.env := by rfl) (nostar : (backTo pos (starEach es X.env)).any (·.1) = false := by rfl) :
    PE X (.Call (.Name x p) (e :: es) [] pos) (tCall say more E t) := by
  constructor
  intro pins s σ T Q J got
  refine wpAny_Call_Name_kw (ld_glob J hg hm ?_ nodb)
  have args := ha.run pos pins s σ T _ J got
  refine PySem.W.callWith_K (h₀ := X.base) J.ok.mod.kin hk (thn args fun ws s1 ⟨us, T1, J1, rel, q⟩ => ?_) hstar nostar
  exact ⟨J1.kIn, run_G Z noguard room bnd dv pass J1 rel q⟩
end

/-! ### texts of data -/
theorem repr_leaf {pr : Program} {wd : World} {A : Around} {E : Value → Shared → Prop} {s : Shared} {Q : Value → Shared → Prop} {u : Value} {d : PyData} {as : List Addr} (r : Reads s.heap u d as) (sh : d.showable = true) (nd : d.hasDict = false)
    (hz : d.shown.length ≤ sizeLine) (ng : A.guards = some []) (hu : A.units + (d.depth + 1) < cLine)
    (hQ : ∀ h' t tk, (∀ b o, s.heap.get? b = some o → h'.get? b = some o) → Q (.str d.shown t) { s with heap := h', toks := tk }) : wpAny (model pr wd) A (call (.builtin "repr") [u]) Q E s := by
  cases u with
  | ref a => exact repr_of_reads' r sh (fun z => absurd z (by rw [nd]; decide)) ng hu (fun _ _ q => q) hQ hz
  | none => cases r; exact PySem.P.repr_of_none (hQ s.heap _ _ fun _ _ q => q)
  | bool b => cases r; exact PySem.P.repr_of_bool (hQ s.heap _ _ fun _ _ q => q)
  | int i t =>
    cases r
    refine PySem.P.repr_of_int ?_ (hQ s.heap _ _ fun _ _ q => q)
    simpa [PyData.showable] using sh
  | str x t => cases r; exact PySem.P.repr_of_str (hQ s.heap _ _ fun _ _ q => q) hz
  | _ => cases r

/-- data that repr shows in the model's bounds -/
structure Shows (d : PyData) : Prop where
  able : d.showable = true
  nodict : d.hasDict = false
  size : d.shown.length ≤ sizeLine
  deep : d.depth ≤ 50
theorem call_repr {X : Cx} (ng : X.A.guards = some []) (hu : X.A.units + 64 < cLine) : CallR X (.builtin "repr") (fun xs T Q => ∃ v d, xs = [v] ∧ Dp X.K T v d ∧ Shows d ∧ Q (.str d.shown) T) := by
  intro pins s σ T xs us Q J rel got
  obtain ⟨v, d, rfl, hd, sh, q⟩ := got
  obtain ⟨u, rfl, rv⟩ := vals1 rel
  obtain ⟨as, reads⟩ := Dp.reads J d v u hd rv
  refine repr_leaf reads sh.able sh.nodict sh.size ng (by have := sh.deep; omega) fun h' t tk keep => ?_
  exact ⟨.str d.shown, T, J.kept keep, ⟨t, rfl⟩, q⟩
end GB
namespace GB
open PySem PySem.Spec PyProof.Rows L2
/-! the law's own call, where no text is under way -/
section
variable {pr : Program} {wd : World} {fr : PySem.W.Frag} {mod bi : Str → Option Value} {lev : Nat} {law sc : Addr} {fun_ : FuncData} {par : Str} {say : Sp} {s : Shared} {vs : List Value} {ns : List Int}
/-- the heap behind the top, its script tracked as locked (or not at all, where the written part has it) -/
theorem enter_law (frIn : fr.In s.heap) (gl : s.heap.Ns mainGlobals mod) (bn : s.heap.Ns builtinsNs bi) (bv : ∀ y : Str, y ≠ "__name__" → bi y = bootBuiltins y) (nolim : s.heap.NoLimit) (gens : s.gens = #[])
    (obj : s.heap.get? sc = some { cls := .type "list", data := .seq vs.toArray }) (room : Room lev callerA)
    (Z : ∀ bh : Heap, fr.In bh → bh.Ns mainGlobals mod → GOk pr wd fr mod bh CX0 lev law fun_ [par] say) (bnd : ∀ (t : Shared) (u : Value), BindsTo t fun_ ⟨[u], []⟩ [(par, u)])
    (T : Hp) (only : Only T) (ok : HOk pr wd T s.heap) (at_ : ∀ b, T b ≠ none → b = sc ∧ fr.lookup sc = none) (hs : say [.ref sc] T (fun v _ => v = .bl true) E0) :
    codeAny (model pr wd) callerA (.call (.ref law) ⟨[.ref sc], []⟩) (fun r t => r = .ok (.ret (.bool true)) ∧ OldK s.heap t.heap ∧ t.os = s.os ∧ AllBare t.gens) s := by
  have some_of : ∀ {b : Addr} {u : HO}, T b = some u → b = sc ∧ fr.lookup sc = none := fun q => at_ _ (fun z => by rw [z] at q; cases q)
  -- a dict is not the script
  have dicts : ∀ {b : Addr} {m : Str → Option Value}, s.heap.Ns b m → (hidT s.heap T).Ns b m := by
    rintro b m ⟨o, es, n, h1, h2, h3⟩
    refine ⟨o, es, n, hidT_get h1 ?_, h2, h3⟩
    cases q : T b with
    | none => rfl
    | some u =>
      obtain ⟨rfl, _⟩ := some_of q
      rw [obj] at h1
      cases h1
      exact nomatch h2
  have frIn' : fr.In (hidT s.heap T) := by
    intro b o q
    refine hidT_get (frIn b o q) ?_
    cases z : T b with
    | none => rfl
    | some u =>
      obtain ⟨rfl, z2⟩ := some_of z
      rw [z2] at q
      cases q
  obtain ⟨ml, l1, l2⟩ := nolim
  have modOk : Mod fr mod (hidT s.heap T) := { kin := frIn', glob := dicts gl, blt := ⟨bi, dicts bn, bv⟩, nolimit := ⟨ml, dicts l1, l2⟩ }
  have env : Env0 pr wd fr mod (hidT s.heap T) callerA [] s T :=
    { frames := rfl, mod := modOk, bs := fun _ _ q => of_hidT q, bsz := Nat.le_of_eq (hidT_size s.heap T), funs := trivial, frf := fun b hb => (List.not_mem_nil hb).elim, hok := ok, bare := AllBare.of_eq gens }
  have ran := (Z _ frIn' (dicts gl)).go callerA [] s T ⟨[.ref sc], []⟩ [.ref sc] [.ref sc] (fun v _ => v = .bl true) E0 rfl room env (bnd s (.ref sc)) (.cons rfl .nil) hs
  refine codeAny_mono ran fun r t got => ?_
  match r, got with
  | .error _, got => exact False.elim got
  | .ok .next, got => exact False.elim got
  | .ok .brk, got => exact False.elim got
  | .ok .cont, got => exact False.elim got
  | .ok (.ret u), ⟨v, T', os, bare, un, ok', rel, val⟩ =>
    have ev : v = .bl true := val
    subst ev
    have eu : u = Value.bool true := rel
    subst eu
    refine ⟨rfl, OldK.of_keep fun b o q => ?_, os, bare⟩
    rcases only b with z | ⟨ob, xs, z⟩
    · exact un.keep b o q z (fun y => (List.not_mem_nil y).elim) (fun y => (List.not_mem_nil y).elim)
    · have e1 : s.heap.get? b = some ob := (ok b _ z).1
      have e2 : t.heap.get? b = some ob := (ok' b _ (un.frzs b ob _ z)).1
      rw [q] at e1
      rw [e2, ← e1]
theorem law_callG (frIn : fr.In s.heap) (gl : s.heap.Ns mainGlobals mod) (bn : s.heap.Ns builtinsNs bi) (bv : ∀ y : Str, y ≠ "__name__" → bi y = bootBuiltins y) (nolim : s.heap.NoLimit) (gens : s.gens = #[])
    (obj : s.heap.get? sc = some { cls := .type "list", data := .seq vs.toArray }) (hints : IntsAre vs ns) (few : ns.length ≤ sizeLine) (room : Room lev callerA)
    (Z : ∀ bh : Heap, fr.In bh → bh.Ns mainGlobals mod → GOk pr wd fr mod bh CX0 lev law fun_ [par] say) (bnd : ∀ (t : Shared) (u : Value), BindsTo t fun_ ⟨[u], []⟩ [(par, u)])
    (hs : ∀ T : Hp, Only T → SqL fr T sc (ns.map V.int) → say [.ref sc] T (fun v _ => v = .bl true) E0) :
    codeAny (model pr wd) callerA (.call (.ref law) ⟨[.ref sc], []⟩) (fun r t => r = .ok (.ret (.bool true)) ∧ OldK s.heap t.heap ∧ t.os = s.os ∧ AllBare t.gens) s := by
  have vals := vals_ints hints
  cases known : fr.lookup sc with
  | some o =>
    have e := frIn sc o known
    rw [obj] at e
    cases e
    have none_ : ∀ b : Addr, (fun _ => none : Hp) b = none := fun _ => rfl
    refine enter_law frIn gl bn bv nolim gens obj room Z bnd (fun _ => none) (fun b => .inl rfl) (fun b u q => nomatch q) (fun b q => absurd rfl q) (hs _ (fun b => .inl rfl) (.inr ⟨_, vs.toArray, _, known, rfl, rfl, rfl, ?_, ?_⟩))
    · rw [List.size_toArray, hints.length]; exact few
    · simpa using vals
  | none =>
    have here : ∀ b, (fun b => if b = sc then some (HO.frz { cls := .type "list", data := .seq vs.toArray } (.lst (ns.map V.int))) else none : Hp) b = if b = sc then some (HO.frz { cls := .type "list", data := .seq vs.toArray } (.lst (ns.map V.int))) else none := fun _ => rfl
    have only : Only (fun b => if b = sc then some (HO.frz { cls := .type "list", data := .seq vs.toArray } (.lst (ns.map V.int))) else none) := fun b => by
      by_cases e : b = sc
      · exact .inr ⟨_, _, if_pos e⟩
      · exact .inl (if_neg e)
    refine enter_law frIn gl bn bv nolim gens obj room Z bnd _ only (fun b u q => ?_) (fun b q => ?_) (hs _ only (.inl (.inr ⟨_, if_pos rfl⟩)))
    · by_cases e : b = sc
      · subst e
        have q' := (if_pos rfl).symm.trans q
        cases q'
        exact ⟨obj, by rw [List.length_map]; exact few, vs, _, vals, obj⟩
      · exact nomatch (if_neg e).symm.trans q
    · by_cases e : b = sc
      · exact ⟨e, known⟩
      · exact absurd (if_neg e) q
end
/-- the end of a law's proof, as walk_ofK, over a def that shows texts -/
theorem walk_ofG {l : PySem.W.OpenLaw} {n lev : Nat} {q : Program} {loose : List Str} {XP : (Str → Option Value) → Heap → Prop} {YP : World → Heap → Prop} {d : DefRec} {fr : Params → PySem.W.Frag} {say : PySem.W.Frag → Sp} {par : Str}
    (hmost : l.most = some n) (hsmall : n ≤ sizeLine) (hnodef : d.params.defaults = []) (room : Room lev callerA) (hin : ∀ (wd : World) (h : Heap), YP wd h → (fr wd.params).In h)
    (Z : ∀ (wd : World) (mod : Str → Option Value) (fa : Addr) (h : Heap), (fr wd.params).In h → h.Ns mainGlobals mod → mod d.name = some (.ref fa) →
      ∃ fun_ : FuncData, (∀ (t : Shared) (u : Value), BindsTo t fun_ ⟨[u], []⟩ [(par, u)]) ∧ ∀ bh : Heap, (fr wd.params).In bh → bh.Ns mainGlobals mod → GOk l.prog wd (fr wd.params) mod bh CX0 lev fa fun_ [par] (say (fr wd.params)))
    (hs : ∀ (K : PySem.W.Frag) (T : Hp) (a : Addr) (ns : List Int), ns.length ≤ n → (∀ z ∈ ns, Builtin.Int.intBits z ≤ 1048576) → Only T → SqL K T a (ns.map V.int) → say K [.ref a] T (fun v _ => v = .bl true) E0) :
    PySem.W.WalkO q loose XP YP l.row.toRowW d [] (fun f vs => PySem.call f vs) := by
  refine Att.attach_callB hmost hnodef ?_
  intro wd s₀ s mod mb fa o pm cd doc a vs ns G Y _ _ _ hmod hobj hints hlen hbits hgens
  have frIn := hin wd _ Y
  obtain ⟨fun_, bnd, body⟩ := Z wd mod fa _ frIn G.T.g hmod
  exact law_callG frIn G.T.g G.T.b G.T.builtins G.T.nolimit hgens hobj hints (Nat.le_trans hlen hsmall) room body bnd fun T only seq => hs _ T a ns hlen hbits only seq
end GB
namespace GB
open PySem PySem.Spec PyProof.Rows L2
/-! readings, a step at a time -/
section
variable {X : Cx} {K : PySem.W.Frag} {σ : L2.St} {H : Hp} {Q : VK} {D : Ends} {t u : TS} {ta tb te tx : TE} {c d : TT} {v w : V} {i j n m : Int} {k : Nat}
theorem r_var (h : σ[k]? = some (some v)) (q : Q v H) : tVar k σ H Q := ⟨v, h, q⟩
theorem r_c (q : Q v H) : tC v σ H Q := q
theorem r_op {r : R2} (q : ta σ H fun x H1 => tb σ H1 fun y H2 => r x y H2 Q) : tOp r ta tb σ H Q := q
theorem r_I0 {g : Int → Int → V} (q : Q (g i j) H) : rI0 g (.int i) (.int j) H Q := ⟨i, j, rfl, rfl, q⟩
theorem r_I {C : Int → Int → Prop} {g : Int → Int → V} (h : C i j) (q : Q (g i j) H) : rI C g (.int i) (.int j) H Q := ⟨i, j, rfl, rfl, h, q⟩
theorem r_un {r : V → Hp → VK → Prop} (q : ta σ H fun x H1 => r x H1 Q) : tUn r ta σ H Q := q
theorem r_U {g : Int → V} (q : Q (g i) H) : rU g (.int i) H Q := ⟨i, rfl, q⟩
theorem r_eqI (q : Q (.bl (decide (i = j))) H) : rEq (.int i) (.int j) H Q := by
  refine ⟨rfl, ?_⟩
  have e : decide ((V.int i) = (V.int j)) = decide (i = j) := decide_eq_decide.mpr ⟨fun z => V.int.inj z, fun z => by rw [z]⟩
  rw [e]; exact q
theorem r_neI (q : Q (.bl (!decide (i = j))) H) : rNe (.int i) (.int j) H Q := by
  refine ⟨rfl, ?_⟩
  have e : decide ((V.int i) = (V.int j)) = decide (i = j) := decide_eq_decide.mpr ⟨fun z => V.int.inj z, fun z => by rw [z]⟩
  rw [e]; exact q
theorem r_eqS {x y : Str} (q : Q (.bl (decide (x = y))) H) : rEq (.str x) (.str y) H Q := by
  refine ⟨rfl, ?_⟩
  have e : decide ((V.str x) = (V.str y)) = decide (x = y) := decide_eq_decide.mpr ⟨fun z => V.str.inj z, fun z => by rw [z]⟩
  rw [e]; exact q
def Bl (x : V) (H : Hp) (Q : Bool → Hp → Prop) : Prop := ∃ k, x = .bl k ∧ Q k H
theorem r_test {Q : Bool → Hp → Prop} (q : te σ H fun x H' => Bl x H' Q) : tTest te σ H Q := q
theorem r_B {Q : Bool → Hp → Prop} (q : te σ H fun x H' => Bl x H' Q) : tB te σ H Q := q
theorem r_bl {b : Bool} {Q : Bool → Hp → Prop} (q : Q b H) : Bl (.bl b) H Q := ⟨b, rfl, q⟩
theorem r_and {Q : Bool → Hp → Prop} (q : c σ H fun b H1 => if b = true then d σ H1 Q else Q false H1) : tAnd c d σ H Q := q
theorem r_or {Q : Bool → Hp → Prop} (q : c σ H fun b H1 => if b = true then Q true H1 else d σ H1 Q) : tOr c d σ H Q := q
theorem r_not {Q : Bool → Hp → Prop} (q : c σ H fun b H1 => Q (!b) H1) : tNot c σ H Q := q
theorem r_if (q : c σ H fun b H1 => if b = true then ta σ H1 Q else tb σ H1 Q) : tIf c ta tb σ H Q := q
theorem r_ite {p A B : Prop} [Decidable p] (h1 : p → A) (h2 : ¬ p → B) : if decide p = true then A else B := by
  by_cases h : p
  · rw [if_pos (decide_eq_true h)]; exact h1 h
  · rw [if_neg (by rw [decide_eq_false h]; decide)]; exact h2 h
theorem r_iteN {p A B : Prop} [Decidable p] (h1 : p → B) (h2 : ¬ p → A) : if (!decide p) = true then A else B := by
  by_cases h : p
  · rw [if_neg (by rw [decide_eq_true h]; decide)]; exact h1 h
  · rw [if_pos (by rw [decide_eq_false h]; rfl)]; exact h2 h
theorem r_iteB {b : Bool} {A B : Prop} (h1 : b = true → A) (h2 : b = false → B) : if b = true then A else B := by
  cases b with
  | true => exact h1 rfl
  | false => exact h2 rfl
theorem r_nT {A B : Prop} (q : B) : if (!true) = true then A else B := q
theorem r_nF {A B : Prop} (q : A) : if (!false) = true then A else B := q
theorem r_nil {Q : List V → Hp → Prop} (q : Q [] H) : tNil σ H Q := q
theorem r_cons {tr : TA} {Q : List V → Hp → Prop} (q : ta σ H fun x H1 => tr σ H1 fun xs H2 => Q (x :: xs) H2) : tCons ta tr σ H Q := q
theorem r_CB {r : List V → Hp → VK → Prop} {a : TA} (q : a σ H fun vs H1 => r vs H1 Q) : tCB r a σ H Q := q
theorem r_call {sp : Sp} {dvs : List V} {E : XK} {a : TA} (q : a σ H fun vs H1 => sp (vs ++ dvs) H1 Q E) : tCall sp dvs E a σ H Q := q
theorem r_seq (q : t { D with nx := u D } σ H) : tSeq t u D σ H := q
theorem r_asg {g : TG} (q : te σ H fun x H1 => g x σ H1 D.nx) : tAsg te g D σ H := q
theorem r_gname {Q : L2.St → Hp → Prop} (q : Q (σ.set k (some v)) H) : gName k v σ H Q := q
theorem r_ifs {c : TT} (q : c σ H fun b H1 => if b = true then t D σ H1 else u D σ H1) : tIfS c t u D σ H := q
theorem r_ret (q : te σ H D.rt) : tRet te D σ H := q
theorem r_retN (q : D.rt .non H) : tRetN D σ H := q
theorem r_drop (q : te σ H fun _ H1 => D.nx σ H1) : tDrop te D σ H := q
theorem r_next (q : D.nx σ H) : tNext D σ H := q
def Two (vs : List V) (H : Hp) (Q : V → V → Hp → Prop) : Prop := ∃ v w, vs = [v, w] ∧ Q v w H
theorem r_par {a b : Nat} {ta : TA} (q : ta σ H fun vs H1 => Two vs H1 fun v w H2 => D.nx ((σ.set a (some v)).set b (some w)) H2) : tPar a b ta D σ H := q
theorem r_two {Q : V → V → Hp → Prop} (q : Q v w H) : Two [v, w] H Q := ⟨v, w, rfl, q⟩
theorem r_aug {ti : TIp} (h : σ[k]? = some (some v)) (q : te σ H fun y H1 => ti v y H1 fun z H2 => D.nx (σ.set k (some z)) H2) : tAug k te ti D σ H := ⟨v, h, q⟩
theorem r_ipI {f : Int → Int → Int} (q : Q (.int (f i j)) H) : ipI f (.int i) (.int j) H Q := ⟨i, j, rfl, rfl, q⟩
def rInt : List V → Hp → VK → Prop := fun xs H Q => (∃ i, xs = [.int i] ∧ Q (.int i) H) ∨ ∃ k, xs = [.bl k] ∧ Q (.int (if k then 1 else 0)) H
theorem call_intB : CallR X (.type "int") rInt := call_int1
theorem r_int1 (q : Q (.int i) H) : rInt [.int i] H Q := .inl ⟨i, rfl, q⟩
theorem r_intB {b : Bool} (q : Q (.int (if b then 1 else 0)) H) : rInt [.bl b] H Q := .inr ⟨b, rfl, q⟩
def rDGet : R2 := fun x y H Q => ∃ a v, x = .ref a ∧ DGet H a y (some v) ∧ Q v H
def rDPut (x y v : V) (H : Hp) (Q : Hp → Prop) : Prop := ∃ a H4, x = .ref a ∧ DPut H a y v H4 ∧ Q H4
theorem r_dget {td ty : TE} (q : td σ H fun x H1 => ty σ H1 fun y H2 => rDGet x y H2 Q) : tDGet td ty σ H Q := q
theorem r_dput {td ty tv : TE} (q : tv σ H fun v H1 => td σ H1 fun x H2 => ty σ H2 fun y H3 => rDPut x y v H3 fun H4 => D.nx σ H4) : sDPut td ty tv D σ H := q
def rDIn (neg : Bool) : R2 := fun y x H Q => ∃ a o, x = .ref a ∧ DGet H a y o ∧ Q (.bl (if neg then !o.isSome else o.isSome)) H
theorem r_din {td ty : TE} (q : ty σ H fun y H1 => td σ H1 fun x H2 => rDIn false y x H2 Q) : tDIn ty td σ H Q := q
theorem r_dnin {td ty : TE} (q : ty σ H fun y H1 => td σ H1 fun x H2 => rDIn true y x H2 Q) : tDNotIn ty td σ H Q := q
end

/-! great numbers by their bits -/
def Bt (n : Nat) (x : Int) : Prop := x.natAbs < 2 ^ n
theorem Bt.mono {n m : Nat} {x : Int} (h : Bt n x) (l : n ≤ m) : Bt m x := Nat.lt_of_lt_of_le h (Nat.pow_le_pow_right (by decide) l)
theorem Bt.mul {n m : Nat} {x y : Int} (h : Bt n x) (g : Bt m y) : Bt (n + m) (x * y) := by
  unfold Bt at *
  rw [Int.natAbs_mul, Nat.pow_add]
  exact Nat.mul_lt_mul'' h g
theorem Bt.add {n : Nat} {x y : Int} (h : Bt n x) (g : Bt n y) : Bt (n + 1) (x + y) := by
  unfold Bt at *
  have e : 2 ^ (n + 1) = 2 ^ n + 2 ^ n := by rw [Nat.pow_succ]; omega
  omega
theorem Bt.sub {n : Nat} {x y : Int} (h : Bt n x) (g : Bt n y) : Bt (n + 1) (x - y) := by
  unfold Bt at *
  have e : 2 ^ (n + 1) = 2 ^ n + 2 ^ n := by rw [Nat.pow_succ]; omega
  omega
theorem Bt.of {n : Nat} {x : Int} {b : Nat} (h : x.natAbs < b) (l : b ≤ 2 ^ n) : Bt n x := Nat.lt_of_lt_of_le h l
theorem Bt.small {x : Int} (l : -(2 ^ 62) < x) (g : x < 2 ^ 62) : Bt 62 x := by
  unfold Bt
  omega
theorem Bt.le {n : Nat} {x y : Int} (h : Bt n y) (l : x.natAbs ≤ y.natAbs) : Bt n x := Nat.lt_of_le_of_lt l h
theorem Bt.ediv {n : Nat} {x y : Int} (h : Bt n x) (h0 : 0 ≤ x) (hy : 0 ≤ y) : Bt n (x / y) := by
  refine h.le ?_
  have h1 : x / y ≤ x := Int.ediv_le_self _ h0
  have h2 : 0 ≤ x / y := Int.ediv_nonneg h0 hy
  omega
theorem Bt.log {n : Nat} {x : Int} (h : Bt (n + 1) x) : x.natAbs.log2 ≤ n := by
  by_cases e : x.natAbs = 0
  · rw [e]; exact Nat.zero_le _
  · have h1 : 2 ^ x.natAbs.log2 ≤ x.natAbs := Nat.log2_self_le e
    have h2 : 2 ^ x.natAbs.log2 < 2 ^ (n + 1) := Nat.lt_of_le_of_lt h1 h
    exact Nat.le_of_lt_succ ((Nat.pow_lt_pow_iff_right (by decide)).mp h2)
theorem Bt.of_bits {n : Nat} {x : Int} (h : Builtin.Int.intBits x ≤ n) : Bt n x := by
  unfold Bt
  unfold Builtin.Int.intBits at h
  split at h
  · rename_i e
    have e' : x.natAbs = 0 := by
      have := e
      simp at this
      omega
    rw [e']; exact Nat.two_pow_pos n
  · exact Nat.lt_of_lt_of_le Nat.lt_log2_self (Nat.pow_le_pow_right (by decide) h)

/-- * of factors of together at most a hundred million bits -/
def CMulB (i j : Int) : Prop := ∃ n m, Bt (n + 1) i ∧ Bt (m + 1) j ∧ n + m ≤ 100000000
theorem CMulB.ok {i j : Int} (h : CMulB i j) : IntMulOk i j := by
  obtain ⟨n, m, h1, h2, h3⟩ := h
  have b : ∀ x : Int, Builtin.Int.intBits x ≤ x.natAbs.log2 + 1 := fun x => by
    unfold Builtin.Int.intBits
    split <;> omega
  have g1 := b i
  have g2 := b j
  have l1 := h1.log
  have l2 := h2.log
  have e : bitsLine = 134217728 := by decide
  unfold IntMulOk
  intro z
  rw [Bool.and_eq_true] at z
  have z2 := z.2
  unfold Builtin.Int.intTooBig at z2
  have z3 := of_decide_eq_true z2
  rw [e] at z3
  omega
theorem op_mulB {X : Cx} : OpR X (binaryOp .Mult) (rI CMulB fun i j => .int (i * j)) := opI fun _ _ _ _ _ _ _ hc q => mul_int q hc.ok
theorem CPow.small {i j : Int} (h0 : 0 ≤ j) (h1 : j ≤ 1000000) (h2 : -(2 ^ 62) < i) (h3 : i < 2 ^ 62) : CPow i j := ⟨h0, h1, by omega⟩
theorem CDivW.of {n : Nat} {i j : Int} (h : 0 < j) (hb : Bt (n + 1) j) (l : n < 9000) : CDivW i j := ⟨h, Nat.lt_of_le_of_lt hb.log l⟩
theorem CDivW.small {i j : Int} (h : 0 < j) (h2 : j < 2 ^ 62) : CDivW i j := CDivW.of (n := 61) h (Bt.small (by omega) h2) (by decide)
theorem CMulB.small {i j : Int} (h1 : -(2 ^ 62) < i) (h2 : i < 2 ^ 62) (h3 : -(2 ^ 62) < j) (h4 : j < 2 ^ 62) : CMulB i j := ⟨61, 61, Bt.small h1 h2, Bt.small h3 h4, by decide⟩
end GB
namespace GB
open PySem PySem.Spec PyProof.Rows L2
section
variable {X : Cx} {K : PySem.W.Frag} {σ : L2.St} {H : Hp} {Q : VK} {D : Ends} {t u body : TS} {ta : TA} {tb te tx tl : TE} {c d : TT} {v w : V} {i j n m : Int} {k : Nat}
def rMaxB : List V → Hp → VK → Prop := fun xs H Q => ∃ i j, xs = [.int i, .int j] ∧ Q (.int (if j > i then j else i)) H
def rMinB : List V → Hp → VK → Prop := fun xs H Q => ∃ i j, xs = [.int i, .int j] ∧ Q (.int (if j < i then j else i)) H
def rAbsB : List V → Hp → VK → Prop := fun xs H Q => ∃ i, xs = [.int i] ∧ Q (.int (if i < 0 then -i else i)) H
def rLenB (K : PySem.W.Frag) : List V → Hp → VK → Prop := fun xs H Q => ∃ p ys, xs = [.ref p] ∧ (SqL K H p ys ∨ SqT K H p ys) ∧ Q (.int ys.length) H
theorem call_maxB (hc : X.calm = true) : CallR X (.builtin "max") rMaxB := call_max2 hc
theorem call_minB (hc : X.calm = true) : CallR X (.builtin "min") rMinB := call_min2 hc
theorem call_absB : CallR X (.builtin "abs") rAbsB := call_abs
theorem call_lenB : CallR X (.builtin "len") (rLenB X.K) := call_len_seq
theorem r_max (q : Q (.int (max i j)) H) : rMaxB [.int i, .int j] H Q := by
  refine ⟨i, j, rfl, ?_⟩
  have e : (if j > i then j else i) = max i j := by
    rw [Int.max_def]
    split <;> split <;> omega
  rw [e]; exact q
theorem r_min (q : Q (.int (min i j)) H) : rMinB [.int i, .int j] H Q := by
  refine ⟨i, j, rfl, ?_⟩
  have e : (if j < i then j else i) = min i j := by
    rw [Int.min_def]
    split <;> split <;> omega
  rw [e]; exact q
theorem r_abs (q : Q (.int (i.natAbs : Int)) H) : rAbsB [.int i] H Q := by
  refine ⟨i, rfl, ?_⟩
  have e : (if i < 0 then -i else i) = (i.natAbs : Int) := by
    split <;> omega
  rw [e]; exact q
theorem r_lenL {a : Addr} {ys : List V} (h : SqL K H a ys) (q : Q (.int ys.length) H) : rLenB K [.ref a] H Q := ⟨a, ys, rfl, .inl h, q⟩
theorem r_lenT {a : Addr} {ys : List V} (h : SqT K H a ys) (q : Q (.int ys.length) H) : rLenB K [.ref a] H Q := ⟨a, ys, rfl, .inr h, q⟩
theorem r_ixL {a : Addr} {ys : List V} (h : SqL K H a ys) (g : atI ys i = some v) (q : Q v H) : rIxL K (.ref a) (.int i) H Q := ⟨a, ys, i, v, rfl, rfl, h, g, q⟩
theorem r_ixT {a : Addr} {ys : List V} (h : SqT K H a ys) (g : atI ys i = some v) (q : Q v H) : rIxT K (.ref a) (.int i) H Q := ⟨a, ys, i, v, rfl, rfl, h, g, q⟩
/-- what a loop asks -/
def FL (J : It) (g : TG) (body : TS) (D : Ends) (σ : L2.St) (H : Hp) : Prop := ∃ W : Nat → Nat → L2.St → Hp → Prop, (∃ m, W 0 m σ H) ∧ ∀ i m σ H, W i m σ H →
  (J.stop i H ∧ D.nx σ H) ∨ (J.go i H ∧ ∃ N : L2.St → Hp → Prop, (∀ σ' H', N σ' H' → ∃ m', m' < m ∧ W (i + 1) m' σ' H') ∧
    ∀ x H', J.yld i H x H' → g x σ H' fun σ2 H2 => body { D with nx := N, ct := N, bk := D.nx } σ2 H2)
theorem r_for {wi : TI} {g : TG} (q : wi σ H fun J H1 => FL J g body D σ H1) : tFor wi g body D σ H := q
def rRng1 (vs : List V) (H : Hp) (R : It → Hp → Prop) : Prop := ∃ j : Int, vs = [.int j] ∧ -(2 ^ 62) ≤ j ∧ j < 2 ^ 62 ∧ R (Itr 0 j.toNat) H
def rRng2 (vs : List V) (H : Hp) (R : It → Hp → Prop) : Prop := ∃ i j : Int, vs = [.int i, .int j] ∧ (-(2 ^ 62) ≤ i ∧ i < 2 ^ 62 ∧ -(2 ^ 62) ≤ j ∧ j < 2 ^ 62) ∧ R (Itr i (j - i).toNat) H
def rIl (K : PySem.W.Frag) (x : V) (H : Hp) (R : It → Hp → Prop) : Prop := ∃ a, x = .ref a ∧ (∃ xs, SqL K H a xs) ∧ R (Itl K a) H
def rIt (K : PySem.W.Frag) (x : V) (H : Hp) (R : It → Hp → Prop) : Prop := ∃ a, x = .ref a ∧ (∃ xs, SqT K H a xs) ∧ R (Itt K a) H
theorem r_rng1 {R : It → Hp → Prop} (q : ta σ H fun vs H1 => rRng1 vs H1 R) : iRng1 ta σ H R := q
theorem r_rng2 {R : It → Hp → Prop} (q : ta σ H fun vs H1 => rRng2 vs H1 R) : iRng2 ta σ H R := q
theorem r_il {R : It → Hp → Prop} (q : tl σ H fun x H1 => rIl K x H1 R) : iList K tl σ H R := q
theorem r_it {R : It → Hp → Prop} (q : tl σ H fun x H1 => rIt K x H1 R) : iTup K tl σ H R := q
theorem r_rngN {R : It → Hp → Prop} (h1 : -(2 ^ 62) ≤ n) (h2 : n < 2 ^ 62) (q : R (Itr 0 n.toNat) H) : rRng1 [V.int n] H R := ⟨n, rfl, h1, h2, q⟩
theorem r_rngM {R : It → Hp → Prop} (h1 : -(2 ^ 62) ≤ m) (h2 : m < 2 ^ 62) (h3 : -(2 ^ 62) ≤ n) (h4 : n < 2 ^ 62) (q : R (Itr m (n - m).toNat) H) : rRng2 [V.int m, V.int n] H R := ⟨m, n, rfl, ⟨h1, h2, h3, h4⟩, q⟩
theorem r_ill {R : It → Hp → Prop} {a : Addr} {xs : List V} (h : SqL K H a xs) (q : R (Itl K a) H) : rIl K (.ref a) H R := ⟨a, rfl, ⟨_, h⟩, q⟩
theorem r_itt {R : It → Hp → Prop} {a : Addr} {xs : List V} (h : SqT K H a xs) (q : R (Itt K a) H) : rIt K (.ref a) H R := ⟨a, rfl, ⟨_, h⟩, q⟩
theorem fl_range {lo : Int} {n : Nat} {g : TG} (Pv : Nat → L2.St → Hp → Prop) (h0 : Pv 0 σ H)
    (hs : ∀ (i : Nat) σ H, i < n → Pv i σ H → g (.int (lo + (i : Int))) σ H fun σ2 H2 => body { D with nx := Pv (i + 1), ct := Pv (i + 1), bk := D.nx } σ2 H2) (hd : ∀ σ H, Pv n σ H → D.nx σ H) : FL (Itr lo n) g body D σ H := for_range Pv h0 hs hd
theorem fl_list {a : Addr} {xs : List V} {g : TG} (Pv : Nat → L2.St → Hp → Prop) (h0 : Pv 0 σ H) (hl : ∀ i σ H, i ≤ xs.length → Pv i σ H → SqL K H a xs)
    (hs : ∀ i x σ H, xs[i]? = some x → Pv i σ H → g x σ H fun σ2 H2 => body { D with nx := Pv (i + 1), ct := Pv (i + 1), bk := D.nx } σ2 H2) (hd : ∀ σ H, Pv xs.length σ H → D.nx σ H) : FL (Itl K a) g body D σ H := for_list Pv h0 hl hs hd
theorem fl_tup {a : Addr} {xs : List V} {g : TG} (Pv : Nat → L2.St → Hp → Prop) (h0 : Pv 0 σ H) (hl : ∀ i σ H, i ≤ xs.length → Pv i σ H → SqT K H a xs)
    (hs : ∀ i x σ H, xs[i]? = some x → Pv i σ H → g x σ H fun σ2 H2 => body { D with nx := Pv (i + 1), ct := Pv (i + 1), bk := D.nx } σ2 H2) (hd : ∀ σ H, Pv xs.length σ H → D.nx σ H) : FL (Itt K a) g body D σ H := for_tup Pv h0 hl hs hd
/-- what a comprehension asks, its new list at L -/
def CL (J : It) (g : TG) (tt : TT) (te : TE) (vs : List Nat) (L : Addr) (σ : L2.St) (Qd : Hp → Prop) (H1 : Hp) : Prop := ∃ W : Nat → Nat → Hp → Prop, (∃ m, W 0 m (upd H1 L (.lst []))) ∧ ∀ i m H, W i m H →
  (J.stop i H ∧ Qd H) ∨ (J.go i H ∧ ∃ Nx : Hp → Prop, (∀ H', Nx H' → ∃ m', m' < m ∧ W (i + 1) m' H') ∧ ∀ x H', J.yld i H x H' → g x (wipe σ vs) H' fun σ2 H2 => wipe σ2 vs = wipe σ vs ∧ tt σ2 H2 fun b H3 =>
    if b = true then te σ2 H3 fun y H4 => ∃ acc, H4 L = some (.lst acc) ∧ acc.length < sizeLine ∧ Nx (upd H4 L (.lst (acc ++ [y]))) else Nx H3)
theorem r_lc {wi : TI} {g : TG} {tt : TT} {vs : List Nat} (q : wi σ H fun J H1 => ∀ L, H1 L = none → CL J g tt te vs L σ (fun H' => Q (.ref L) H') H1) : tLc wi g tt te vs σ H Q := q
theorem r_yes {Q : Bool → Hp → Prop} (q : Q true H) : tYes σ H Q := q
theorem cl_list {a L : Addr} {xs : List V} {g : TG} {tt : TT} {vs : List Nat} {Qd : Hp → Prop} (Pv : Nat → Hp → Prop) (h0 : Pv 0 (upd H L (.lst []))) (hl : ∀ i H, i ≤ xs.length → Pv i H → SqL K H a xs)
    (hs : ∀ i x H, xs[i]? = some x → Pv i H → g x (wipe σ vs) H fun σ2 H2 => wipe σ2 vs = wipe σ vs ∧ tt σ2 H2 fun b H3 => if b = true then te σ2 H3 fun y H4 => ∃ acc, H4 L = some (.lst acc) ∧ acc.length < sizeLine ∧ Pv (i + 1) (upd H4 L (.lst (acc ++ [y]))) else Pv (i + 1) H3)
    (hd : ∀ H, Pv xs.length H → Qd H) : CL (Itl K a) g tt te vs L σ Qd H := lc_list Pv h0 hl hs hd
theorem cl_range {lo : Int} {n : Nat} {L : Addr} {g : TG} {tt : TT} {vs : List Nat} {Qd : Hp → Prop} (Pv : Nat → Hp → Prop) (h0 : Pv 0 (upd H L (.lst [])))
    (hs : ∀ (i : Nat) H, i < n → Pv i H → g (.int (lo + (i : Int))) (wipe σ vs) H fun σ2 H2 => wipe σ2 vs = wipe σ vs ∧ tt σ2 H2 fun b H3 => if b = true then te σ2 H3 fun y H4 => ∃ acc, H4 L = some (.lst acc) ∧ acc.length < sizeLine ∧ Pv (i + 1) (upd H4 L (.lst (acc ++ [y]))) else Pv (i + 1) H3)
    (hd : ∀ H, Pv n H → Qd H) : CL (Itr lo n) g tt te vs L σ Qd H := lc_range Pv h0 hs hd
/-- a call's reading, its arguments' values told -/
theorem r_app {sp : Sp} {vs ws : List V} {E : XK} (e : vs = ws) (q : sp ws H Q E) : sp vs H Q E := e ▸ q
theorem r_sl {r : V → Option Int → Option Int → Hp → VK → Prop} {to tu : TO} (q : te σ H fun x H1 => to σ H1 fun l H2 => tu σ H2 fun u H3 => r x l u H3 Q) : tSl r te to tu σ H Q := q
theorem r_no {Q : Option Int → Hp → Prop} (q : Q none H) : tNoPart σ H Q := q
def rPart (x : V) (H : Hp) (Q : Option Int → Hp → Prop) : Prop := ∃ i, x = .int i ∧ Q (some i) H
theorem r_part {Q : Option Int → Hp → Prop} (q : te σ H fun x H1 => rPart x H1 Q) : tPart te σ H Q := q
theorem r_int {Q : Option Int → Hp → Prop} (q : Q (some i) H) : rPart (.int i) H Q := ⟨i, rfl, q⟩
theorem r_slL {a : Addr} {xs : List V} {lo hi : Option Int} (h : SqL K H a xs) (q : ∀ p, H p = none → Q (.ref p) (upd H p (.lst (cutV xs lo hi)))) : rSlL K (.ref a) lo hi H Q := ⟨a, xs, rfl, h, q⟩
theorem r_cat {a b : Addr} {xs ys : List V} (h : H a = some (.lst xs)) (h2 : H b = some (.lst ys)) (l : xs.length + ys.length ≤ sizeLine) (q : ∀ p, H p = none → Q (.ref p) (upd H p (.lst (xs ++ ys)))) : rCat (.ref a) (.ref b) H Q := ⟨a, b, xs, ys, rfl, rfl, h, h2, l, q⟩
end

/-! a law's drawn numbers -/
def Mk (l sd : Int) (c : Addr) (sp : Int) : List (Key × V) := [(.inr "left", .int l), (.inr "seed", .int sd), (.inr "cells", .ref c), (.inr "spot", .int sp)]
/-- all but p as it was -/
def Kp (p : Addr) (H H' : Hp) : Prop := ∀ a o, a ≠ p → H a = some o → H' a = some o
theorem Kp.refl (p : Addr) (H : Hp) : Kp p H H := fun _ _ _ h => h
theorem Kp.trans {p : Addr} {H H1 H2 : Hp} (a : Kp p H H1) (b : Kp p H1 H2) : Kp p H H2 := fun x o n h => b x o n (a x o n h)
theorem Kp.of {p : Addr} {H H' : Hp} (h : Same H H') : Kp p H H' := fun x o _ e => h x o e
theorem Kp.put {p : Addr} {H : Hp} {o : HO} : Kp p H (upd H p o) := fun x u n h => by rw [upd_ne n]; exact h
structure DrawsAt (K : PySem.W.Frag) (p : Addr) (n : Nat) (H : Hp) (c : Addr) (l sd sp : Int) (ns : List Int) : Prop where
  at_ : H p = some (.dK (Mk l sd c sp))
  cells : SqL K H c (ns.map V.int)
  some_ : ns ≠ []
  few : ns.length ≤ 200
  bits : ∀ x ∈ ns, Bt 1048577 x
  l0 : 0 ≤ l
  lb : Bt 1048577 l
  s0 : 0 ≤ sd
  s1 : sd < 2147483647
  p0 : 0 ≤ sp
  p1 : sp ≤ n
def Draws (K : PySem.W.Frag) (p : Addr) (n : Nat) (H : Hp) : Prop := ∃ c l sd sp ns, DrawsAt K p n H c l sd sp ns
theorem Draws.at_ {K : PySem.W.Frag} {p : Addr} {n : Nat} {H : Hp} (h : Draws K p n H) : ∃ kvs, H p = some (.dK kvs) := let ⟨_, _, _, _, _, d⟩ := h; ⟨_, d.at_⟩
theorem Draws.mono {K : PySem.W.Frag} {p : Addr} {n m : Nat} {H : Hp} (h : Draws K p n H) (l : n ≤ m) : Draws K p m H := by
  obtain ⟨c, l', sd, sp, ns, d⟩ := h
  exact ⟨c, l', sd, sp, ns, { d with p1 := by have := d.p1; omega }⟩
theorem SqL.same {K : PySem.W.Frag} {H H' : Hp} {a : Addr} {xs : List V} (e : ∀ o, H a = some o → H' a = some o) (h : SqL K H a xs) : SqL K H' a xs := by
  rcases h with (h | ⟨o, h⟩) | h
  · exact .inl (.inl (e _ h))
  · exact .inl (.inr ⟨o, e _ h⟩)
  · exact .inr h
theorem SqT.same {K : PySem.W.Frag} {H H' : Hp} {a : Addr} {xs : List V} (e : ∀ o, H a = some o → H' a = some o) (h : SqT K H a xs) : SqT K H' a xs := by
  rcases h with (h | ⟨o, h⟩) | h
  · exact .inl (.inl (e _ h))
  · exact .inl (.inr ⟨o, e _ h⟩)
  · exact .inr h
/-- a list stays where only p, another kind of thing, may change -/
theorem SqL.kp {K : PySem.W.Frag} {H H' : Hp} {p a : Addr} {xs : List V} {kvs : List (Key × V)} (hp : H p = some (.dK kvs)) (k : Kp p H H') (h : SqL K H a xs) : SqL K H' a xs := by
  rcases h with (h | ⟨o, h⟩) | h
  · exact .inl (.inl (k _ _ (ne_of h hp (fun z => by cases z)) h))
  · exact .inl (.inr ⟨o, k _ _ (ne_of h hp (fun z => by cases z)) h⟩)
  · exact .inr h
theorem SqT.kp {K : PySem.W.Frag} {H H' : Hp} {p a : Addr} {xs : List V} {kvs : List (Key × V)} (hp : H p = some (.dK kvs)) (k : Kp p H H') (h : SqT K H a xs) : SqT K H' a xs := by
  rcases h with (h | ⟨o, h⟩) | h
  · exact .inl (.inl (k _ _ (ne_of h hp (fun z => by cases z)) h))
  · exact .inl (.inr ⟨o, k _ _ (ne_of h hp (fun z => by cases z)) h⟩)
  · exact .inr h
theorem Draws.same {K : PySem.W.Frag} {p : Addr} {n : Nat} {H H' : Hp} (h : Draws K p n H) (k : Same H H') : Draws K p n H' := by
  obtain ⟨c, l', sd, sp, ns, d⟩ := h
  exact ⟨c, l', sd, sp, ns, { d with at_ := k _ _ d.at_, cells := k.seq d.cells }⟩
theorem same_new {H : Hp} {p : Addr} {o : HO} (h : H p = none) : Same H (upd H p o) := fun b x e => by
  rw [upd_ne (ne_of_none e h)]
  exact e
/-- an object that H does not know may change -/
theorem same_mut {H H' : Hp} {p : Addr} {o : HO} (e : Same H H') (h : H p = none) : Same H (upd H' p o) := fun a u ha => by
  rw [upd_ne (ne_of_none ha h)]
  exact e a u ha
section
variable {H : Hp} {p c : Addr} {l sd sp l' : Int} {Q : VK}
theorem g_left (h : H p = some (.dK (Mk l sd c sp))) (q : Q (.int l) H) : rDGet (.ref p) (.str "left") H Q := ⟨p, .int l, rfl, DGet.k (k := Sum.inr "left") h, q⟩
theorem g_seed (h : H p = some (.dK (Mk l sd c sp))) (q : Q (.int sd) H) : rDGet (.ref p) (.str "seed") H Q := ⟨p, .int sd, rfl, DGet.k (k := Sum.inr "seed") h, q⟩
theorem g_cells (h : H p = some (.dK (Mk l sd c sp))) (q : Q (.ref c) H) : rDGet (.ref p) (.str "cells") H Q := ⟨p, .ref c, rfl, DGet.k (k := Sum.inr "cells") h, q⟩
theorem g_spot (h : H p = some (.dK (Mk l sd c sp))) (q : Q (.int sp) H) : rDGet (.ref p) (.str "spot") H Q := ⟨p, .int sp, rfl, DGet.k (k := Sum.inr "spot") h, q⟩
theorem p_left {R : Hp → Prop} (h : H p = some (.dK (Mk l sd c sp))) (q : R (upd H p (.dK (Mk l' sd c sp)))) : rDPut (.ref p) (.str "left") (.int l') H R := ⟨p, _, rfl, DPut.k (k := Sum.inr "left") h (by show 4 < sizeLine; decide), q⟩
theorem p_spot {R : Hp → Prop} (h : H p = some (.dK (Mk l sd c sp))) (q : R (upd H p (.dK (Mk l sd c l')))) : rDPut (.ref p) (.str "spot") (.int l') H R := ⟨p, _, rfl, DPut.k (k := Sum.inr "spot") h (by show 4 < sizeLine; decide), q⟩
end
/-- the promises of a law's own drawing -/
def spDraw (K : PySem.W.Frag) : Sp := fun vs H Q _ => ∃ (p : Addr) (b : Int) (n : Nat), vs = [.ref p, .int b] ∧ Draws K p n H ∧ n ≤ 1000000000000 ∧ 0 < b ∧ Bt 8999 b ∧
  ∀ v H', 0 ≤ v → v < b → Kp p H H' → Draws K p (n + 1) H' → Q (.int v) H'
def spOf (K : PySem.W.Frag) : Sp := fun vs H Q _ => ∃ (p a : Addr) (n : Nat) (xs : List V), vs = [.ref p, .ref a] ∧ Draws K p n H ∧ n ≤ 1000000000000 ∧ SqL K H a xs ∧ xs ≠ [] ∧ xs.length ≤ sizeLine ∧
  ∀ (i : Nat) (v : V) H', xs[i]? = some v → Kp p H H' → Draws K p (n + 1) H' → Q v H'
def spBegun (K : PySem.W.Frag) : Sp := fun vs H Q _ => ∃ (a : Addr) (k : Int) (ns : List Int), vs = [.ref a, .int k] ∧ SqL K H a (ns.map V.int) ∧ ns.length ≤ 63 ∧ (∀ x ∈ ns, Bt 1048576 x) ∧ 0 ≤ k ∧ k ≤ 1000000 ∧
  ∀ p H', H p = none → Same H H' → Draws K p 0 H' → Q (.ref p) H'
def spLike (K : PySem.W.Frag) : Sp := fun vs H Q _ => ∃ v w d, vs = [v, w] ∧ Dp K H v d ∧ Dp K H w d ∧ Shows d ∧ Q (.bl true) H
end GB
namespace GB
open PySem PySem.Spec PyProof.Rows L2
/-! data whose texts and comparisons lie in the model's bounds: ints below 2 ^ b, nests of so many levels, so many entries -/
structure Fine (b dep bulk : Nat) (d : PyData) : Prop where
  lay : d.canLay0 = true
  able : d.showable = true
  short : d.leavesShort (b + 8) = true
  deep : d.depth ≤ dep
  size : d.bulk ≤ bulk
structure FineAll (b dep bulk : Nat) (ds : List PyData) : Prop where
  lay : PyData.canLayAll0 ds = true
  able : PyData.showableAll ds = true
  short : PyData.leavesShortAll (b + 8) ds = true
  deep : PyData.depthAll ds ≤ dep
  size : PyData.bulkAll ds ≤ bulk
theorem Fine.mono {b n m n' m' : Nat} {d : PyData} (h : Fine b n m d) (l1 : n ≤ n') (l2 : m ≤ m') : Fine b n' m' d := { h with deep := Nat.le_trans h.deep l1, size := Nat.le_trans h.size l2 }
theorem Fine.int {b : Nat} {i : Int} (h : Bt b i) (l : b ≤ 1900) : Fine b 0 0 (.int i) := by
  refine ⟨by simp only [PyData.canLay0], ?_, ?_, by simp only [PyData.depth]; exact Nat.le_refl _, by simp only [PyData.bulk]; exact Nat.le_refl _⟩
  · have h2 := (h.mono (show b ≤ 1918 + 1 by omega)).log
    simp only [PyData.showable, decide_eq_true_eq]
    omega
  · simp only [PyData.leavesShort, decide_eq_true_eq]
    have h2 := (h.mono (show b ≤ b + 1 by omega)).log
    have h3 := int_text_length_le (a := i) (k := b + 1) (by omega) (by omega)
    have e : (PyData.shown (.int i)).length = (toString i).length := by
      show (Str.ofString (toString i)).length = _
      rw [PySem.ofString_length]
    omega
theorem Fine.bool {b : Nat} (c : Bool) : Fine b 0 0 (.bool c) := by
  refine ⟨?_, ?_, ?_, ?_, ?_⟩
  · simp only [PyData.canLay0]
  · simp only [PyData.showable]
  · simp only [PyData.leavesShort]
  · simp only [PyData.depth]; exact Nat.le_refl _
  · simp only [PyData.bulk]; exact Nat.le_refl _
theorem Fine.none {b : Nat} : Fine b 0 0 .none := by
  refine ⟨?_, ?_, ?_, ?_, ?_⟩
  · simp only [PyData.canLay0]
  · simp only [PyData.showable]
  · simp only [PyData.leavesShort]
  · simp only [PyData.depth]; exact Nat.le_refl _
  · simp only [PyData.bulk]; exact Nat.le_refl _
theorem FineAll.nil {b dep : Nat} : FineAll b dep 0 [] := by
  refine ⟨?_, ?_, ?_, ?_, ?_⟩
  · simp only [PyData.canLayAll0]
  · simp only [PyData.showableAll]
  · simp only [PyData.leavesShortAll]
  · simp only [PyData.depthAll]; exact Nat.zero_le _
  · simp only [PyData.bulkAll]; exact Nat.le_refl _
theorem FineAll.cons {b dep n m : Nat} {d : PyData} {ds : List PyData} (h : Fine b dep n d) (g : FineAll b dep m ds) : FineAll b dep (n + 1 + m) (d :: ds) := by
  refine ⟨?_, ?_, ?_, ?_, ?_⟩
  · simp only [PyData.canLayAll0, h.lay, g.lay]; rfl
  · simp only [PyData.showableAll, h.able, g.able]; rfl
  · simp only [PyData.leavesShortAll, h.short, g.short]; rfl
  · simp only [PyData.depthAll]
    have h1 := h.deep
    have h2 := g.deep
    omega
  · simp only [PyData.bulkAll]
    have h1 := h.size
    have h2 := g.size
    omega
theorem FineAll.of {b dep n : Nat} : ∀ {ds : List PyData}, (∀ d ∈ ds, Fine b dep n d) → FineAll b dep (ds.length * (n + 1)) ds
  | [], _ => by
    have h : FineAll b dep 0 [] := .nil
    simpa using h
  | d :: ds, h => by
    have h1 := FineAll.cons (h d List.mem_cons_self) (FineAll.of fun x hx => h x (List.mem_cons_of_mem _ hx))
    refine { h1 with size := Nat.le_trans h1.size ?_ }
    rw [List.length_cons, Nat.add_mul]
    omega
theorem FineAll.mono {b n m n' m' : Nat} {ds : List PyData} (h : FineAll b n m ds) (l1 : n ≤ n') (l2 : m ≤ m') : FineAll b n' m' ds := { h with deep := Nat.le_trans h.deep l1, size := Nat.le_trans h.size l2 }
theorem FineAll.list {b dep n : Nat} {ds : List PyData} (h : FineAll b dep n ds) : Fine b (dep + 1) n (.list ds) := by
  refine ⟨?_, ?_, ?_, ?_, ?_⟩
  · simp only [PyData.canLay0]; exact h.lay
  · simp only [PyData.showable]; exact h.able
  · simp only [PyData.leavesShort]; exact h.short
  · simp only [PyData.depth]; exact Nat.succ_le_succ h.deep
  · simp only [PyData.bulk]; exact h.size
theorem FineAll.tuple {b dep n : Nat} {ds : List PyData} (h : FineAll b dep n ds) : Fine b (dep + 1) n (.tuple ds) := by
  refine ⟨?_, ?_, ?_, ?_, ?_⟩
  · simp only [PyData.canLay0]; exact h.lay
  · simp only [PyData.showable]; exact h.able
  · simp only [PyData.leavesShort]; exact h.short
  · simp only [PyData.depth]; exact Nat.succ_le_succ h.deep
  · simp only [PyData.bulk]; exact h.size
theorem FineAll.ints {b : Nat} {ns : List Int} (h : ∀ x ∈ ns, Bt b x) (l : b ≤ 1900) : FineAll b 0 ns.length (ns.map PyData.int) := by
  have h1 : FineAll b 0 ((ns.map PyData.int).length * (0 + 1)) (ns.map PyData.int) := FineAll.of fun d hd => by
    obtain ⟨x, hx, rfl⟩ := List.mem_map.mp hd
    exact Fine.int (h x hx) l
  simpa using h1
theorem Fine.cons' {b dep n m : Nat} {d : PyData} {ds : List PyData} (h : Fine b dep n d) (g : FineAll b dep m ds) : FineAll b dep (n + 1 + m) (d :: ds) := FineAll.cons h g
theorem Fine.one {b dep n : Nat} {d : PyData} (h : Fine b dep n d) : FineAll b dep (n + 1 + 0) [d] := .cons h .nil
theorem Fine.two {b dep n m : Nat} {d e : PyData} (h : Fine b dep n d) (g : Fine b dep m e) : FineAll b dep (n + 1 + (m + 1 + 0)) [d, e] := .cons h g.one
theorem Fine.shaped {b n m : Nat} {d : PyData} (h : Fine b n m d) (l : n ≤ 60) : SeqAt.shaped d = true := by
  unfold SeqAt.shaped
  rw [h.lay, decide_eq_true (show d.depth ≤ 64 by have := h.deep; omega)]
  rfl
theorem Fine.shows {b n m : Nat} {d : PyData} (h : Fine b n m d) (l : n ≤ 50) (z : (b + 10) * m + b ≤ 16777200) : Shows d := by
  refine ⟨h.able, PyData.hasDict_of_canLay d h.lay, ?_, Nat.le_trans h.deep l⟩
  have h1 := PyData.shown_le_bulk (b + 8) (by omega) d h.short
  have h2 : (b + 8 + 2) * d.bulk ≤ (b + 10) * m := Nat.mul_le_mul_left _ h.size
  have e : sizeLine = 16777216 := by decide
  omega
theorem eqvAll_self {ds : List PyData} (h : PyData.canLayAll0 ds = true) : PyData.eqvAll ds ds = true := SeqAt.eqvAll_refl ds h
theorem Fine.eqv {b n m : Nat} {d : PyData} (h : Fine b n m d) : PyData.eqv d d = true := SeqAt.eqv_refl d h.lay

theorem vs1 {a b : Int} (h : a = b) : [V.int a] ++ [] = [V.int b] := by rw [h]; rfl
theorem vs2 {a b c d : Int} (h : a = c) (g : b = d) : [V.int a, V.int b] ++ [] = [V.int c, V.int d] := by rw [h, g]; rfl
theorem vs3 {x : V} {a b c d : Int} (h : a = c) (g : b = d) : [x, V.int a, V.int b] ++ [] = [x, V.int c, V.int d] := by rw [h, g]; rfl
section
variable {K : PySem.W.Frag} {σ : L2.St} {H : Hp} {Q' : L2.St → Hp → Prop} {a : Addr} {xs : List V} {n : Nat} {v : V} {t : TG} {ts : TGs} {Q : VK} {ta : TA}
theorem sqt_of {p : Addr} (h : H p = some (.tup xs)) : SqT K H p xs := .inl (.inl h)
theorem sql_of {p : Addr} (h : H p = some (.lst xs)) : SqL K H p xs := .inl (.inl h)
theorem r_gtup (h : SqT K H a xs) (l : xs.length = n) (q : ts xs σ H Q') : gTup K n ts (.ref a) σ H Q' := ⟨a, xs, rfl, h, l, q⟩
theorem r_gcons (q : t v σ H fun σ' H' => ts xs σ' H' Q') : gCons t ts (v :: xs) σ H Q' := ⟨v, xs, rfl, q⟩
theorem r_gnil (q : Q' σ H) : gNil [] σ H Q' := ⟨rfl, q⟩
def mkTup (xs : List V) (H : Hp) (Q : VK) : Prop := xs.length ≤ sizeLine ∧ ∀ p, H p = none → Q (.ref p) (upd H p (.tup xs))
def mkLst (xs : List V) (H : Hp) (Q : VK) : Prop := xs.length ≤ sizeLine ∧ ∀ p, H p = none → Q (.ref p) (upd H p (.lst xs))
theorem r_tup (q : ta σ H fun xs H1 => mkTup xs H1 Q) : tTup ta σ H Q := q
theorem r_lst (q : ta σ H fun xs H1 => mkLst xs H1 Q) : tLst ta σ H Q := q
theorem r_mkT (l : xs.length ≤ sizeLine) (q : ∀ p, H p = none → Q (.ref p) (upd H p (.tup xs))) : mkTup xs H Q := ⟨l, q⟩
theorem r_mkL (l : xs.length ≤ sizeLine) (q : ∀ p, H p = none → Q (.ref p) (upd H p (.lst xs))) : mkLst xs H Q := ⟨l, q⟩
theorem r_newT (l : xs.length ≤ sizeLine) (q : ∀ p H', Same H H' → H p = none → H' p = some (.tup xs) → Q (.ref p) H') : mkTup xs H Q :=
  ⟨l, fun p np => q p _ (same_new np) np upd_same⟩
theorem r_newL (l : xs.length ≤ sizeLine) (q : ∀ p H', Same H H' → H p = none → H' p = some (.lst xs) → Q (.ref p) H') : mkLst xs H Q :=
  ⟨l, fun p np => q p _ (same_new np) np upd_same⟩
theorem few_le {xs : List V} (h : Nat.ble xs.length 16777216 = true) : xs.length ≤ sizeLine := by
  have e : sizeLine = 16777216 := by decide
  rw [e]
  exact Nat.le_of_ble_eq_true h
end
/-! data at addresses -/
section
variable {K : PySem.W.Frag} {H H' : Hp}
theorem dp_ints {ns : List Int} : DpAll K H (ns.map V.int) (ns.map PyData.int) := by
  induction ns with
  | nil => exact .nil
  | cons n r ih => exact .cons (.int n) ih
theorem Dp.ints {a : Addr} {ns : List Int} (h : SqL K H a (ns.map V.int)) : Dp K H (.ref a) (.list (ns.map PyData.int)) := .lst h dp_ints
theorem Dp.intsT {a : Addr} {ns : List Int} (h : SqT K H a (ns.map V.int)) : Dp K H (.ref a) (.tuple (ns.map PyData.int)) := .tup h dp_ints
mutual
theorem Dp.same (k : Same H H') : ∀ {v : V} {d : PyData}, Dp K H v d → Dp K H' v d
  | _, _, .non => .non
  | _, _, .bl b => .bl b
  | _, _, .int i => .int i
  | _, _, .str x => .str x
  | _, _, .lst h g => .lst (SqL.same (k _) h) (DpAll.same k g)
  | _, _, .tup h g => .tup (SqT.same (k _) h) (DpAll.same k g)
theorem DpAll.same (k : Same H H') : ∀ {vs : List V} {ds : List PyData}, DpAll K H vs ds → DpAll K H' vs ds
  | _, _, .nil => .nil
  | _, _, .cons h g => .cons (Dp.same k h) (DpAll.same k g)
end
mutual
theorem Dp.kp {p : Addr} {kvs : List (Key × V)} (hp : H p = some (.dK kvs)) (k : Kp p H H') : ∀ {v : V} {d : PyData}, Dp K H v d → Dp K H' v d
  | _, _, .non => .non
  | _, _, .bl b => .bl b
  | _, _, .int i => .int i
  | _, _, .str x => .str x
  | _, _, .lst h g => .lst (SqL.kp hp k h) (DpAll.kp hp k g)
  | _, _, .tup h g => .tup (SqT.kp hp k h) (DpAll.kp hp k g)
theorem DpAll.kp {p : Addr} {kvs : List (Key × V)} (hp : H p = some (.dK kvs)) (k : Kp p H H') : ∀ {vs : List V} {ds : List PyData}, DpAll K H vs ds → DpAll K H' vs ds
  | _, _, .nil => .nil
  | _, _, .cons h g => .cons (Dp.kp hp k h) (DpAll.kp hp k g)
end
end
section
variable {K : PySem.W.Frag} {H : Hp} {Q : VK} {p : Addr} {σ : L2.St} {tk tv : TE} {r : List (TE × TE)} {x y : V} {d e : PyData}
def rDisp (p : Addr) (ps : List (V × V)) (H : Hp) (Q : VK) : Prop := H p = some (.dK []) ∧ ∃ kvs : List (Key × V), ps = kvs.map (fun kv => (kV kv.1, kv.2)) ∧ kvs.length ≤ 15 ∧ Q (.ref p) (upd H p (.dK (mergeK [] kvs)))
theorem r_disp {trs : List (TE × TE)} (q : ∀ p, H p = none → tPairs trs σ (upd H p (.dK [])) fun ps H2 => rDisp p ps H2 Q) : tDisp trs σ H Q := q
theorem r_p0 {Q : List (V × V) → Hp → Prop} (q : Q [] H) : tPairs [] σ H Q := q
theorem r_p1 {Q : List (V × V) → Hp → Prop} (q : tk σ H fun x H1 => tv σ H1 fun y H2 => tPairs r σ H2 fun ps H3 => Q ((x, y) :: ps) H3) : tPairs ((tk, tv) :: r) σ H Q := q
theorem r_Mk {l sd sp : Int} {c : Addr} (h : H p = some (.dK [])) (q : Q (.ref p) (upd H p (.dK (Mk l sd c sp)))) : rDisp p [(.str "left", .int l), (.str "seed", .int sd), (.str "cells", .ref c), (.str "spot", .int sp)] H Q :=
  ⟨h, Mk l sd c sp, rfl, by show 4 ≤ 15; decide, q⟩
theorem r_eqD (hd : Dp K H x d) (he : Dp K H y e) (s1 : SeqAt.shaped d = true) (s2 : SeqAt.shaped e = true) (q : Q (.bl (PyData.eqv d e)) H) : rEqD K x y H Q := ⟨d, e, hd, he, s1, s2, q⟩
theorem r_neD (hd : Dp K H x d) (he : Dp K H y e) (s1 : SeqAt.shaped d = true) (s2 : SeqAt.shaped e = true) (q : Q (.bl (!PyData.eqv d e)) H) : rNeD K x y H Q := ⟨d, e, hd, he, s1, s2, q⟩
end
section
variable {H : Hp} {d p : Addr} {kvs : List (List Key × V)} {k : List Key} {v : V} {Q : VK}
theorem in_T (e : H d = some (.dT kvs)) (eb : H p = some (.tup (k.map kV))) (q : Q (.bl (valV kvs k).isSome) H) : rDIn false (.ref p) (.ref d) H Q := ⟨d, _, rfl, DGet.t e eb, q⟩
theorem nin_T (e : H d = some (.dT kvs)) (eb : H p = some (.tup (k.map kV))) (q : Q (.bl (!(valV kvs k).isSome)) H) : rDIn true (.ref p) (.ref d) H Q := ⟨d, _, rfl, DGet.t e eb, q⟩
theorem get_T (e : H d = some (.dT kvs)) (eb : H p = some (.tup (k.map kV))) (g : valV kvs k = some v) (q : Q v H) : rDGet (.ref d) (.ref p) H Q := ⟨d, v, rfl, by rw [← g]; exact DGet.t e eb, q⟩
theorem put_T {R : Hp → Prop} (e : H d = some (.dT kvs)) (eb : H p = some (.tup (k.map kV))) (l : kvs.length < sizeLine) (q : R (upd H d (.dT (putK kvs k v)))) : rDPut (.ref d) (.ref p) v H R := ⟨d, _, rfl, DPut.t e eb l, q⟩
end
/-- f(a, x = b) of a def with two parameters -/
def two1 {α : Type} (us ws : List α) : List α := match us, ws with
  | [a], [b] => [a, b]
  | _, _ => []
theorem two1_rel {vs : List V} {us : List Value} {zs : List V} {ws : List Value} (r : Vals vs us) (q : Vals zs ws) : Vals (two1 vs zs) (two1 us ws) := by
  cases r with
  | nil => exact .nil
  | cons a b =>
    cases b with
    | nil =>
      cases q with
      | nil => exact .nil
      | cons c d =>
        cases d with
        | nil => exact .cons a (.cons c .nil)
        | cons _ _ => exact .nil
    | cons _ _ => exact .nil
theorem kb_two1 {K : PySem.W.Frag} {x q : Str} {st : Stmt} {f : Addr} {fd : FuncData} {p1 p2 : Str} (F : Fun K x q st f fd)
    (h : ∀ (kV doc pm : Value) (an : Option Addr) (cdv ct : Value) (a b : Value), bindArgs (PySem.W.fnOf x q (defArgs st) (defBody st) (defScope st) .none kV doc pm an cdv ct) ⟨[a], [(p2, b)]⟩ = pure [(p1, a), (p2, b)]) :
    KBinds K fd [p1, p2] [p2] two1 two1 := by
  obtain ⟨oc, od, kV, doc, pm, an, cdv, ct, osl, rfl, lk, hcd⟩ := F.ex
  refine ⟨fun s us ws _ hl => ?_, two1_rel⟩
  match us, ws, hl with
  | [a], [b], _ => exact .of_eq (h kV doc pm an cdv ct a b)
section
variable {σ : L2.St} {H : Hp} {Q : VK} {sp : Sp} {gV : List V → List V → List V} {E : XK} {t tk : TA}
theorem r_callK (q : t σ H fun vs H1 => tk σ H1 fun zs H2 => sp (gV vs zs) H2 Q E) : tCallK sp gV E t tk σ H Q := q
theorem r_dnewT (q : ∀ p H', Same H H' → H p = none → H' p = some (.dT []) → Q (.ref p) H') : tDNewT σ H Q := fun p np => q p _ (same_new np) np upd_same
end
/-- what only d, a dict by tuples, may change -/
theorem SqL.kt {K : PySem.W.Frag} {H H' : Hp} {p a : Addr} {xs : List V} {kvs : List (List Key × V)} (hp : H p = some (.dT kvs)) (k : Kp p H H') (h : SqL K H a xs) : SqL K H' a xs := by
  rcases h with (h | ⟨o, h⟩) | h
  · exact .inl (.inl (k _ _ (ne_of h hp (fun z => by cases z)) h))
  · exact .inl (.inr ⟨o, k _ _ (ne_of h hp (fun z => by cases z)) h⟩)
  · exact .inr h
theorem Draws.kt {K : PySem.W.Frag} {p d : Addr} {n : Nat} {H H' : Hp} {kvs : List (List Key × V)} (hd : H d = some (.dT kvs)) (k : Kp d H H') (h : Draws K p n H) : Draws K p n H' := by
  obtain ⟨c, l', sd, sp, ns, g⟩ := h
  exact ⟨c, l', sd, sp, ns, { g with at_ := k _ _ (ne_of g.at_ hd (fun z => by cases z)) g.at_, cells := SqL.kt hd k g.cells }⟩
end GB
local macro_rules | `(tactic| walk_at "rd1") => `(tactic| first
  | with_reducible refine GB.r_seq ?_
  | with_reducible refine GB.r_asg ?_
  | with_reducible refine GB.r_gname ?_
  | with_reducible refine GB.r_var (by with_unfolding_all exact rfl) ?_
  | with_reducible refine GB.r_c ?_
  | with_reducible refine GB.r_op ?_
  | with_reducible refine GB.r_I0 ?_
  | with_reducible refine GB.r_ifs ?_
  | with_reducible refine GB.r_test ?_
  | with_reducible refine GB.r_bl ?_
  | with_reducible refine GB.r_eqI ?_
  | with_reducible refine GB.r_neI ?_
  | with_reducible refine GB.r_eqS ?_
  | with_reducible refine GB.r_and ?_
  | with_reducible refine GB.r_or ?_
  | with_reducible refine GB.r_not ?_
  | with_reducible refine GB.r_B ?_
  | with_reducible refine GB.r_if ?_
  | with_reducible refine GB.r_CB ?_
  | with_reducible refine GB.r_call ?_
  | with_reducible refine GB.r_callK ?_
  | (with_reducible refine GB.r_dnewT (fun p H' sm np at' => ?_))
  | with_reducible refine GB.r_nil ?_
  | with_reducible refine GB.r_cons ?_
  | with_reducible refine GB.r_ret ?_
  | with_reducible refine GB.r_retN ?_
  | with_reducible refine GB.r_drop ?_
  | with_reducible refine GB.r_next ?_
  | with_reducible refine GB.r_par ?_
  | with_reducible refine GB.r_two ?_
  | with_reducible refine GB.r_un ?_
  | with_reducible refine GB.r_U ?_
  | with_reducible refine GB.r_tup ?_
  | with_reducible refine GB.r_lst ?_
  | with_reducible refine GB.r_aug (by with_unfolding_all exact rfl) ?_
  | with_reducible refine GB.r_ipI ?_
  | with_reducible refine GB.r_dget ?_
  | with_reducible refine GB.r_dput ?_
  | with_reducible refine GB.r_int1 ?_
  | with_reducible refine GB.r_max ?_
  | with_reducible refine GB.r_min ?_
  | with_reducible refine GB.r_abs ?_
  | with_reducible refine GB.r_for ?_
  | with_reducible refine GB.r_rng1 ?_
  | with_reducible refine GB.r_rng2 ?_
  | with_reducible refine GB.r_il ?_
  | with_reducible refine GB.r_it ?_
  | with_reducible refine GB.r_lc ?_
  | with_reducible refine GB.r_yes ?_
  | with_reducible refine GB.r_sl ?_
  | with_reducible refine GB.r_p0 ?_
  | with_reducible refine GB.r_gcons ?_
  | with_reducible refine GB.r_gnil ?_
  | with_reducible refine GB.r_gtup (by first | assumption | exact GB.sqt_of L2.upd_same | exact GB.sqt_of (by assumption)) (by with_unfolding_all exact rfl) ?_
  | with_reducible refine GB.r_newT (GB.few_le (by with_unfolding_all exact rfl)) (fun p H' sm np at' => ?_)
  | with_reducible refine GB.r_p1 ?_
  | with_reducible refine GB.r_no ?_
  | with_reducible refine GB.r_din ?_
  | with_reducible refine GB.r_dnin ?_
  | with_reducible refine GB.r_part ?_
  | with_reducible refine GB.r_int ?_
  | with_reducible refine GB.g_left (by first | assumption | exact L2.upd_same) ?_
  | with_reducible refine GB.g_seed (by first | assumption | exact L2.upd_same) ?_
  | with_reducible refine GB.g_cells (by first | assumption | exact L2.upd_same) ?_
  | with_reducible refine GB.g_spot (by first | assumption | exact L2.upd_same) ?_
  | with_reducible refine GB.p_left (by first | assumption | exact L2.upd_same) ?_
  | with_reducible refine GB.p_spot (by first | assumption | exact L2.upd_same) ?_
  | with_reducible refine L2.iteT ?_
  | with_reducible refine L2.iteF ?_
  | with_reducible refine GB.r_nT ?_
  | with_reducible refine GB.r_rngN (by decide) (by decide) ?_
  | with_reducible refine GB.r_nF ?_
  | with_reducible refine GB.r_I (by first | assumption | (with_unfolding_all decide) | omega) ?_
  | with_reducible refine GB.r_I (GB.CDivW.small (by omega) (by omega)) ?_
  | with_reducible refine GB.r_I (GB.CPow.small (by omega) (by omega) (by omega) (by omega)) ?_
  | with_reducible refine GB.r_I (GB.CMulB.small (by omega) (by omega) (by omega) (by omega)) ?_
  | (dsimp only))
local macro_rules | `(tactic| walk_at "rd") => `(tactic| (repeat walk_at "rd1"))
local macro_rules | `(tactic| walk_at "two") => `(tactic| first | with_reducible refine GB.r_ite (fun h => ?_) (fun h => ?_) | with_reducible refine GB.r_iteN (fun h => ?_) (fun h => ?_) | with_reducible refine GB.r_iteB (fun h => ?_) (fun h => ?_))
local macro_rules | `(tactic| walk_at "all") => `(tactic| (repeat' (first | walk_at "rd1" | walk_at "two")))
namespace L09
open PySem PySem.Spec PyProof.Rows L2 GB
def topS (i : Nat) : Stmt := PySem.Challenge.pw_numberpapers_k09_whole_counts_of_three.main.body.getD i (.Pass ⟨0, 0, 0, 0⟩)
abbrev s_three_count : Stmt := topS 1
theorem sc_three_count : FnScope ["m", "n", "h", "m_low", "n_low"] ["m", "n"] (defScope s_three_count) := ⟨rfl, rfl, rfl, by decide +kernel, rfl, by decide +kernel, by decide +kernel⟩
abbrev s_law_begun : Stmt := topS 3
theorem sc_law_begun : FnScope ["script", "k_so", "cells", "great", "cell", "seed"] ["script", "k_so"] (defScope s_law_begun) := ⟨rfl, rfl, rfl, by decide +kernel, rfl, by decide +kernel, by decide +kernel⟩
abbrev s_law_draw : Stmt := topS 4
theorem sc_law_draw : FnScope ["m", "bound", "found", "spot", "cells", "extra", "cell", "blend"] ["m", "bound"] (defScope s_law_draw) := ⟨rfl, rfl, rfl, by decide +kernel, rfl, by decide +kernel, by decide +kernel⟩
abbrev s_law_of : Stmt := topS 5
theorem sc_law_of : FnScope ["m", "some"] ["m", "some"] (defScope s_law_of) := ⟨rfl, rfl, rfl, by decide +kernel, rfl, by decide +kernel, by decide +kernel⟩
abbrev s_law_like : Stmt := topS 6
theorem sc_law_like : FnScope ["got", "due"] ["got", "due"] (defScope s_law_like) := ⟨rfl, rfl, rfl, by decide +kernel, rfl, by decide +kernel, by decide +kernel⟩
abbrev s_law_count : Stmt := topS 7
theorem sc_law_count : FnScope ["known", "near", "far", "half", "low", "second", "found"] ["known", "near", "far"] (defScope s_law_count) := ⟨rfl, rfl, rfl, by decide +kernel, rfl, by decide +kernel, by decide +kernel⟩
abbrev s_law_bound : Stmt := topS 8
theorem sc_law_bound : FnScope ["near", "far", "two", "three", "step"] ["near", "far"] (defScope s_law_bound) := ⟨rfl, rfl, rfl, by decide +kernel, rfl, by decide +kernel, by decide +kernel⟩
abbrev s_law_size : Stmt := topS 9
theorem sc_law_size : FnScope ["m", "word"] ["m"] (defScope s_law_size) := ⟨rfl, rfl, rfl, by decide +kernel, rfl, by decide +kernel, by decide +kernel⟩
abbrev s_law_row_right : Stmt := topS 10
theorem sc_law_row_right : FnScope ["known", "first", "second", "step"] ["known", "first", "second"] (defScope s_law_row_right) := ⟨rfl, rfl, rfl, by decide +kernel, rfl, by decide +kernel, by decide +kernel⟩
abbrev s_law : Stmt := topS 11
theorem sc_law : FnScope ["script", "known", "turn", "m", "first", "second", "due", "two", "three", "step", "told"] ["script"] (defScope s_law) := ⟨rfl, rfl, rfl, by decide +kernel, rfl, by decide +kernel, by decide +kernel⟩
/-- a def of the text, its name's value, how its arguments bind -/
structure Has (K : PySem.W.Frag) (mg : Str → Option Value) (x : Str) (st : Stmt) (ps : List Str) (f : Addr) (fd : FuncData) : Prop where
  fn : Fun K x x st f fd
  gl : mg x = some (.ref f)
  bd : Binds K fd ps []
section
variable {P : Program} {w : World} {K : PySem.W.Frag} {mg : Str → Option Value} {base : Heap}
theorem ok_draw {f : Addr} {fd : FuncData} (h : Has K mg "_law_draw" s_law_draw ["m", "bound"] f fd) (z_int : mg "int" = none) (z_len : mg "len" = none) : FnOk P w K mg base CX0 1 f fd ["m", "bound"] (spDraw K) := by
  refine h.fn.ok sc_law_draw (fun vs H Q E h => ?_) (fun cdv A outer s H vs Q E hr h => ?_)
  · obtain ⟨p, b, n, rfl, _⟩ := h
    rfl
  · obtain ⟨p, b, n, rfl, ⟨c, l, sd, sp, ns, d⟩, hn, hb, hbb, q⟩ := h
    refine ⟨_, (pss_cons (ps_if (pt_cmpR op_gt (pe_dget (hu_of hr) (pv 0) pe_str (fun _ _ => rfl)) pe_int (nomark _)) (pss_cons (ps_set (i := 2) sc_law_draw.nd rfl (.inl rfl) (pe_op op_mod (pe_callTy call_intB (by rfl) z_int (by decide +kernel) (pa_cons (pe_dget (hu_of hr) (pv 0) pe_str (fun _ _ => rfl)) pa_nil)) (pv 1)))
      (pss_cons (ps_dput (hu_of hr) (pv 0) pe_str (pe_op op_fdivW (pe_dget (hu_of hr) (pv 0) pe_str (fun _ _ => rfl)) (pv 1)) rfl)
      (pss_one (ps_ret (pv 2))))) pss_nil)
      (pss_cons (ps_set (i := 3) sc_law_draw.nd rfl (.inl rfl) (pe_dget (hu_of hr) (pv 0) pe_str (fun _ _ => rfl)))
      (pss_cons (ps_dput (hu_of hr) (pv 0) pe_str (pe_op op_add (pv 3) pe_int) rfl)
      (pss_cons (ps_par (i := 4) (j := 5) (by rfl) sc_law_draw.nd rfl rfl (by decide) rfl rfl (pa_cons (pe_dget (hu_of hr) (pv 0) pe_str (fun _ _ => rfl)) (pa_cons (pe_op op_add (pe_dget (hu_of hr) (pv 0) pe_str (fun _ _ => rfl)) (pe_op op_mulB (pe_op op_mulB pe_int (pv 3)) (pv 3))) pa_nil)) (by rfl))
      (pss_cons (ps_set (i := 6) sc_law_draw.nd rfl (.inl rfl) (pe_ix ix_list (pv 4) (pe_op op_mod (pe_callTy call_intB (by rfl) z_int (by decide +kernel) (pa_cons (pv 3) pa_nil)) (pe_callB call_lenB (by rfl) z_len (by decide +kernel) (pa_cons (pv 4) pa_nil))) (fun _ _ => rfl)))
      (pss_cons (ps_set (i := 7) sc_law_draw.nd rfl (.inl rfl) (pe_op op_mod (pe_callTy call_intB (by rfl) z_int (by decide +kernel) (pa_cons (pe_op op_add (pe_op op_mulB (pv 6) (pe_op op_add (pe_op op_mulB pe_int (pv 3)) pe_int)) (pv 5)) pa_nil)) pe_int))
      (pss_cons (ps_set (i := 7) sc_law_draw.nd rfl (.inl rfl) (pe_op op_mod (pe_callTy call_intB (by rfl) z_int (by decide +kernel) (pa_cons (pe_op op_add (pe_op op_add (pe_op op_mulB (pv 7) (pv 7)) (pe_op op_mulB pe_int (pv 3))) (pe_dget (hu_of hr) (pv 0) pe_str (fun _ _ => rfl))) pa_nil)) pe_int))
      (pss_one (ps_ret (pe_op op_mod (pe_op op_fdivW (pe_op op_mod (pe_callTy call_intB (by rfl) z_int (by decide +kernel) (pa_cons (pe_op op_add (pe_op op_mulB (pv 7) pe_int) (pv 3)) pa_nil)) pe_int) pe_int) (pv 1))))))))))), ?_⟩
    have at_ := d.at_
    have l0 := d.l0
    have s0 := d.s0
    have s1 := d.s1
    have p0 := d.p0
    have p1 := d.p1
    have lb := d.lb
    have cd : CDivW l b := ⟨hb, by
      have h1 := (hbb.mono (show 8999 ≤ 8998 + 1 by decide)).log
      omega⟩
    walk_at "rd"
    walk_at "two"
    · walk_at "rd"
      refine q _ _ (Int.emod_nonneg _ (by omega)) (Int.emod_lt_of_pos _ hb) Kp.put ⟨c, l / b, sd, sp, ns, ?_⟩
      exact { at_ := upd_same, cells := (SqL.kp at_ Kp.put d.cells), some_ := d.some_, few := d.few, bits := d.bits, l0 := Int.ediv_nonneg l0 (by omega), lb := lb.ediv l0 (by omega), s0 := s0, s1 := s1, p0 := p0, p1 := by omega }
    · walk_at "rd"
      refine r_lenL (SqL.kp at_ Kp.put d.cells) ?_
      have cd2 : (fun (_ j : Int) => 0 < j) sp ((List.map V.int ns).length : Int) := by
        have h1 := List.length_pos_iff.mpr d.some_
        show (0 : Int) < ((List.map V.int ns).length : Int)
        rw [List.length_map]
        omega
      walk_at "rd"
      have h1 := List.length_pos_iff.mpr d.some_
      have e0 : (sp % ((List.map V.int ns).length : Int)).toNat < ns.length := by
        rw [List.length_map]
        have h2 := Int.emod_nonneg sp (b := (ns.length : Int)) (by omega)
        have h3 := Int.emod_lt_of_pos sp (b := (ns.length : Int)) (by omega)
        omega
      have e1 : sp % ((List.map V.int ns).length : Int) = ((sp % ((List.map V.int ns).length : Int)).toNat : Int) := by
        have h2 := Int.emod_nonneg sp (b := ((List.map V.int ns).length : Int)) (by rw [List.length_map]; omega)
        omega
      have bc : Bt 1048577 ns[(sp % ((List.map V.int ns).length : Int)).toNat] := d.bits _ (List.getElem_mem e0)
      refine r_ixL (SqL.kp at_ Kp.put d.cells) (v := .int ns[(sp % ((List.map V.int ns).length : Int)).toNat]) (at_of e1 ?_) ?_
      · rw [List.getElem?_map, List.getElem?_eq_getElem e0]
        rfl
      · generalize ns[(sp % ((List.map V.int ns).length : Int)).toNat] = cell at bc
        walk_at "rd"
        refine r_I ⟨1048576, 61, bc, Bt.small (by omega) (by omega), by decide⟩ ?_
        walk_at "rd"
        refine q _ _ (Int.emod_nonneg _ (by omega)) (Int.emod_lt_of_pos _ hb) Kp.put ⟨c, l, sd, sp + 1, ns, ?_⟩
        exact { at_ := upd_same, cells := (SqL.kp at_ Kp.put d.cells), some_ := d.some_, few := d.few, bits := d.bits, l0 := l0, lb := lb, s0 := s0, s1 := s1, p0 := by omega, p1 := by omega }
theorem ok_of {f g : Addr} {fd gd : FuncData} (h : Has K mg "_law_of" s_law_of ["m", "some"] f fd) (h_law_draw : Has K mg "_law_draw" s_law_draw ["m", "bound"] g gd) (F_law_draw : FnOk P w K mg base CX0 1 g gd ["m", "bound"] (spDraw K)) (z_len : mg "len" = none) :
    FnOk P w K mg base CX0 2 f fd ["m", "some"] (spOf K) := by
  refine h.fn.ok sc_law_of (fun vs H Q E h => ?_) (fun cdv A outer s H vs Q E hr h => ?_)
  · obtain ⟨p, a, n, xs, rfl, _⟩ := h
    rfl
  · obtain ⟨p, a, n, xs, rfl, dr, hn, hx, ne, hz, q⟩ := h
    obtain ⟨kvs, at_⟩ := dr.at_
    have h1 := List.length_pos_iff.mpr ne
    have e1 : sizeLine = 16777216 := by decide
    refine ⟨_, (pss_one (ps_ret (pe_ix ix_list (pv 1) (pe_call F_law_draw (hr.mono (by decide)) (by rfl) h_law_draw.gl h_law_draw.fn.kp h_law_draw.bd .nil pass0 (pa_cons (pv 0) (pa_cons (pe_callB call_lenB (by rfl) z_len (by decide +kernel) (pa_cons (pv 1) pa_nil)) pa_nil))) (fun _ _ => rfl)))), ?_⟩
    walk_at "rd"
    refine r_lenL hx ?_
    walk_at "rd"
    refine ⟨p, (xs.length : Int), n, rfl, dr, hn, by omega, (Bt.small (by omega) (by omega)).mono (by decide), fun v H' v0 v1 k dr' => ?_⟩
    have e2 : v.toNat < xs.length := by omega
    refine r_ixL (SqL.kp at_ k hx) (v := xs[v.toNat]) (at_of (j := v.toNat) (by omega) (List.getElem?_eq_getElem e2)) ?_
    exact q _ _ H' (List.getElem?_eq_getElem e2) k dr'
theorem ok_like {f : Addr} {fd : FuncData} (h : Has K mg "_law_like" s_law_like ["got", "due"] f fd) (z_repr : mg "repr" = none) : GOk P w K mg base CX0 1 f fd ["got", "due"] (spLike K) := by
  refine fun_okG h.fn sc_law_like (fun vs H Q E h => ?_) (fun cdv A outer s H vs Q E ng hr h => ?_)
  · obtain ⟨v, u, d, rfl, _⟩ := h
    rfl
  · obtain ⟨v, u, d, rfl, h1, h2, sh, q⟩ := h
    refine ⟨_, (pss_one (ps_ret (pe_cmpR op_eq (pe_callB (call_repr ng hr.units) (by rfl) z_repr (by decide +kernel) (pa_cons (pv 0) pa_nil)) (pe_callB (call_repr ng hr.units) (by rfl) z_repr (by decide +kernel) (pa_cons (pv 1) pa_nil)) (nomark _)))), ?_⟩
    walk_at "rd"
    refine ⟨v, d, rfl, h1, sh, ?_⟩
    walk_at "rd"
    refine ⟨u, d, rfl, h2, sh, ?_⟩
    walk_at "rd"
    rw [decide_eq_true rfl]
    exact q
theorem cut_ints (ns : List Int) (lo hi : Option Int) : ∃ ms : List Int, cutV (ns.map V.int) lo hi = ms.map V.int ∧ (∀ x ∈ ms, x ∈ ns) ∧ ms.length ≤ ns.length := by
  unfold cutV
  rw [← List.map_drop, ← List.map_take]
  refine ⟨_, rfl, fun x hx => ?_, ?_⟩
  · exact List.mem_of_mem_drop (List.mem_of_mem_take hx)
  · rw [List.length_take, List.length_drop]
    omega
theorem ok_begun {f : Addr} {fd : FuncData} (h : Has K mg "_law_begun" s_law_begun ["script", "k_so"] f fd) (z_int : mg "int" = none) : FnOk P w K mg base CX0 1 f fd ["script", "k_so"] (spBegun K) := by
  refine h.fn.ok sc_law_begun (fun vs H Q E h => ?_) (fun cdv A outer s H vs Q E hr h => ?_)
  · obtain ⟨a, k, ns, rfl, _⟩ := h
    rfl
  · obtain ⟨a, k, ns, rfl, hS, hl, hb, k0, k1, q⟩ := h
    have esz : sizeLine = 16777216 := by decide
    refine ⟨_, (pss_cons (ps_set (i := 2) sc_law_begun.nd rfl (.inl rfl) (pe_op op_cat (pe_slice sl_list (pv 0) (po_some (pv 1)) po_none) (pe_slice sl_list (pv 0) po_none (po_some (pv 1)))))
      (pss_cons (ps_setLc (i := 3) (own := [("cell", 4)]) (g := gName 4) (tt := _) rfl sc_law_begun.nd rfl rfl (sw_true rfl rfl rfl (by decide +kernel)) (pi_list (pv 2)) (blkOk_by (own := [("cell", 4)]) (N := ["script", "k_so", "cells", "great", "cell", "seed"]) (sc := defScope s_law_begun) (by decide +kernel)) (fun _ _ _ _ _ => pg_name (i := 4) sc_law_begun.nd rfl (Or.inl rfl)) (fun _ _ _ _ _ => pts_one (pt_cmpR op_ge (pv 4) (pe_op op_pow pe_int pe_int) (nomark _))) (fun _ _ _ _ _ => (pv 4)))
      (pss_cons (ps_set (i := 5) sc_law_begun.nd rfl (.inl rfl) (pe_op op_add pe_int (pv 1)))
      (pss_cons (ps_for PassesOwn.never rfl (pi_list (pv 2)) (pg_name (i := 4) sc_law_begun.nd rfl (Or.inl rfl)) (pss_one (ps_set (i := 5) sc_law_begun.nd rfl (.inl rfl) (pe_op op_mod (pe_callTy call_intB (by rfl) z_int (by decide +kernel) (pa_cons (pe_op op_add (pe_op op_mulB (pv 5) pe_int) (pv 4)) pa_nil)) pe_int))))
      (pss_one (ps_ret (pe_disp (pps_cons pe_str (pe_ifExp (pt_cmpR (op_neD hr.units) (pv 3) (pe_lst pa_nil) (nomark _)) (pe_ix ix_list (pv 3) pe_int (fun _ _ => rfl)) pe_int) (pps_cons pe_str (pv 5) (pps_cons pe_str (pe_op op_cat (pv 2) (pe_lst (pa_cons (pe_op op_add (pe_op op_mulB pe_int (pv 1)) pe_int) pa_nil))) (pps_cons pe_str pe_int pps_nil)))) (by rfl) (by rfl) (fun z => by cases z) (by decide)))))))), ?_⟩
    walk_at "rd"
    refine r_slL hS fun c1 n1 => ?_
    obtain ⟨m1, e1, i1, l1⟩ := cut_ints ns (some k) none
    rw [e1]
    walk_at "rd"
    have sm1 : Same H (upd H c1 (.lst (m1.map V.int))) := same_new n1
    refine r_slL (sm1.seq hS) fun c2 n2 => ?_
    obtain ⟨m2, e2, i2, l2⟩ := cut_ints ns none (some k)
    rw [e2]
    walk_at "rd"
    have sm2 : Same H (upd (upd H c1 (.lst (m1.map V.int))) c2 (.lst (m2.map V.int))) := sm1.trans (same_new n2)
    have at1 : (upd (upd H c1 (.lst (m1.map V.int))) c2 (.lst (m2.map V.int))) c1 = some (.lst (m1.map V.int)) := same_new n2 _ _ upd_same
    refine r_cat at1 upd_same (by rw [List.length_map, List.length_map]; omega) fun c3 n3 => ?_
    rw [← List.map_append]
    have iA : ∀ x ∈ m1 ++ m2, Bt 1048576 x := fun x hx => (List.mem_append.mp hx).elim (fun z => hb x (i1 x z)) (fun z => hb x (i2 x z))
    have lA : (m1 ++ m2).length ≤ 126 := by rw [List.length_append]; omega
    generalize m1 ++ m2 = cs at iA lA ⊢
    have sm3 := sm2.trans (same_new (o := .lst (cs.map V.int)) n3)
    generalize upd (upd H c1 (.lst (m1.map V.int))) c2 (.lst (m2.map V.int)) = H2 at n3 sm3 ⊢
    have at3 : (upd H2 c3 (.lst (cs.map V.int))) c3 = some (.lst (cs.map V.int)) := upd_same
    generalize upd H2 c3 (.lst (cs.map V.int)) = H3 at sm3 at3 ⊢
    walk_at "rd"
    refine r_ill (.inl (.inl at3)) fun L nL => ?_
    refine cl_list (xs := cs.map V.int) (fun i H' => ∃ gs : List Int, (∀ x ∈ gs, Bt 1048576 x ∧ 0 < x) ∧ gs.length ≤ i ∧ H' L = some (.lst (gs.map V.int)) ∧ Same H3 H')
      ⟨[], fun x hx => (List.not_mem_nil hx).elim, Nat.le_refl _, upd_same, same_new nL⟩ (fun i H' _ hp => ?_) (fun i x H' hi hp => ?_) (fun H' hp => ?_)
    · obtain ⟨gs, _, _, _, sm⟩ := hp
      exact .inl (.inl (sm _ _ at3))
    · obtain ⟨gs, hg, lg, atL, sm⟩ := hp
      rw [List.getElem?_map] at hi
      obtain ⟨z, hz, rfl⟩ := Option.map_eq_some_iff.mp hi
      have hzc : z ∈ cs := List.mem_of_getElem? hz
      have hlt : i < cs.length := (List.getElem?_eq_some_iff.mp hz).1
      refine ⟨rfl, ?_⟩
      walk_at "rd"
      walk_at "two"
      · rename_i hge
        have e18 : (10 : Int) ^ Int.toNat 18 = 1000000000000000000 := by decide +kernel
        rw [e18] at hge
        walk_at "rd"
        refine ⟨gs.map V.int, atL, by rw [List.length_map]; omega, gs ++ [z], fun x hx => ?_, by rw [List.length_append, List.length_singleton]; omega, ?_, same_mut sm nL⟩
        · rcases List.mem_append.mp hx with y | y
          · exact hg x y
          · rw [List.mem_singleton.mp y]
            exact ⟨iA z hzc, by omega⟩
        · rw [upd_same, List.map_append]
          rfl
      · exact ⟨gs, hg, by omega, atL, sm⟩
    · obtain ⟨gs, hg, lg, atL, sm4⟩ := hp
      rw [List.length_map] at lg
      walk_at "rd"
      refine r_ill (.inl (.inl (sm4 _ _ at3))) ?_
      refine fl_list (xs := cs.map V.int) (fun i σ H1 => ∃ (y : Option V) (sd : Int), σ = [some (.ref a), some (.int k), some (.ref c3), some (.ref L), y, some (.int sd)] ∧ 0 ≤ sd ∧ sd < 2147483647 ∧ H1 = H')
        ⟨none, 71 + k, rfl, by omega, by omega, rfl⟩ (fun i σ H1 _ hp => ?_) (fun i x σ H1 hi hp => ?_) (fun σ H1 hp => ?_)
      · obtain ⟨y, sd, rfl, s0, s1, rfl⟩ := hp
        exact .inl (.inl (sm4 _ _ at3))
      · obtain ⟨y, sd, rfl, s0, s1, rfl⟩ := hp
        rw [List.getElem?_map] at hi
        obtain ⟨z, hz, rfl⟩ := Option.map_eq_some_iff.mp hi
        walk_at "rd"
        exact ⟨_, _, rfl, Int.emod_nonneg _ (by decide), Int.emod_lt_of_pos _ (by decide), rfl⟩
      · obtain ⟨y, sd, rfl, s0, s1, rfl⟩ := hp
        walk_at "rd"
        refine r_disp fun p np => ?_
        have npc : c3 ≠ p := ne_of_none (sm4 _ _ at3) np
        have smp : Same H (upd H1 p (.dK [])) := (sm3.trans sm4).trans (same_new np)
        have nHp : H p = none := (sm3.trans sm4).free np
        have atc : (upd H1 p (.dK [])) c3 = some (.lst (cs.map V.int)) := same_new np _ _ (sm4 _ _ at3)
        have atg : (upd H1 p (.dK [])) L = some (.lst (gs.map V.int)) := same_new np _ _ atL
        have atp : (upd H1 p (.dK [])) p = some (.dK []) := upd_same
        -- what the end needs of any later heap
        have fin : ∀ (l : Int) (H5 : Hp), 0 ≤ l → Bt 1048577 l → Same (upd H1 p (.dK [])) H5 → ∀ c5, H5 c5 = none → (upd H5 c5 (.lst ([.int (53 * k + 11)]))) c5 = some (.lst [.int (53 * k + 11)]) →
            rCat (.ref c3) (.ref c5) (upd H5 c5 (.lst ([.int (53 * k + 11)]))) (fun y H6 => rDisp p [(.str "left", .int l), (.str "seed", .int sd), (.str "cells", y), (.str "spot", .int 0)] H6 Q) := by
          intro l H5 l0 lb sm5 c5 n5 at5
          have sm6 : Same (upd H1 p (.dK [])) (upd H5 c5 (.lst [.int (53 * k + 11)])) := sm5.trans (same_new n5)
          refine r_cat (sm6 _ _ atc) at5 (by rw [List.length_map]; show cs.length + 1 ≤ _; omega) fun c7 n7 => ?_
          have sm7 := sm6.trans (same_new (o := .lst (cs.map V.int ++ [.int (53 * k + 11)])) n7)
          refine r_Mk (sm7 _ _ atp) ?_
          refine q _ _ nHp (same_mut (smp.trans sm7) nHp) ⟨c7, l, sd, 0, cs ++ [53 * k + 11], ?_⟩
          have n7p : c7 ≠ p := (ne_of_none (sm6 _ _ atp) n7).symm
          exact {
            at_ := upd_same
            cells := .inl (.inl (by
              rw [upd_ne n7p, upd_same, List.map_append]
              rfl))
            some_ := by simp
            few := by rw [List.length_append, List.length_singleton]; omega
            bits := fun x hx => by
              rcases List.mem_append.mp hx with z | z
              · exact (iA x z).mono (by decide)
              · rw [List.mem_singleton.mp z]
                exact (Bt.small (by omega) (by omega)).mono (by decide)
            l0 := l0, lb := lb, s0 := s0, s1 := s1, p0 := by omega, p1 := by omega }
        walk_at "rd"
        refine r_mkL (few_le rfl) fun e ne => ?_
        have sme : Same (upd H1 p (.dK [])) (upd (upd H1 p (.dK [])) e (.lst [])) := same_new ne
        have dg : Fine 1900 1 0 (.list ([].map PyData.int)) := (FineAll.ints (ns := []) (fun x hx => (List.not_mem_nil hx).elim) (by decide)).list
        have hgd : SeqAt.shaped (.list (gs.map PyData.int)) = true := by
          have c1 : ∀ l : List Int, PyData.canLayAll0 (l.map PyData.int) = true := fun l => by
            induction l with
            | nil => simp only [List.map_nil, PyData.canLayAll0]
            | cons x r ih => simp only [List.map_cons, PyData.canLayAll0, PyData.canLay0, ih]; rfl
          have c2 : ∀ l : List Int, PyData.depthAll (l.map PyData.int) = 0 := fun l => by
            induction l with
            | nil => simp only [List.map_nil, PyData.depthAll]
            | cons x r ih => simp only [List.map_cons, PyData.depthAll, PyData.depth, ih]; rfl
          unfold SeqAt.shaped
          simp only [PyData.canLay0, PyData.depth, c1, c2]
          rfl
        refine r_neD (Dp.ints (.inl (.inl (sme _ _ atg)))) (Dp.ints (ns := []) (.inl (.inl upd_same))) hgd (dg.shaped (by decide)) ?_
        walk_at "rd"
        cases gs with
        | nil =>
          have e0 : PyData.eqv (.list (([] : List Int).map PyData.int)) (.list (([] : List Int).map PyData.int)) = true := dg.eqv
          rw [e0]
          walk_at "rd"
          refine r_mkL (few_le rfl) fun c5 n5 => ?_
          exact fin 0 _ (by decide) ((Bt.small (by decide) (by decide)).mono (by decide)) sme c5 n5 upd_same
        | cons z r =>
          have e0 : PyData.eqv (.list ((z :: r).map PyData.int)) (.list (([] : List Int).map PyData.int)) = false := by
            simp only [List.map_cons, List.map_nil, PyData.eqv, PyData.eqvAll]
          rw [e0]
          walk_at "rd"
          refine r_ixL (.inl (.inl (sme _ _ atg))) (v := .int z) (atI_nat (j := 0) rfl) ?_
          walk_at "rd"
          refine r_mkL (few_le rfl) fun c5 n5 => ?_
          have hz := hg z List.mem_cons_self
          exact fin z _ (by omega) (hz.1.mono (by decide)) sme c5 n5 upd_same
end

end L09
namespace L09
open PySem PySem.Spec PyProof.Rows L2 GB
/-! ### the count -/
def cnt (m n : Nat) : Nat :=
  if m = 0 ∨ n = 0 then 0
  else if m = 1 ∧ n = 1 then 1
  else 2 * cnt (min m ((max m n + 1) / 2)) (min n ((max m n + 1) / 2)) + cnt (m - min m ((max m n + 1) / 2)) (n - min n ((max m n + 1) / 2))
termination_by m + n
decreasing_by all_goals omega
theorem cnt_zero {m n : Nat} (h : m = 0 ∨ n = 0) : cnt m n = 0 := by
  rw [cnt, if_pos h]
theorem cnt_one : cnt 1 1 = 1 := by
  rw [cnt, if_neg (by omega), if_pos (by omega)]
theorem cnt_step {m n : Nat} (h0 : ¬ (m = 0 ∨ n = 0)) (h1 : ¬ (m = 1 ∧ n = 1)) :
    cnt m n = 2 * cnt (min m ((max m n + 1) / 2)) (min n ((max m n + 1) / 2)) + cnt (m - min m ((max m n + 1) / 2)) (n - min n ((max m n + 1) / 2)) := by
  rw [cnt, if_neg h0, if_neg h1]
/-- no more than the power of three -/
theorem cnt_le : ∀ (k m n : Nat), m ≤ 2 ^ k → n ≤ 2 ^ k → cnt m n ≤ 3 ^ k
  | 0, m, n, hm, hn => by
    have e1 : (2 : Nat) ^ 0 = 1 := rfl
    have e2 : (3 : Nat) ^ 0 = 1 := rfl
    rw [e1] at hm hn
    rw [e2]
    by_cases h : m = 0 ∨ n = 0
    · rw [cnt_zero h]; omega
    · have : m = 1 := by omega
      have : n = 1 := by omega
      subst m n
      rw [cnt_one]
      exact Nat.le_refl _
  | k + 1, m, n, hm, hn => by
    by_cases h : m = 0 ∨ n = 0
    · rw [cnt_zero h]; exact Nat.zero_le _
    · by_cases h1 : m = 1 ∧ n = 1
      · obtain ⟨rfl, rfl⟩ := h1
        rw [cnt_one]
        exact Nat.one_le_pow _ _ (by decide)
      · rw [cnt_step h h1]
        have p2 : 2 ^ (k + 1) = 2 * 2 ^ k := by rw [Nat.pow_succ]; omega
        have p3 : 3 ^ (k + 1) = 3 * 3 ^ k := by rw [Nat.pow_succ]; omega
        have a := cnt_le k (min m ((max m n + 1) / 2)) (min n ((max m n + 1) / 2)) (by omega) (by omega)
        have b := cnt_le k (m - min m ((max m n + 1) / 2)) (n - min n ((max m n + 1) / 2)) (by omega) (by omega)
        omega
theorem cnt_comm (m n : Nat) : cnt m n = cnt n m := by
  by_cases h : m = 0 ∨ n = 0
  · rw [cnt_zero h, cnt_zero (show n = 0 ∨ m = 0 from h.symm)]
  · by_cases h1 : m = 1 ∧ n = 1
    · rw [h1.1, h1.2]
    · rw [cnt_step h h1, cnt_step (m := n) (n := m) (by omega) (by omega), Nat.max_comm n m,
        cnt_comm (min m ((max m n + 1) / 2)) (min n ((max m n + 1) / 2)), cnt_comm (m - min m ((max m n + 1) / 2)) (n - min n ((max m n + 1) / 2))]
termination_by m + n
decreasing_by all_goals omega
theorem cnt_pow : ∀ k : Nat, cnt (2 ^ k) (2 ^ k) = 3 ^ k
  | 0 => cnt_one
  | k + 1 => by
    have p2 : 2 ^ (k + 1) = 2 * 2 ^ k := by rw [Nat.pow_succ]; omega
    have p3 : 3 ^ (k + 1) = 3 * 3 ^ k := by rw [Nat.pow_succ]; omega
    have pos : 0 < 2 ^ k := Nat.two_pow_pos k
    rw [cnt_step (by omega) (by omega)]
    have e : min (2 ^ (k + 1)) ((max (2 ^ (k + 1)) (2 ^ (k + 1)) + 1) / 2) = 2 ^ k := by omega
    rw [e]
    have e2 : 2 ^ (k + 1) - 2 ^ k = 2 ^ k := by omega
    rw [e2, cnt_pow k]
    omega

section
variable {P : Program} {w : World} {K : PySem.W.Frag} {mg : Str → Option Value} {base : Heap}
def spThree (k : Nat) : Sp := fun vs H Q _ => ∃ m n : Nat, vs = [.int (m : Int), .int (n : Int)] ∧ m ≤ 2 ^ k ∧ n ≤ 2 ^ k ∧ Q (.int (cnt m n : Nat)) H
theorem ok_three {f_three : Addr} {fd_three : FuncData} (h_three_count : Has K mg "three_count" s_three_count ["m", "n"] f_three fd_three) (z_max : mg "max" = none) (z_min : mg "min" = none) :
    ∀ k : Nat, k ≤ 12 → FnOk P w K mg base CX0 (k + 1) f_three fd_three ["m", "n"] (spThree k) := by
  intro k
  induction k with
  | zero =>
    intro _
    refine h_three_count.fn.ok sc_three_count (fun vs H Q E h => ?_) (fun cdv A outer s H vs Q E hr h => ?_)
    · obtain ⟨m, n, rfl, _⟩ := h
      rfl
    · obtain ⟨m, n, rfl, hm, hn, q⟩ := h
      refine ⟨_, (pss_cons (ps_if (PW.pt (pw_or (pt_cmpR op_eq (pv 0) pe_int (nomark _)) (pw_or1 (pt_cmpR op_eq (pv 1) pe_int (nomark _))))) (pss_one (ps_ret pe_int)) pss_nil)
        (pss_cons (ps_if (PW.pt (pw_and (pt_cmpR op_eq (pv 0) pe_int (nomark _)) (pw_and1 (pt_cmpR op_eq (pv 1) pe_int (nomark _))))) (pss_one (ps_ret pe_int)) pss_nil) pss_never)), ?_⟩
      have e : (2 : Nat) ^ 0 = 1 := rfl
      rw [e] at hm hn
      walk_at "all"
      · rw [cnt_zero (by omega)] at q; exact q
      · rw [cnt_zero (by omega)] at q; exact q
      · have e1 : m = 1 := by omega
        have e2 : n = 1 := by omega
        subst e1 e2
        rw [cnt_one] at q; exact q
      · omega
      · omega
  | succ k ih =>
    intro hk
    have F_three_count := ih (by omega)
    refine h_three_count.fn.ok sc_three_count (fun vs H Q E h => ?_) (fun cdv A outer s H vs Q E hr h => ?_)
    · obtain ⟨m, n, rfl, _⟩ := h
      rfl
    · obtain ⟨m, n, rfl, hm, hn, q⟩ := h
      refine ⟨_, (pss_cons (ps_if (PW.pt (pw_or (pt_cmpR op_eq (pv 0) pe_int (nomark _)) (pw_or1 (pt_cmpR op_eq (pv 1) pe_int (nomark _))))) (pss_one (ps_ret pe_int)) pss_nil)
      (pss_cons (ps_if (PW.pt (pw_and (pt_cmpR op_eq (pv 0) pe_int (nomark _)) (pw_and1 (pt_cmpR op_eq (pv 1) pe_int (nomark _))))) (pss_one (ps_ret pe_int)) pss_nil)
      (pss_cons (ps_set (i := 2) sc_three_count.nd rfl (.inl rfl) (pe_op op_fdivW (pe_op op_add (pe_callB (call_maxB rfl) (by rfl) z_max (by decide +kernel) (pa_cons (pv 0) (pa_cons (pv 1) pa_nil))) pe_int) pe_int))
      (pss_cons (ps_par (i := 3) (j := 4) (by rfl) sc_three_count.nd rfl rfl (by decide) rfl rfl (pa_cons (pe_callB (call_minB rfl) (by rfl) z_min (by decide +kernel) (pa_cons (pv 0) (pa_cons (pv 2) pa_nil))) (pa_cons (pe_callB (call_minB rfl) (by rfl) z_min (by decide +kernel) (pa_cons (pv 1) (pa_cons (pv 2) pa_nil))) pa_nil)) (by rfl))
      (pss_one (ps_ret (pe_op op_add (pe_op op_mulB pe_int (pe_call F_three_count (hr.mono (by omega)) (by rfl) h_three_count.gl h_three_count.fn.kp h_three_count.bd .nil pass0 (pa_cons (pv 3) (pa_cons (pv 4) pa_nil)))) (pe_call F_three_count (hr.mono (by omega)) (by rfl) h_three_count.gl h_three_count.fn.kp h_three_count.bd .nil pass0 (pa_cons (pe_op op_sub (pv 0) (pv 3)) (pa_cons (pe_op op_sub (pv 1) (pv 4)) pa_nil)))))))))), ?_⟩
      have p2 : 2 ^ (k + 1) = 2 * 2 ^ k := by rw [Nat.pow_succ]; omega
      have p12 : 2 ^ (k + 1) ≤ 2 ^ 12 := Nat.pow_le_pow_right (by decide) hk
      have e12 : (2 : Nat) ^ 12 = 4096 := rfl
      rw [e12] at p12
      have e3 : (3 : Nat) ^ 12 = 531441 := rfl
      walk_at "all"
      · rw [cnt_zero (by omega)] at q; exact q
      · rw [cnt_zero (by omega)] at q; exact q
      · have e1 : m = 1 := by omega
        have e2 : n = 1 := by omega
        subst e1 e2
        rw [cnt_one] at q; exact q
      all_goals
        have h0 : ¬ (m = 0 ∨ n = 0) := by omega
        have h1 : ¬ (m = 1 ∧ n = 1) := by omega
        rw [cnt_step h0 h1] at q
        have c1 := cnt_le 12 (min m ((max m n + 1) / 2)) (min n ((max m n + 1) / 2)) (by rw [e12]; omega) (by rw [e12]; omega)
        rw [e3] at c1
        refine ⟨min m ((max m n + 1) / 2), min n ((max m n + 1) / 2), vs2 (by omega) (by omega), by omega, by omega, ?_⟩
        walk_at "rd"
        refine ⟨m - min m ((max m n + 1) / 2), n - min n ((max m n + 1) / 2), vs2 (by omega) (by omega), by omega, by omega, ?_⟩
        walk_at "rd"
        generalize cnt (min m ((max m n + 1) / 2)) (min n ((max m n + 1) / 2)) = a at q ⊢
        generalize cnt (m - min m ((max m n + 1) / 2)) (n - min n ((max m n + 1) / 2)) = b at q ⊢
        have e : ((2 * a + b : Nat) : Int) = 2 * (a : Int) + (b : Int) := by omega
        rw [e] at q
        exact q
def spBound : Sp := fun vs H Q _ => ∃ m n : Nat, vs = [.int (m : Int), .int (n : Int)] ∧ m ≤ 4096 ∧ n ≤ 4096 ∧ ∀ (k : Nat) H', m ≤ 2 ^ k → n ≤ 2 ^ k → Same H H' → Q (.int ((3 ^ k : Nat) : Int)) H'
def spSize (K : PySem.W.Frag) : Sp := fun vs H Q _ => ∃ (p : Addr) (n : Nat), vs = [.ref p] ∧ Draws K p n H ∧ n ≤ 1000000 ∧ ∀ (x : Nat) H', x ≤ 4000 → Kp p H H' → Draws K p (n + 3) H' → Q (.int (x : Int)) H'
theorem ok_bound {f : Addr} {fd : FuncData} (h : Has K mg "_law_bound" s_law_bound ["near", "far"] f fd) (z_range : mg "range" = none) (z_max : mg "max" = none) :
    FnOk P w K mg base CX0 1 f fd ["near", "far"] spBound := by
  refine h.fn.ok sc_law_bound (fun vs H Q E h => ?_) (fun cdv A outer s H vs Q E hr h => ?_)
  · obtain ⟨m, n, rfl, _⟩ := h
    rfl
  · obtain ⟨m, n, rfl, hm, hn, q⟩ := h
    refine ⟨_, (pss_cons (ps_asg (pe_tup (pa_cons pe_int (pa_cons pe_int pa_nil))) (pg_tup rfl (pgs_cons (pg_name (i := 2) sc_law_bound.nd rfl (Or.inl rfl)) (pgs_cons (pg_name (i := 3) sc_law_bound.nd rfl (Or.inl rfl)) pgs_nil))))
      (pss_cons (ps_for PassesOwn.never rfl (pi_range1 rfl z_range (pa_cons pe_int pa_nil)) (pg_name (i := 4) sc_law_bound.nd rfl (Or.inl rfl)) (pss_one (ps_if (pt_cmpR op_lt (pv 2) (pe_callB (call_maxB rfl) (by rfl) z_max (by decide +kernel) (pa_cons (pv 0) (pa_cons (pv 1) pa_nil))) (nomark _)) (pss_one (ps_par (i := 2) (j := 3) (by rfl) sc_law_bound.nd rfl rfl (by decide) rfl rfl (pa_cons (pe_op op_mulB pe_int (pv 2)) (pa_cons (pe_op op_mulB pe_int (pv 3)) pa_nil)) (by rfl))) pss_nil)))
      (pss_one (ps_ret (pv 3))))), ?_⟩
    walk_at "rd"
    rename_i p H0 sm np atp
    refine fl_range (fun i σ H1 => ∃ (k : Nat) (y : Option V), σ = [some (.int (m : Int)), some (.int (n : Int)), some (.int ((2 ^ k : Nat) : Int)), some (.int ((3 ^ k : Nat) : Int)), y] ∧ H1 = H0 ∧ k ≤ i ∧ (k < i → m ≤ 2 ^ k ∧ n ≤ 2 ^ k))
      ⟨0, none, rfl, rfl, Nat.le_refl _, fun z => (Nat.lt_irrefl _ z).elim⟩ (fun i σ H1 hi hp => ?_) (fun σ H1 hp => ?_)
    · obtain ⟨k, y, rfl, rfl, h1, h2⟩ := hp
      have i13 : i < 13 := hi
      have p2 : 2 ^ (k + 1) = 2 * 2 ^ k := by rw [Nat.pow_succ]; omega
      have p3 : 3 ^ (k + 1) = 3 * 3 ^ k := by rw [Nat.pow_succ]; omega
      have b2 : 2 ^ k ≤ 2 ^ 13 := Nat.pow_le_pow_right (by decide) (by omega)
      have b3 : 3 ^ k ≤ 3 ^ 13 := Nat.pow_le_pow_right (by decide) (by omega)
      have e2 : (2 : Nat) ^ 13 = 8192 := rfl
      have e3 : (3 : Nat) ^ 13 = 1594323 := rfl
      rw [e2] at b2
      rw [e3] at b3
      walk_at "rd"
      walk_at "two"
      · walk_at "rd"
        have k2 : ((2 ^ (k + 1) : Nat) : Int) = 2 * ((2 ^ k : Nat) : Int) := by omega
        have k3 : ((3 ^ (k + 1) : Nat) : Int) = 3 * ((3 ^ k : Nat) : Int) := by omega
        refine ⟨k + 1, some (.int (0 + (i : Int))), ?_, rfl, by omega, fun z => ?_⟩
        · rw [k2, k3]
          rfl
        · exact absurd z (by omega)
      · walk_at "rd"
        exact ⟨k, _, rfl, rfl, by omega, fun _ => ⟨by omega, by omega⟩⟩
    · obtain ⟨k, y, rfl, rfl, h1, h2⟩ := hp
      have h13 : k ≤ 13 := h1
      walk_at "rd"
      by_cases e : k = 13
      · subst e
        exact q 13 _ (Nat.le_trans hm (by decide)) (Nat.le_trans hn (by decide)) sm
      · obtain ⟨a, b⟩ := h2 (by show k < 13; omega)
        exact q k _ a b sm
theorem ok_size {f g o : Addr} {fd gd od : FuncData} (h : Has K mg "_law_size" s_law_size ["m"] f fd) (h_law_draw : Has K mg "_law_draw" s_law_draw ["m", "bound"] g gd) (F_law_draw : FnOk P w K mg base CX0 1 g gd ["m", "bound"] (spDraw K))
    (h_law_of : Has K mg "_law_of" s_law_of ["m", "some"] o od) (F_law_of : FnOk P w K mg base CX0 2 o od ["m", "some"] (spOf K)) :
    FnOk P w K mg base CX0 3 f fd ["m"] (spSize K) := by
  refine h.fn.ok sc_law_size (fun vs H Q E h => ?_) (fun cdv A outer s H vs Q E hr h => ?_)
  · obtain ⟨p, n, rfl, _⟩ := h
    rfl
  · obtain ⟨p, n, rfl, dr, hn, q⟩ := h
    obtain ⟨kvs, at_⟩ := dr.at_
    refine ⟨_, (pss_cons (ps_set (i := 1) sc_law_size.nd rfl (.inl rfl) (pe_call F_law_draw (hr.mono (by decide)) (by rfl) h_law_draw.gl h_law_draw.fn.kp h_law_draw.bd .nil pass0 (pa_cons (pv 0) (pa_cons pe_int pa_nil))))
      (pss_cons (ps_if (pt_cmpR op_eq (pv 1) pe_int (nomark _)) (pss_one (ps_ret (pe_op op_add (pe_call F_law_of (hr.mono (by decide)) (by rfl) h_law_of.gl h_law_of.fn.kp h_law_of.bd .nil pass0 (pa_cons (pv 0) (pa_cons (pe_lst (pa_cons pe_int (pa_cons pe_int (pa_cons pe_int (pa_cons pe_int (pa_cons pe_int (pa_cons pe_int (pa_cons pe_int (pa_cons pe_int pa_nil))))))))) pa_nil))) (pe_call F_law_draw (hr.mono (by decide)) (by rfl) h_law_draw.gl h_law_draw.fn.kp h_law_draw.bd .nil pass0 (pa_cons (pv 0) (pa_cons pe_int pa_nil)))))) pss_nil)
      (pss_one (ps_ret (pe_call F_law_draw (hr.mono (by decide)) (by rfl) h_law_draw.gl h_law_draw.fn.kp h_law_draw.bd .nil pass0 (pa_cons (pv 0) (pa_cons (pe_ix ix_list (pe_lst (pa_cons pe_int (pa_cons pe_int (pa_cons pe_int (pa_cons pe_int (pa_cons pe_int pa_nil)))))) (pv 1) (fun _ _ => rfl)) pa_nil))))))), ?_⟩
    walk_at "rd"
    refine ⟨p, 5, n, rfl, dr, by omega, by decide, (Bt.small (by decide) (by decide)).mono (by decide), fun v H1 v0 v1 k1 dr1 => ?_⟩
    obtain ⟨kvs1, at1⟩ := dr1.at_
    walk_at "rd"
    walk_at "two"
    · walk_at "rd"
      refine r_newL (few_le rfl) fun a Ha sm na ata => ?_
      walk_at "rd"
      refine ⟨p, a, n + 1, [.int 1, .int 2, .int 4, .int 8, .int 16, .int 64, .int 512, .int 2048], rfl, dr1.same sm, by omega, sql_of ata, by simp, by show 8 ≤ sizeLine; decide, fun i v H2 hv k2 dr2 => ?_⟩
      have hx : ∃ x : Nat, v = .int (x : Int) ∧ x ≤ 2048 := by
        match i, hv with
        | 0, hv => exact ⟨1, (Option.some.inj hv).symm, by decide⟩
        | 1, hv => exact ⟨2, (Option.some.inj hv).symm, by decide⟩
        | 2, hv => exact ⟨4, (Option.some.inj hv).symm, by decide⟩
        | 3, hv => exact ⟨8, (Option.some.inj hv).symm, by decide⟩
        | 4, hv => exact ⟨16, (Option.some.inj hv).symm, by decide⟩
        | 5, hv => exact ⟨64, (Option.some.inj hv).symm, by decide⟩
        | 6, hv => exact ⟨512, (Option.some.inj hv).symm, by decide⟩
        | 7, hv => exact ⟨2048, (Option.some.inj hv).symm, by decide⟩
        | i + 8, hv => simp at hv
      obtain ⟨x, rfl, hx⟩ := hx
      obtain ⟨kvs2, at2⟩ := dr2.at_
      walk_at "rd"
      refine ⟨p, 2, n + 1 + 1, rfl, dr2, by omega, by decide, (Bt.small (by decide) (by decide)).mono (by decide), fun y H3 y0 y1 k3 dr3 => ?_⟩
      walk_at "rd"
      have e : (x : Int) + y = ((x + y.toNat : Nat) : Int) := by omega
      rw [e]
      exact q _ H3 (by omega) ((k1.trans (Kp.of sm)).trans (k2.trans k3)) dr3
    · walk_at "rd"
      refine r_newL (few_le rfl) fun a Ha sm na ata => ?_
      walk_at "rd"
      have hv : ∃ b : Int, atI [V.int 0, .int 13, .int 301, .int 4001, .int 41] v = some (.int b) ∧ 0 < b ∧ b ≤ 4001 := by
        have h4 : v = 1 ∨ v = 2 ∨ v = 3 ∨ v = 4 := by omega
        rcases h4 with rfl | rfl | rfl | rfl
        · exact ⟨13, atI_nat (j := 1) rfl, by decide, by decide⟩
        · exact ⟨301, atI_nat (j := 2) rfl, by decide, by decide⟩
        · exact ⟨4001, atI_nat (j := 3) rfl, by decide, by decide⟩
        · exact ⟨41, atI_nat (j := 4) rfl, by decide, by decide⟩
      obtain ⟨b, hb, b0, b1⟩ := hv
      refine r_ixL (sql_of ata) hb ?_
      walk_at "rd"
      refine ⟨p, b, n + 1, rfl, dr1.same sm, by omega, b0, (Bt.small (by omega) (by omega)).mono (by decide), fun y H3 y0 y1 k3 dr3 => ?_⟩
      have e : y = ((y.toNat : Nat) : Int) := by omega
      rw [e]
      exact q _ H3 (by omega) (k1.trans ((Kp.of sm).trans k3)) (dr3.mono (by omega))
/-! the law's own count, kept in a dict -/
def Good (kvs : List (List Key × V)) : Prop := ∀ (m n : Nat) (v : V), valV kvs [.inl (m : Int), .inl (n : Int)] = some v → v = .int (cnt m n : Nat)
def Memo (d : Addr) (b : Nat) (H : Hp) : Prop := ∃ kvs, H d = some (.dT kvs) ∧ kvs.length ≤ b ∧ Good kvs
theorem Memo.same {d : Addr} {b : Nat} {H H' : Hp} (h : Memo d b H) (k : Same H H') : Memo d b H' := let ⟨kvs, a, c, e⟩ := h; ⟨kvs, k _ _ a, c, e⟩
theorem Memo.mono {d : Addr} {b c : Nat} {H : Hp} (h : Memo d b H) (l : b ≤ c) : Memo d c H := let ⟨kvs, a, z, e⟩ := h; ⟨kvs, a, Nat.le_trans z l, e⟩
theorem Good.put {kvs : List (List Key × V)} (h : Good kvs) (m n : Nat) : Good (putK kvs [.inl (m : Int), .inl (n : Int)] (.int (cnt m n : Nat))) := by
  intro m' n' v hv
  rw [valV_put] at hv
  by_cases e : ([.inl (m' : Int), .inl (n' : Int)] : List Key) = [.inl (m : Int), .inl (n : Int)]
  · rw [if_pos e] at hv
    have e1 : (m' : Int) = m := Sum.inl.inj (List.cons.inj e).1
    have e2 : (n' : Int) = n := Sum.inl.inj (List.cons.inj (List.cons.inj e).2).1
    have e3 : m' = m := by omega
    have e4 : n' = n := by omega
    subst e3 e4
    exact (Option.some.inj hv).symm
  · rw [if_neg e] at hv
    exact h m' n' v hv
theorem key_tup {H : Hp} {p : Addr} {a b : Int} (h : H p = some (.tup [.int a, .int b])) : H p = some (.tup (([.inl a, .inl b] : List Key).map kV)) := h
def spCount (k : Nat) : Sp := fun vs H Q _ => ∃ (d : Addr) (m n b : Nat), vs = [.ref d, .int (m : Int), .int (n : Int)] ∧ Memo d b H ∧ b + (2 ^ (k + 1) - 1) ≤ 10000000 ∧ m ≤ 2 ^ k ∧ n ≤ 2 ^ k ∧
  ∀ H', Kp d H H' → Memo d (b + (2 ^ (k + 1) - 1)) H' → Q (.int (cnt m n : Nat)) H'
theorem ok_count {f : Addr} {fd : FuncData} (h_law_count : Has K mg "_law_count" s_law_count ["known", "near", "far"] f fd) (z_max : mg "max" = none) (z_min : mg "min" = none) :
    ∀ k : Nat, k ≤ 12 → FnOk P w K mg base CX0 (k + 1) f fd ["known", "near", "far"] (spCount k) := by
  intro k
  induction k with
  | zero =>
    intro _
    refine h_law_count.fn.ok sc_law_count (fun vs H Q E h => ?_) (fun cdv A outer s H vs Q E hr h => ?_)
    · obtain ⟨d, m, n, b, rfl, _⟩ := h
      rfl
    · obtain ⟨d, m, n, b, rfl, me, hb, hm, hn, q⟩ := h
      refine ⟨_, (pss_cons (ps_if (PW.pt (pw_or (pt_cmpR op_eq (pv 1) pe_int (nomark _)) (pw_or1 (pt_cmpR op_eq (pv 2) pe_int (nomark _))))) (pss_one (ps_ret pe_int)) pss_nil)
        (pss_cons (ps_if (PW.pt (pw_and (pt_cmpR op_eq (pv 1) pe_int (nomark _)) (pw_and1 (pt_cmpR op_eq (pv 2) pe_int (nomark _))))) (pss_one (ps_ret pe_int)) pss_nil) pss_never)), ?_⟩
      have e : (2 : Nat) ^ 0 = 1 := rfl
      rw [e] at hm hn
      have q' := q H (Kp.refl _ _) (me.mono (by omega))
      walk_at "all"
      · rw [cnt_zero (by omega)] at q'; exact q'
      · rw [cnt_zero (by omega)] at q'; exact q'
      · have e1 : m = 1 := by omega
        have e2 : n = 1 := by omega
        subst e1 e2
        rw [cnt_one] at q'; exact q'
      · omega
      · omega
  | succ k ih =>
    intro hk
    have F_law_count := ih (by omega)
    refine h_law_count.fn.ok sc_law_count (fun vs H Q E h => ?_) (fun cdv A outer s H vs Q E hr h => ?_)
    · obtain ⟨d, m, n, b, rfl, _⟩ := h
      rfl
    · obtain ⟨d, m, n, b, rfl, me, hb, hm, hn, q⟩ := h
      refine ⟨_, (pss_cons (ps_if (PW.pt (pw_or (pt_cmpR op_eq (pv 1) pe_int (nomark _)) (pw_or1 (pt_cmpR op_eq (pv 2) pe_int (nomark _))))) (pss_one (ps_ret pe_int)) pss_nil)
      (pss_cons (ps_if (PW.pt (pw_and (pt_cmpR op_eq (pv 1) pe_int (nomark _)) (pw_and1 (pt_cmpR op_eq (pv 2) pe_int (nomark _))))) (pss_one (ps_ret pe_int)) pss_nil)
      (pss_cons (ps_if (pt_cmp (pc_dnotin (hu_of hr) (pe_tup (pa_cons (pv 1) (pa_cons (pv 2) pa_nil))) (pv 0))) (pss_cons (ps_set (i := 3) sc_law_count.nd rfl (.inl rfl) (pe_op op_fdivW (pe_op op_add (pe_callB (call_maxB rfl) (by rfl) z_max (by decide +kernel) (pa_cons (pv 1) (pa_cons (pv 2) pa_nil))) pe_int) pe_int))
      (pss_cons (ps_par (i := 4) (j := 5) (by rfl) sc_law_count.nd rfl rfl (by decide) rfl rfl (pa_cons (pe_callB (call_minB rfl) (by rfl) z_min (by decide +kernel) (pa_cons (pv 1) (pa_cons (pv 3) pa_nil))) (pa_cons (pe_callB (call_minB rfl) (by rfl) z_min (by decide +kernel) (pa_cons (pv 2) (pa_cons (pv 3) pa_nil))) pa_nil)) (by rfl))
      (pss_cons (ps_set (i := 6) sc_law_count.nd rfl (.inl rfl) (pe_op op_add (pe_op op_mulB pe_int (pe_call F_law_count (hr.mono (by omega)) (by rfl) h_law_count.gl h_law_count.fn.kp h_law_count.bd .nil pass0 (pa_cons (pv 0) (pa_cons (pv 4) (pa_cons (pv 5) pa_nil))))) (pe_call F_law_count (hr.mono (by omega)) (by rfl) h_law_count.gl h_law_count.fn.kp h_law_count.bd .nil pass0 (pa_cons (pv 0) (pa_cons (pe_op op_sub (pv 1) (pv 4)) (pa_cons (pe_op op_sub (pv 2) (pv 5)) pa_nil))))))
      (pss_one (ps_dput (hu_of hr) (pv 0) (pe_tup (pa_cons (pv 1) (pa_cons (pv 2) pa_nil))) (pv 6) rfl))))) pss_nil)
      (pss_one (ps_ret (pe_dget (hu_of hr) (pv 0) (pe_tup (pa_cons (pv 1) (pa_cons (pv 2) pa_nil))) (fun _ _ => rfl))))))), ?_⟩
      have p2 : 2 ^ (k + 1) = 2 * 2 ^ k := by rw [Nat.pow_succ]; omega
      have p2' : 2 ^ (k + 1 + 1) = 2 * 2 ^ (k + 1) := by rw [Nat.pow_succ]; omega
      have pos : 0 < 2 ^ k := Nat.two_pow_pos k
      have p12 : 2 ^ (k + 1) ≤ 2 ^ 12 := Nat.pow_le_pow_right (by decide) hk
      have e12 : (2 : Nat) ^ 12 = 4096 := rfl
      rw [e12] at p12
      have e3 : (3 : Nat) ^ 12 = 531441 := rfl
      have esz : sizeLine = 16777216 := by decide
      have q' := q H (Kp.refl _ _) (me.mono (by omega))
      walk_at "all"
      · rw [cnt_zero (by omega)] at q'; exact q'
      · rw [cnt_zero (by omega)] at q'; exact q'
      · have e1 : m = 1 := by omega
        have e2 : n = 1 := by omega
        subst e1 e2
        rw [cnt_one] at q'; exact q'
      all_goals
        rename_i p H1 sm1 np atp
        have h0 : ¬ (m = 0 ∨ n = 0) := by omega
        have h1 : ¬ (m = 1 ∧ n = 1) := by omega
        obtain ⟨kvs, atd, lk, gd⟩ := me
        have atd1 := sm1 _ _ atd
        have kp1 : Kp d H H1 := Kp.of sm1
        refine nin_T atd1 (key_tup atp) ?_
        walk_at "rd"
        cases ev : valV kvs [.inl (m : Int), .inl (n : Int)] with
        | some v =>
          have e := gd m n v ev
          subst e
          simp only [Option.isSome_some, Bool.not_true, Bool.false_eq_true, if_false]
          walk_at "rd"
          rename_i p2 H2 sm2 np2 atp2
          have at2 := sm2 _ _ atd1
          refine get_T at2 (key_tup atp2) ev ?_
          exact q _ (kp1.trans (Kp.of sm2)) ⟨kvs, at2, by omega, gd⟩
        | none =>
          simp only [Option.isSome_none, Bool.not_false, if_true]
          walk_at "rd"
          have st := cnt_step h0 h1
          have c1 := cnt_le 12 (min m ((max m n + 1) / 2)) (min n ((max m n + 1) / 2)) (by rw [e12]; omega) (by rw [e12]; omega)
          rw [e3] at c1
          refine ⟨d, min m ((max m n + 1) / 2), min n ((max m n + 1) / 2), b, vs3 (by omega) (by omega), ⟨kvs, atd1, lk, gd⟩, by omega, by omega, by omega, fun H2 k2 me2 => ?_⟩
          walk_at "rd"
          refine ⟨d, m - min m ((max m n + 1) / 2), n - min n ((max m n + 1) / 2), b + (2 ^ (k + 1) - 1), vs3 (by omega) (by omega), me2, by omega, by omega, by omega, fun H3 k3 me3 => ?_⟩
          obtain ⟨kv3, at3, lk3, gd3⟩ := me3
          walk_at "rd"
          rename_i p2 H4 sm4 np2 atp4
          have at4 := sm4 _ _ at3
          have kp4 : Kp d H3 H4 := Kp.of sm4
          refine put_T at4 (key_tup atp4) (by omega) ?_
          have ev2 : (2 * ((cnt (min m ((max m n + 1) / 2)) (min n ((max m n + 1) / 2)) : Nat) : Int) + ((cnt (m - min m ((max m n + 1) / 2)) (n - min n ((max m n + 1) / 2)) : Nat) : Int)) = ((cnt m n : Nat) : Int) := by
            rw [st]
            omega
          rw [ev2]
          have len5 := length_putK kv3 ([.inl (m : Int), .inl (n : Int)] : List Key) (.int (cnt m n : Nat))
          have at5 : (upd H4 d (.dT (putK kv3 [.inl (m : Int), .inl (n : Int)] (.int (cnt m n : Nat))))) d = some (.dT (putK kv3 [.inl (m : Int), .inl (n : Int)] (.int (cnt m n : Nat)))) := upd_same
          have kp5 : Kp d H4 (upd H4 d (.dT (putK kv3 [.inl (m : Int), .inl (n : Int)] (.int (cnt m n : Nat))))) := Kp.put
          have good5 := gd3.put m n
          generalize upd H4 d (.dT (putK kv3 [.inl (m : Int), .inl (n : Int)] (.int (cnt m n : Nat)))) = H5 at at5 kp5 ⊢
          walk_at "rd"
          rename_i p3 H6 sm6 np3 atp6
          have at6 := sm6 _ _ at5
          refine get_T at6 (key_tup atp6) (by rw [valV_put, if_pos rfl]) ?_
          exact q _ ((kp1.trans (k2.trans (k3.trans kp4))).trans (kp5.trans (Kp.of sm6))) ⟨_, at6, by omega, good5⟩
end
end L09
namespace L09
open PySem PySem.Spec PyProof.Rows L2 GB
section
variable {P : Program} {w : World} {K : PySem.W.Frag} {mg : Str → Option Value} {base : Heap}
theorem Memo.kp {p d : Addr} {b : Nat} {H H' : Hp} {kvs : List (Key × V)} (hp : H p = some (.dK kvs)) (k : Kp p H H') (h : Memo d b H) : Memo d b H' := by
  obtain ⟨kv, a, c, e⟩ := h
  exact ⟨kv, k _ _ (ne_of a hp (fun z => by cases z)) a, c, e⟩
theorem cnt_small {m n : Nat} (hm : m ≤ 4096) (hn : n ≤ 4096) : cnt m n ≤ 531441 := cnt_le 12 m n hm hn
theorem int_shows {i : Int} (h1 : -(2 ^ 62) < i) (h2 : i < 2 ^ 62) : Shows (.int i) := (Fine.int (Bt.small h1 h2) (by decide)).shows (by decide) (by decide)
def spRow : Sp := fun vs H Q _ => ∃ (d : Addr) (m n b : Nat), vs = [.ref d, .int (m : Int), .int (n : Int)] ∧ Memo d b H ∧ b ≤ 9000000 ∧ m ≤ 3959 ∧ n ≤ 4000 ∧ ∀ H', Kp d H H' → Memo d (b + 335831) H' → Q (.bl true) H'
theorem ok_row {f f1 f2 f3 : Addr} {fd fd1 fd2 fd3 : FuncData} (h : Has K mg "_law_row_right" s_law_row_right ["known", "first", "second"] f fd) (z_range : mg "range" = none)
    (h_three_count : Has K mg "three_count" s_three_count ["m", "n"] f1 fd1) (F_three_count : FnOk P w K mg base CX0 13 f1 fd1 ["m", "n"] (spThree 12))
    (h_law_count : Has K mg "_law_count" s_law_count ["known", "near", "far"] f2 fd2) (F_law_count : FnOk P w K mg base CX0 13 f2 fd2 ["known", "near", "far"] (spCount 12))
    (h_law_like : Has K mg "_law_like" s_law_like ["got", "due"] f3 fd3) (F_law_like : GOk P w K mg base CX0 1 f3 fd3 ["got", "due"] (spLike K)) :
    GOk P w K mg base CX0 14 f fd ["known", "first", "second"] spRow := by
  refine fun_okG h.fn sc_law_row_right (fun vs H Q E h => ?_) (fun cdv A outer s H vs Q E ng hr h => ?_)
  · obtain ⟨d, m, n, b, rfl, _⟩ := h
    rfl
  · obtain ⟨d, m, n, b, rfl, me, hb, hm, hn, q⟩ := h
    refine ⟨_, (pss_cons (ps_for PassesOwn.never rfl (pi_range1 rfl z_range (pa_cons pe_int pa_nil)) (pg_name (i := 3) sc_law_row_right.nd rfl (Or.inl rfl)) (pss_one (ps_if (pt_not (pt_val (pe_callG F_law_like ng (hr.mono (by decide)) (by rfl) h_law_like.gl h_law_like.fn.kp h_law_like.bd .nil pass0 (pa_cons (pe_call F_three_count (hr.mono (by decide)) (by rfl) h_three_count.gl h_three_count.fn.kp h_three_count.bd .nil pass0 (pa_cons (pe_op op_add (pv 1) (pv 3)) (pa_cons (pv 2) pa_nil))) (pa_cons (pe_call F_law_count (hr.mono (by decide)) (by rfl) h_law_count.gl h_law_count.fn.kp h_law_count.bd .nil pass0 (pa_cons (pv 0) (pa_cons (pe_op op_add (pv 1) (pv 3)) (pa_cons (pv 2) pa_nil)))) pa_nil))))) (pss_one (ps_ret pe_bl)) pss_nil)))
      (pss_one (ps_ret pe_bl))), ?_⟩
    have e12 : (2 : Nat) ^ 12 = 4096 := rfl
    have e13 : (2 : Nat) ^ (12 + 1) = 8192 := rfl
    walk_at "rd"
    refine fl_range (fun i σ H1 => ∃ (y : Option V), σ = [some (.ref d), some (.int (m : Int)), some (.int (n : Int)), y] ∧ Kp d H H1 ∧ Memo d (b + i * 8191) H1)
      ⟨none, rfl, Kp.refl _ _, me.mono (by omega)⟩ (fun i σ H1 hi hp => ?_) (fun σ H1 hp => ?_)
    · obtain ⟨y, rfl, k1, me1⟩ := hp
      have i41 : i < 41 := hi
      walk_at "rd"
      refine ⟨m + i, n, vs2 (by omega) rfl, by omega, by omega, ?_⟩
      walk_at "rd"
      refine ⟨d, m + i, n, b + i * 8191, vs3 (by omega) rfl, me1, by omega, by omega, by omega, fun H2 k2 me2 => ?_⟩
      have cs := cnt_small (m := m + i) (n := n) (by omega) (by omega)
      walk_at "rd"
      refine ⟨_, _, .int (cnt (m + i) n : Nat), rfl, .int _, .int _, int_shows (by omega) (by omega), ?_⟩
      walk_at "rd"
      exact ⟨_, rfl, k1.trans k2, me2.mono (by omega)⟩
    · obtain ⟨y, rfl, k1, me1⟩ := hp
      walk_at "rd"
      exact q H1 k1 (me1.mono (by show b + 41 * 8191 ≤ _; omega))
def spLaw (K : PySem.W.Frag) : Sp := fun vs H Q _ => ∃ (a : Addr) (ns : List Int), vs = [.ref a] ∧ SqL K H a (ns.map V.int) ∧ ns.length ≤ 63 ∧ (∀ x ∈ ns, Bt 1048576 x) ∧ ∀ H', Q (.bl true) H'
theorem ok_law {f f1 f2 f3 f4 f5 f6 f7 f8 : Addr} {fd fd1 fd2 fd3 fd4 fd5 fd6 fd7 fd8 : FuncData} (h : Has K mg "law" s_law ["script"] f fd) (z_range : mg "range" = none)
    (h_three_count : Has K mg "three_count" s_three_count ["m", "n"] f1 fd1) (F_three_count : FnOk P w K mg base CX0 13 f1 fd1 ["m", "n"] (spThree 12))
    (h_law_count : Has K mg "_law_count" s_law_count ["known", "near", "far"] f2 fd2) (F_law_count : FnOk P w K mg base CX0 13 f2 fd2 ["known", "near", "far"] (spCount 12))
    (h_law_like : Has K mg "_law_like" s_law_like ["got", "due"] f3 fd3) (F_law_like : GOk P w K mg base CX0 1 f3 fd3 ["got", "due"] (spLike K))
    (h_law_row_right : Has K mg "_law_row_right" s_law_row_right ["known", "first", "second"] f4 fd4) (F_law_row_right : GOk P w K mg base CX0 14 f4 fd4 ["known", "first", "second"] spRow)
    (h_law_begun : Has K mg "_law_begun" s_law_begun ["script", "k_so"] f5 fd5) (F_law_begun : FnOk P w K mg base CX0 1 f5 fd5 ["script", "k_so"] (spBegun K))
    (h_law_size : Has K mg "_law_size" s_law_size ["m"] f6 fd6) (F_law_size : FnOk P w K mg base CX0 3 f6 fd6 ["m"] (spSize K))
    (h_law_draw : Has K mg "_law_draw" s_law_draw ["m", "bound"] f7 fd7) (F_law_draw : FnOk P w K mg base CX0 1 f7 fd7 ["m", "bound"] (spDraw K))
    (h_law_bound : Has K mg "_law_bound" s_law_bound ["near", "far"] f8 fd8) (F_law_bound : FnOk P w K mg base CX0 1 f8 fd8 ["near", "far"] spBound) :
    GOk P w K mg base CX0 15 f fd ["script"] (spLaw K) := by
  have kb_three_count_n : KBinds K fd1 ["m", "n"] ["n"] two1 two1 := kb_two1 h_three_count.fn fun _ _ _ _ _ _ _ _ => rfl
  refine fun_okG h.fn sc_law (fun vs H Q E h => ?_) (fun cdv A outer s H vs Q E ng hr h => ?_)
  · obtain ⟨a, ns, rfl, _⟩ := h
    rfl
  · obtain ⟨a, ns, rfl, hS, hl, hbits, q⟩ := h
    refine ⟨_, (pss_cons (ps_set (i := 1) sc_law.nd rfl (.inl rfl) pe_dnewT)
      (pss_cons (ps_for PassesOwn.never rfl (pi_range1 rfl z_range (pa_cons pe_int pa_nil)) (pg_name (i := 2) sc_law.nd rfl (Or.inl rfl)) (pss_cons (ps_set (i := 3) sc_law.nd rfl (.inl rfl) (pe_call F_law_begun (hr.mono (by decide)) (by rfl) h_law_begun.gl h_law_begun.fn.kp h_law_begun.bd .nil pass0 (pa_cons (pv 0) (pa_cons (pv 2) pa_nil))))
      (pss_cons (ps_par (i := 4) (j := 5) (by rfl) sc_law.nd rfl rfl (by decide) rfl rfl (pa_cons (pe_call F_law_size (hr.mono (by decide)) (by rfl) h_law_size.gl h_law_size.fn.kp h_law_size.bd .nil pass0 (pa_cons (pv 3) pa_nil)) (pa_cons (pe_call F_law_size (hr.mono (by decide)) (by rfl) h_law_size.gl h_law_size.fn.kp h_law_size.bd .nil pass0 (pa_cons (pv 3) pa_nil)) pa_nil)) (by rfl))
      (pss_cons (ps_if (pt_cmpR op_eq (pe_call F_law_draw (hr.mono (by decide)) (by rfl) h_law_draw.gl h_law_draw.fn.kp h_law_draw.bd .nil pass0 (pa_cons (pv 3) (pa_cons pe_int pa_nil))) pe_int (nomark _)) (pss_one (ps_set (i := 5) sc_law.nd rfl (.inl rfl) (pv 4))) pss_nil)
      (pss_cons (ps_set (i := 6) sc_law.nd rfl (.inl rfl) (pe_call F_law_count (hr.mono (by decide)) (by rfl) h_law_count.gl h_law_count.fn.kp h_law_count.bd .nil pass0 (pa_cons (pv 1) (pa_cons (pv 4) (pa_cons (pv 5) pa_nil)))))
      (pss_cons (ps_if (pt_not (pt_val (pe_callG F_law_like ng (hr.mono (by decide)) (by rfl) h_law_like.gl h_law_like.fn.kp h_law_like.bd .nil pass0 (pa_cons (pe_lst (pa_cons (pe_call F_three_count (hr.mono (by decide)) (by rfl) h_three_count.gl h_three_count.fn.kp h_three_count.bd .nil pass0 (pa_cons (pv 4) (pa_cons (pv 5) pa_nil))) (pa_cons (pe_callK F_three_count (hr.mono (by decide)) (by rfl) h_three_count.gl h_three_count.fn.kp kb_three_count_n pass0 (pa_cons (pv 5) pa_nil) (pk_cons (pv 4) pk_nil)) pa_nil))) (pa_cons (pe_lst (pa_cons (pv 6) (pa_cons (pv 6) pa_nil))) pa_nil))))) (pss_one (ps_ret pe_bl)) pss_nil)
      (pss_one (ps_if (PW.pt (pw_or (pt_cmpR op_gt (pv 6) (pe_call F_law_bound (hr.mono (by decide)) (by rfl) h_law_bound.gl h_law_bound.fn.kp h_law_bound.bd .nil pass0 (pa_cons (pv 4) (pa_cons (pv 5) pa_nil))) (nomark _)) (pw_or1 (pt_not (pt_val (pe_callG F_law_row_right ng (hr.mono (by decide)) (by rfl) h_law_row_right.gl h_law_row_right.fn.kp h_law_row_right.bd .nil pass0 (pa_cons (pv 1) (pa_cons (pe_call F_law_draw (hr.mono (by decide)) (by rfl) h_law_draw.gl h_law_draw.fn.kp h_law_draw.bd .nil pass0 (pa_cons (pv 3) (pa_cons pe_int pa_nil))) (pa_cons (pv 5) pa_nil))))))))) (pss_one (ps_ret pe_bl)) pss_nil))))))))
      (pss_cons (ps_asg (pe_tup (pa_cons pe_int (pa_cons pe_int pa_nil))) (pg_tup rfl (pgs_cons (pg_name (i := 7) sc_law.nd rfl (Or.inl rfl)) (pgs_cons (pg_name (i := 8) sc_law.nd rfl (Or.inl rfl)) pgs_nil))))
      (pss_cons (ps_for PassesOwn.never rfl (pi_range1 rfl z_range (pa_cons pe_int pa_nil)) (pg_name (i := 9) sc_law.nd rfl (Or.inl rfl)) (pss_cons (ps_if (pt_not (pt_val (pe_callG F_law_like ng (hr.mono (by decide)) (by rfl) h_law_like.gl h_law_like.fn.kp h_law_like.bd .nil pass0 (pa_cons (pe_call F_three_count (hr.mono (by decide)) (by rfl) h_three_count.gl h_three_count.fn.kp h_three_count.bd .nil pass0 (pa_cons (pv 7) (pa_cons (pv 7) pa_nil))) (pa_cons (pv 8) pa_nil))))) (pss_one (ps_ret pe_bl)) pss_nil)
      (pss_one (ps_par (i := 7) (j := 8) (by rfl) sc_law.nd rfl rfl (by decide) rfl rfl (pa_cons (pe_op op_mulB pe_int (pv 7)) (pa_cons (pe_op op_mulB pe_int (pv 8)) pa_nil)) (by rfl)))))
      (pss_cons (ps_set (i := 10) sc_law.nd rfl (.inl rfl) (pe_lst (pa_cons (pe_call F_three_count (hr.mono (by decide)) (by rfl) h_three_count.gl h_three_count.fn.kp h_three_count.bd .nil pass0 (pa_cons pe_int (pa_cons pe_int pa_nil))) (pa_cons (pe_call F_three_count (hr.mono (by decide)) (by rfl) h_three_count.gl h_three_count.fn.kp h_three_count.bd .nil pass0 (pa_cons pe_int (pa_cons pe_int pa_nil))) (pa_cons (pe_call F_three_count (hr.mono (by decide)) (by rfl) h_three_count.gl h_three_count.fn.kp h_three_count.bd .nil pass0 (pa_cons pe_int (pa_cons pe_int pa_nil))) (pa_cons (pe_call F_three_count (hr.mono (by decide)) (by rfl) h_three_count.gl h_three_count.fn.kp h_three_count.bd .nil pass0 (pa_cons pe_int (pa_cons pe_int pa_nil))) (pa_cons (pe_call F_three_count (hr.mono (by decide)) (by rfl) h_three_count.gl h_three_count.fn.kp h_three_count.bd .nil pass0 (pa_cons pe_int (pa_cons pe_int pa_nil))) pa_nil)))))))
      (pss_one (ps_ret (pe_callG F_law_like ng (hr.mono (by decide)) (by rfl) h_law_like.gl h_law_like.fn.kp h_law_like.bd .nil pass0 (pa_cons (pv 10) (pa_cons (pe_lst (pa_cons (pe_call F_law_count (hr.mono (by decide)) (by rfl) h_law_count.gl h_law_count.fn.kp h_law_count.bd .nil pass0 (pa_cons (pv 1) (pa_cons pe_int (pa_cons pe_int pa_nil)))) (pa_cons pe_int (pa_cons pe_int (pa_cons pe_int (pa_cons pe_int pa_nil)))))) pa_nil)))))))))), ?_⟩
    have e12 : (2 : Nat) ^ 12 = 4096 := rfl
    have e13 : (2 : Nat) ^ (12 + 1) = 8192 := rfl
    walk_at "rd"
    rename_i d H0 smd nd atd
    have me0 : Memo d 0 H0 := ⟨[], atd, Nat.le_refl _, fun m n v hv => by simp [valV] at hv⟩
    have hS0 := smd.seq hS
    refine fl_range (fun i σ H1 => ∃ (y2 y3 y4 y5 y6 y7 y8 y9 y10 : Option V), σ = [some (.ref a), some (.ref d), y2, y3, y4, y5, y6, y7, y8, y9, y10] ∧ SqL K H1 a (ns.map V.int) ∧ Memo d (i * 400000) H1)
      ⟨none, none, none, none, none, none, none, none, none, rfl, hS0, me0.mono (by omega)⟩ (fun i σ H1 hi hp => ?_) (fun σ H1 hp => ?_)
    · obtain ⟨y2, y3, y4, y5, y6, y7, y8, y9, y10, rfl, hS1, me1⟩ := hp
      have i4 : i < 4 := hi
      walk_at "rd"
      refine ⟨a, 0 + (i : Int), ns, rfl, hS1, hl, hbits, by omega, by omega, fun p H2 np sm2 dr2 => ?_⟩
      obtain ⟨kv2, at2⟩ := dr2.at_
      have me2 := me1.same sm2
      have hS2 := sm2.seq hS1
      walk_at "rd"
      refine ⟨p, 0, rfl, dr2, by decide, fun x H3 hx k3 dr3 => ?_⟩
      have me3 := me2.kp at2 k3
      have hS3 := SqL.kp at2 k3 hS2
      obtain ⟨kv3, at3⟩ := dr3.at_
      walk_at "rd"
      refine ⟨p, 3, rfl, dr3, by decide, fun y H4 hy k4 dr4 => ?_⟩
      have me4 := me3.kp at3 k4
      have hS4 := SqL.kp at3 k4 hS3
      obtain ⟨kv4, at4⟩ := dr4.at_
      walk_at "rd"
      refine ⟨p, 5, 6, rfl, dr4, by decide, by decide, (Bt.small (by decide) (by decide)).mono (by decide), fun v H5 v0 v1 k5 dr5 => ?_⟩
      have me5 := me4.kp at4 k5
      have hS5 := SqL.kp at4 k5 hS4
      obtain ⟨kv5, at5⟩ := dr5.at_
      clear me4 me3 me2 me1 hS4 hS3 hS2 hS1 at2 at3 at4 dr2 dr3 dr4
      walk_at "rd"
      have ge13 : 8191 ≤ 2 ^ (12 + 1) - 1 := by rw [e13]; omega
      walk_at "two"
      all_goals
        walk_at "rd"
        refine ⟨d, _, _, i * 400000, rfl, me5, by omega, by omega, by omega, fun H6 k6 me6 => ?_⟩
        obtain ⟨kvd, atd, _, _⟩ := id me5
        have hS6 := SqL.kt atd k6 hS5
        have dr6 := dr5.kt atd k6
        clear me5 hS5 atd dr5 at5
        have cs := cnt_small (m := x) (n := x) (by omega) (by omega)
        have cs2 := cnt_small (m := x) (n := y) (by omega) (by omega)
        walk_at "rd"
        refine ⟨_, _, rfl, by omega, by omega, ?_⟩
        walk_at "rd"
        refine ⟨_, _, rfl, by omega, by omega, ?_⟩
        walk_at "rd"
        refine r_newL (few_le rfl) fun l H7 sm7 nl atl => ?_
        walk_at "rd"
        refine r_newL (few_le rfl) fun l2 H8 sm8 nl2 atl2 => ?_
        have me8 := (me6.same sm7).same sm8
        have hS8 := sm8.seq (sm7.seq hS6)
        have dr8 := (dr6.same sm7).same sm8
        have atl8 := sm8 _ _ atl
        clear me6 hS6 dr6
        walk_at "rd"
        refine ⟨.ref l, .ref l2, _, rfl, .lst (sql_of atl8) (.cons (.int _) (.cons (.int _) .nil)), ?_, ?_, ?_⟩
        · first | rw [cnt_comm y x] | skip
          exact .lst (sql_of atl2) (.cons (.int _) (.cons (.int _) .nil))
        · first | rw [cnt_comm y x] | skip
          exact ((Fine.int (Bt.small (by omega) (by omega)) (by decide)).two (Fine.int (Bt.small (by omega) (by omega)) (by decide))).list.shows (by decide) (by decide)
        walk_at "rd"
        refine ⟨_, _, rfl, by omega, by omega, fun kk H9 hk1 hk2 sm9 => ?_⟩
        have le9 := cnt_le kk _ _ hk1 hk2
        have me9 := me8.same sm9
        have hS9 := sm9.seq hS8
        have dr9 := dr8.same sm9
        clear me8 hS8 dr8 atl atl8 atl2
        walk_at "rd"
        refine r_ite (fun hlt => ?_) (fun hlt => ?_)
        · exact absurd hlt (by omega)
        walk_at "rd"
        refine ⟨p, 3960, 7, rfl, dr9, by decide, by decide, (Bt.small (by decide) (by decide)).mono (by decide), fun z H10 z0 z1 k10 dr10 => ?_⟩
        obtain ⟨kv9, at9⟩ := dr9.at_
        have me10 := me9.kp at9 k10
        have hS10 := SqL.kp at9 k10 hS9
        walk_at "rd"
        refine ⟨d, z.toNat, _, i * 400000 + (2 ^ (12 + 1) - 1), vs3 (by omega) rfl, me10, by omega, by omega, by omega, fun H11 k11 me11 => ?_⟩
        obtain ⟨kvd, atd10, _, _⟩ := me10
        have hS11 := SqL.kt atd10 k11 hS10
        walk_at "rd"
        exact ⟨_, _, _, _, _, _, _, _, _, rfl, hS11, me11.mono (by rw [e13]; omega)⟩
    · obtain ⟨y2, y3, y4, y5, y6, y7, y8, y9, y10, rfl, hS1, me1⟩ := hp
      have me1 : Memo d 1600000 H1 := me1.mono (by decide)
      walk_at "rd"
      rename_i p2 H2 sm2 np2 at2
      have me2 := me1.same sm2
      refine fl_range (fun i σ H3 => ∃ (y2 y3 y4 y5 y6 y9 y10 : Option V), σ = [some (.ref a), some (.ref d), y2, y3, y4, y5, y6, some (.int ((2 ^ i : Nat) : Int)), some (.int ((3 ^ i : Nat) : Int)), y9, y10] ∧ Memo d 1600000 H3)
        ⟨_, _, _, _, _, _, _, rfl, me2⟩ (fun i σ H3 hi hp => ?_) (fun σ H3 hp => ?_)
      · obtain ⟨y2, y3, y4, y5, y6, y9, y10, rfl, me3⟩ := hp
        have i12 : i < 12 := hi
        have p2 : 2 ^ (i + 1) = 2 * 2 ^ i := by rw [Nat.pow_succ]; omega
        have p3 : 3 ^ (i + 1) = 3 * 3 ^ i := by rw [Nat.pow_succ]; omega
        have b2 : 2 ^ i ≤ 2 ^ 12 := Nat.pow_le_pow_right (by decide) (by omega)
        have b3 : 3 ^ i ≤ 3 ^ 12 := Nat.pow_le_pow_right (by decide) (by omega)
        have e3 : (3 : Nat) ^ 12 = 531441 := rfl
        rw [e12] at b2
        rw [e3] at b3
        walk_at "rd"
        refine ⟨2 ^ i, 2 ^ i, rfl, by omega, by omega, ?_⟩
        rw [cnt_pow]
        walk_at "rd"
        refine ⟨_, _, .int ((3 ^ i : Nat) : Int), rfl, .int _, .int _, int_shows (by omega) (by omega), ?_⟩
        walk_at "rd"
        have k2 : ((2 ^ (i + 1) : Nat) : Int) = 2 * ((2 ^ i : Nat) : Int) := by omega
        have k3 : ((3 ^ (i + 1) : Nat) : Int) = 3 * ((3 ^ i : Nat) : Int) := by omega
        refine ⟨y2, y3, y4, y5, y6, some (.int (0 + (i : Int))), y10, ?_, me3⟩
        rw [k2, k3]
        rfl
      · obtain ⟨y2, y3, y4, y5, y6, y9, y10, rfl, me3⟩ := hp
        have c1 : cnt 0 7 = 0 := cnt_zero (.inl rfl)
        have c2 : cnt 7 0 = 0 := cnt_zero (.inr rfl)
        have c3 : cnt 1 2 = 2 := by
          rw [cnt_step (by decide) (by decide)]
          show 2 * cnt 1 1 + cnt 0 1 = 2
          rw [cnt_one, cnt_zero (.inl rfl)]
        have c22 : cnt 2 2 = 3 := cnt_pow 1
        have c4 : cnt 3 3 = 7 := by
          rw [cnt_step (by decide) (by decide)]
          show 2 * cnt 2 2 + cnt 1 1 = 7
          rw [c22, cnt_one]
        have cs := cnt_small (m := 4000) (n := 4000) (by decide) (by decide)
        walk_at "rd"
        refine ⟨4000, 4000, rfl, by rw [e12]; decide, by rw [e12]; decide, ?_⟩
        walk_at "rd"
        refine ⟨0, 7, rfl, by rw [e12]; decide, by rw [e12]; decide, ?_⟩
        walk_at "rd"
        refine ⟨7, 0, rfl, by rw [e12]; decide, by rw [e12]; decide, ?_⟩
        walk_at "rd"
        refine ⟨1, 2, rfl, by rw [e12]; decide, by rw [e12]; decide, ?_⟩
        walk_at "rd"
        refine ⟨3, 3, rfl, by rw [e12]; decide, by rw [e12]; decide, ?_⟩
        rw [c1, c2, c3, c4]
        walk_at "rd"
        refine r_newL (few_le rfl) fun l H4 sm4 nl atl => ?_
        walk_at "rd"
        refine ⟨d, 4000, 4000, 1600000, rfl, me3.same sm4, by rw [e13]; decide, by rw [e12]; decide, by rw [e12]; decide, fun H5 k5 me5 => ?_⟩
        obtain ⟨kvd, atd3, _, _⟩ := me3.same sm4
        have atl5 : H5 l = some (.lst _) := k5 _ _ (ne_of atl atd3 (fun z => by cases z)) atl
        walk_at "rd"
        refine r_newL (few_le rfl) fun l2 H6 sm6 nl2 atl2 => ?_
        have F : ∀ {i : Int}, -(2 ^ 62) < i → i < 2 ^ 62 → Fine 62 0 0 (.int i) := fun h1 h2 => Fine.int (Bt.small h1 h2) (by decide)
        walk_at "rd"
        refine ⟨.ref l, .ref l2, .list [.int (cnt 4000 4000 : Nat), .int 0, .int 0, .int 2, .int 7], rfl, .lst (sql_of (sm6 _ _ atl5)) (.cons (.int _) (.cons (.int _) (.cons (.int _) (.cons (.int _) (.cons (.int _) .nil))))),
          .lst (sql_of atl2) (.cons (.int _) (.cons (.int _) (.cons (.int _) (.cons (.int _) (.cons (.int _) .nil))))),
          ((Fine.int (Bt.small (by omega) (by omega)) (by decide)).cons' ((F (by decide) (by decide)).cons' ((F (by decide) (by decide)).cons' ((F (by decide) (by decide)).cons' ((F (by decide) (by decide)).one))))).list.shows (by decide) (by decide), ?_⟩
        exact q _
end
end L09
namespace L09
open PySem PySem.Spec PyProof.Rows L2 GB
theorem all_mk {l : PySem.W.OpenLaw} {w : World} {K : PySem.W.Frag} {h : Heap} {mg : Str → Option Value} {fa f0 f1 f2 f3 f4 f5 f6 f7 f8 f9 : Addr} (X : K.In h) (G : h.Ns mainGlobals mg) (hfa : mg "law" = some (.ref fa))
    {od0 an0 od1 an1 od2 an2 od3 an3 od4 an4 od5 an5 od6 an6 od7 an7 od8 an8 od9 an9 : Option Addr} {sl0 sl1 sl2 sl3 sl4 sl5 sl6 sl7 sl8 sl9 : Array (Option Value)} {oc0 kV0 dc0 pm0 cd0 ct0 oc1 kV1 dc1 pm1 cd1 ct1 oc2 kV2 dc2 pm2 cd2 ct2 oc3 kV3 dc3 pm3 cd3 ct3 oc4 kV4 dc4 pm4 cd4 ct4 oc5 kV5 dc5 pm5 cd5 ct5 oc6 kV6 dc6 pm6 cd6 ct6 oc7 kV7 dc7 pm7 cd7 ct7 oc8 kV8 dc8 pm8 cd8 ct8 oc9 kV9 dc9 pm9 cd9 ct9 : Value}
    (a0 : PySem.W.nsIn K mainGlobals "three_count" = some (some (.ref f0))) (l0 : K.lookup f0 = some ⟨oc0, od0, .func (PySem.W.fnOf "three_count" "three_count" (defArgs s_three_count) (defBody s_three_count) (defScope s_three_count) .none kV0 dc0 pm0 an0 cd0 ct0), sl0⟩) (c0 : PySem.W.codeIn K cd0 "three_count" = true) (k0 : PySem.W.keepIn K (.ref f0) = true)
    (a1 : PySem.W.nsIn K mainGlobals "_law_begun" = some (some (.ref f1))) (l1 : K.lookup f1 = some ⟨oc1, od1, .func (PySem.W.fnOf "_law_begun" "_law_begun" (defArgs s_law_begun) (defBody s_law_begun) (defScope s_law_begun) .none kV1 dc1 pm1 an1 cd1 ct1), sl1⟩) (c1 : PySem.W.codeIn K cd1 "_law_begun" = true) (k1 : PySem.W.keepIn K (.ref f1) = true)
    (a2 : PySem.W.nsIn K mainGlobals "_law_draw" = some (some (.ref f2))) (l2 : K.lookup f2 = some ⟨oc2, od2, .func (PySem.W.fnOf "_law_draw" "_law_draw" (defArgs s_law_draw) (defBody s_law_draw) (defScope s_law_draw) .none kV2 dc2 pm2 an2 cd2 ct2), sl2⟩) (c2 : PySem.W.codeIn K cd2 "_law_draw" = true) (k2 : PySem.W.keepIn K (.ref f2) = true)
    (a3 : PySem.W.nsIn K mainGlobals "_law_of" = some (some (.ref f3))) (l3 : K.lookup f3 = some ⟨oc3, od3, .func (PySem.W.fnOf "_law_of" "_law_of" (defArgs s_law_of) (defBody s_law_of) (defScope s_law_of) .none kV3 dc3 pm3 an3 cd3 ct3), sl3⟩) (c3 : PySem.W.codeIn K cd3 "_law_of" = true) (k3 : PySem.W.keepIn K (.ref f3) = true)
    (a4 : PySem.W.nsIn K mainGlobals "_law_like" = some (some (.ref f4))) (l4 : K.lookup f4 = some ⟨oc4, od4, .func (PySem.W.fnOf "_law_like" "_law_like" (defArgs s_law_like) (defBody s_law_like) (defScope s_law_like) .none kV4 dc4 pm4 an4 cd4 ct4), sl4⟩) (c4 : PySem.W.codeIn K cd4 "_law_like" = true) (k4 : PySem.W.keepIn K (.ref f4) = true)
    (a5 : PySem.W.nsIn K mainGlobals "_law_count" = some (some (.ref f5))) (l5 : K.lookup f5 = some ⟨oc5, od5, .func (PySem.W.fnOf "_law_count" "_law_count" (defArgs s_law_count) (defBody s_law_count) (defScope s_law_count) .none kV5 dc5 pm5 an5 cd5 ct5), sl5⟩) (c5 : PySem.W.codeIn K cd5 "_law_count" = true) (k5 : PySem.W.keepIn K (.ref f5) = true)
    (a6 : PySem.W.nsIn K mainGlobals "_law_bound" = some (some (.ref f6))) (l6 : K.lookup f6 = some ⟨oc6, od6, .func (PySem.W.fnOf "_law_bound" "_law_bound" (defArgs s_law_bound) (defBody s_law_bound) (defScope s_law_bound) .none kV6 dc6 pm6 an6 cd6 ct6), sl6⟩) (c6 : PySem.W.codeIn K cd6 "_law_bound" = true) (k6 : PySem.W.keepIn K (.ref f6) = true)
    (a7 : PySem.W.nsIn K mainGlobals "_law_size" = some (some (.ref f7))) (l7 : K.lookup f7 = some ⟨oc7, od7, .func (PySem.W.fnOf "_law_size" "_law_size" (defArgs s_law_size) (defBody s_law_size) (defScope s_law_size) .none kV7 dc7 pm7 an7 cd7 ct7), sl7⟩) (c7 : PySem.W.codeIn K cd7 "_law_size" = true) (k7 : PySem.W.keepIn K (.ref f7) = true)
    (a8 : PySem.W.nsIn K mainGlobals "_law_row_right" = some (some (.ref f8))) (l8 : K.lookup f8 = some ⟨oc8, od8, .func (PySem.W.fnOf "_law_row_right" "_law_row_right" (defArgs s_law_row_right) (defBody s_law_row_right) (defScope s_law_row_right) .none kV8 dc8 pm8 an8 cd8 ct8), sl8⟩) (c8 : PySem.W.codeIn K cd8 "_law_row_right" = true) (k8 : PySem.W.keepIn K (.ref f8) = true)
    (a9 : PySem.W.nsIn K mainGlobals "law" = some (some (.ref f9))) (l9 : K.lookup f9 = some ⟨oc9, od9, .func (PySem.W.fnOf "law" "law" (defArgs s_law) (defBody s_law) (defScope s_law) .none kV9 dc9 pm9 an9 cd9 ct9), sl9⟩) (c9 : PySem.W.codeIn K cd9 "law" = true) (k9 : PySem.W.keepIn K (.ref f9) = true)
    (y_min : PySem.W.nsIn K mainGlobals "min" = some none) (y_max : PySem.W.nsIn K mainGlobals "max" = some none) (y_int : PySem.W.nsIn K mainGlobals "int" = some none) (y_len : PySem.W.nsIn K mainGlobals "len" = some none) (y_repr : PySem.W.nsIn K mainGlobals "repr" = some none) (y_range : PySem.W.nsIn K mainGlobals "range" = some none) :
    ∃ fd : FuncData, (∀ (s : Shared) (v : Value), BindsTo s fd ⟨[v], []⟩ [("script", v)]) ∧ ∀ base : Heap, K.In base → base.Ns mainGlobals mg → GOk l.prog w K mg base CX0 15 fa fd ["script"] (spLaw K) := by
  have e := hfa.symm.trans (PySem.W.mg_of X G a9)
  cases e
  have F0 := fun_mk (st := s_three_count) l0 c0 k0
  have h_three_count : Has K mg "three_count" s_three_count ["m", "n"] f0 _ := ⟨F0, PySem.W.mg_of X G a0, F0.binds fun _ _ _ _ _ _ us hl => match us, hl with | [_, _], _ => rfl⟩
  have F1 := fun_mk (st := s_law_begun) l1 c1 k1
  have h_law_begun : Has K mg "_law_begun" s_law_begun ["script", "k_so"] f1 _ := ⟨F1, PySem.W.mg_of X G a1, F1.binds fun _ _ _ _ _ _ us hl => match us, hl with | [_, _], _ => rfl⟩
  have F2 := fun_mk (st := s_law_draw) l2 c2 k2
  have h_law_draw : Has K mg "_law_draw" s_law_draw ["m", "bound"] f2 _ := ⟨F2, PySem.W.mg_of X G a2, F2.binds fun _ _ _ _ _ _ us hl => match us, hl with | [_, _], _ => rfl⟩
  have F3 := fun_mk (st := s_law_of) l3 c3 k3
  have h_law_of : Has K mg "_law_of" s_law_of ["m", "some"] f3 _ := ⟨F3, PySem.W.mg_of X G a3, F3.binds fun _ _ _ _ _ _ us hl => match us, hl with | [_, _], _ => rfl⟩
  have F4 := fun_mk (st := s_law_like) l4 c4 k4
  have h_law_like : Has K mg "_law_like" s_law_like ["got", "due"] f4 _ := ⟨F4, PySem.W.mg_of X G a4, F4.binds fun _ _ _ _ _ _ us hl => match us, hl with | [_, _], _ => rfl⟩
  have F5 := fun_mk (st := s_law_count) l5 c5 k5
  have h_law_count : Has K mg "_law_count" s_law_count ["known", "near", "far"] f5 _ := ⟨F5, PySem.W.mg_of X G a5, F5.binds fun _ _ _ _ _ _ us hl => match us, hl with | [_, _, _], _ => rfl⟩
  have F6 := fun_mk (st := s_law_bound) l6 c6 k6
  have h_law_bound : Has K mg "_law_bound" s_law_bound ["near", "far"] f6 _ := ⟨F6, PySem.W.mg_of X G a6, F6.binds fun _ _ _ _ _ _ us hl => match us, hl with | [_, _], _ => rfl⟩
  have F7 := fun_mk (st := s_law_size) l7 c7 k7
  have h_law_size : Has K mg "_law_size" s_law_size ["m"] f7 _ := ⟨F7, PySem.W.mg_of X G a7, F7.binds fun _ _ _ _ _ _ us hl => match us, hl with | [_], _ => rfl⟩
  have F8 := fun_mk (st := s_law_row_right) l8 c8 k8
  have h_law_row_right : Has K mg "_law_row_right" s_law_row_right ["known", "first", "second"] f8 _ := ⟨F8, PySem.W.mg_of X G a8, F8.binds fun _ _ _ _ _ _ us hl => match us, hl with | [_, _, _], _ => rfl⟩
  have F9 := fun_mk (st := s_law) l9 c9 k9
  have h_law : Has K mg "law" s_law ["script"] fa _ := ⟨F9, PySem.W.mg_of X G a9, F9.binds fun _ _ _ _ _ _ us hl => match us, hl with | [_], _ => rfl⟩
  have z_min := PySem.W.mg_none_of X G y_min
  have z_max := PySem.W.mg_none_of X G y_max
  have z_int := PySem.W.mg_none_of X G y_int
  have z_len := PySem.W.mg_none_of X G y_len
  have z_repr := PySem.W.mg_none_of X G y_repr
  have z_range := PySem.W.mg_none_of X G y_range
  refine ⟨PySem.W.fnOf "law" "law" (defArgs s_law) (defBody s_law) (defScope s_law) .none kV9 dc9 pm9 an9 cd9 ct9, fun s v => .of_eq rfl, fun base _ _ => ?_⟩
  have t12 := ok_three (P := l.prog) (w := w) (base := base) h_three_count z_max z_min 12 (by decide)
  have c12 := ok_count (P := l.prog) (w := w) (base := base) h_law_count z_max z_min 12 (by decide)
  have lk := ok_like (P := l.prog) (w := w) (base := base) h_law_like z_repr
  have dw := ok_draw (P := l.prog) (w := w) (base := base) h_law_draw z_int z_len
  have of_ := ok_of (P := l.prog) (w := w) (base := base) h_law_of h_law_draw dw z_len
  have sz := ok_size (P := l.prog) (w := w) (base := base) h_law_size h_law_draw dw h_law_of of_
  have bd := ok_bound (P := l.prog) (w := w) (base := base) h_law_bound z_range z_max
  have bg := ok_begun (P := l.prog) (w := w) (base := base) h_law_begun z_int
  have rw_ := ok_row (P := l.prog) (w := w) (base := base) h_law_row_right z_range h_three_count t12 h_law_count c12 h_law_like lk
  exact ok_law h_law z_range h_three_count t12 h_law_count c12 h_law_like lk h_law_row_right rw_ h_law_begun bg h_law_size sz h_law_draw dw h_law_bound bd
end L09
open PySem PySem.W PyProof.Rows
set_option maxHeartbeats 0 in
theorem PySem.Challenge.cw_numberpapers_k09_whole_counts_of_three_holds : PySem.Challenge.rw_numberpapers_k09_whole_counts_of_three.Holds := by
  w_on; o_law; k_head; (case hw => w_witness2)
  k_fill
  refine GB.walk_ofG (l := PySem.Challenge.rw_numberpapers_k09_whole_counts_of_three) (n := 63) (lev := 15) (par := "script") (say := L09.spLaw) rfl (by decide) rfl ⟨rfl, by decide, by decide⟩ (fun w h Y => PySem.W.kIn_of Y) ?F (fun K T a ns hl hb _ seq => ⟨a, ns, rfl, seq, hl, fun x hx => GB.Bt.of_bits (hb x hx), fun _ => rfl⟩)
  case F =>
    intro w mg fa h KX G hmg
    refine' L09.all_mk KX G hmg ?a0 ?l0 ?c0 ?k0 ?a1 ?l1 ?c1 ?k1 ?a2 ?l2 ?c2 ?k2 ?a3 ?l3 ?c3 ?k3 ?a4 ?l4 ?c4 ?k4 ?a5 ?l5 ?c5 ?k5 ?a6 ?l6 ?c6 ?k6 ?a7 ?l7 ?c7 ?k7 ?a8 ?l8 ?c8 ?k8 ?a9 ?l9 ?c9 ?k9 ?y_min ?y_max ?y_int ?y_len ?y_repr ?y_range
    (case a0 => k_is)
    (case l0 => k_is)
    (case c0 => k_is)
    (case k0 => k_is)
    (case a1 => k_is)
    (case l1 => k_is)
    (case c1 => k_is)
    (case k1 => k_is)
    (case a2 => k_is)
    (case l2 => k_is)
    (case c2 => k_is)
    (case k2 => k_is)
    (case a3 => k_is)
    (case l3 => k_is)
    (case c3 => k_is)
    (case k3 => k_is)
    (case a4 => k_is)
    (case l4 => k_is)
    (case c4 => k_is)
    (case k4 => k_is)
    (case a5 => k_is)
    (case l5 => k_is)
    (case c5 => k_is)
    (case k5 => k_is)
    (case a6 => k_is)
    (case l6 => k_is)
    (case c6 => k_is)
    (case k6 => k_is)
    (case a7 => k_is)
    (case l7 => k_is)
    (case c7 => k_is)
    (case k7 => k_is)
    (case a8 => k_is)
    (case l8 => k_is)
    (case c8 => k_is)
    (case k8 => k_is)
    (case a9 => k_is)
    (case l9 => k_is)
    (case c9 => k_is)
    (case k9 => k_is)
    (case y_min => k_is)
    (case y_max => k_is)
    (case y_int => k_is)
    (case y_len => k_is)
    (case y_repr => k_is)
    (case y_range => k_is)
