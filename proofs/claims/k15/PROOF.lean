import PyProof.Rows.All
import Wide.All
import OpenK.AllK
import Wide.FinOn
import HandS.ForMost
import PyProof.ReprRoads
import PyProof.ReprBulk
import HandS.EndBits
import HandS.Wide
import HandS.Style
import HandS.TupAny
import HandS.Evl
import PySem.Challenge.RW_numberpapers_k15_whole_chains
set_option Elab.async false
set_option linter.all false
set_option maxRecDepth 100000
set_option maxHeartbeats 4000000
/-! promises of defs that are called with no text of an object under way, and what shows data as texts -/
namespace GB
open PySem PySem.Spec PyProof.Rows L2

/-- as FnOk, where no text of an object is under way -/
structure GOk (pr : Program) (wd : World) (fr : PySem.W.Frag) (mod : Str → Option Value) (bh : Heap) (cx : CXT) (lev : Nat) (at_ : Addr) (fun_ : FuncData) (pars : List Str) (say : Sp) : Prop where
  arity : ∀ us T Q E, say us T Q E → us.length = pars.length
  go : ∀ (B : Around) (callers : List Env) (st : Shared) (T : Hp) (given : Args) (ws : List Value) (us : List V) (Q : VK) (E : XK), B.guards = some [] → Room lev B →
    Env0 pr wd fr mod bh B callers st T → BindsTo st fun_ given (pars.zip ws) → Vals us ws → say us T Q E →
    codeAny (model pr wd) B (.call (.ref at_) given) (CR cx callers pr wd T st Q E) st

section
variable {pr : Program} {wd : World} {fr : PySem.W.Frag} {mod : Str → Option Value} {bh : Heap} {cx : CXT} {lev : Nat} {at_ : Addr} {fun_ : FuncData} {pars : List Str} {say : Sp}
theorem GOk.of (z : FnOk pr wd fr mod bh cx lev at_ fun_ pars say) : GOk pr wd fr mod bh cx lev at_ fun_ pars say :=
  ⟨z.len, fun B cs st T g ws us Q E _ room env bs vs hs => z.run B cs st T g ws us Q E room env bs vs hs⟩
theorem GOk.mono {lev' : Nat} (z : GOk pr wd fr mod bh cx lev at_ fun_ pars say) (le : lev ≤ lev') : GOk pr wd fr mod bh cx lev' at_ fun_ pars say :=
  ⟨z.arity, fun B cs st T g ws us Q E hg room => z.go B cs st T g ws us Q E hg (room.mono le)⟩
end

/-- a def by its body, where no text is under way -/
theorem fun_okG {pr : Program} {wd : World} {fr : PySem.W.Frag} {mod : Str → Option Value} {bh : Heap} {nm qn : Str} {st : Stmt} {at_ : Addr} {fun_ : FuncData} {names pars : List Str} {lev : Nat} {say : Sp}
    (Z : Fun fr nm qn st at_ fun_) (S : FnScope names pars (defScope st)) (arity : ∀ us T Q E, say us T Q E → us.length = pars.length)
    (body : ∀ (cv : Value) (B : Around) (callers : List Env) (s : Shared) (T : Hp) (us : List V) (Q : VK) (E : XK), (B.deeper (envOfC qn (defScope st) s.heap.objs.size at_ cv)).guards = some [] →
      Room lev (B.deeper (envOfC qn (defScope st) s.heap.objs.size at_ cv)) → say us T Q E →
      ∃ t, PSs (cxOf CX0 pr wd fr mod bh names qn (defScope st) at_ cv B callers s T E).nox (defBody st) t ∧ t { nx := fun _ T' => Q .non T', rt := Q } (start names us) T) :
    GOk pr wd fr mod bh CX0 (lev + 1) at_ fun_ pars say := by
  obtain ⟨oc, od, kV, doc, pm, an, cv, ct, osl, rfl, found, hcode⟩ := Z.ex
  refine ⟨arity, fun B callers s T given ws us Q E noguard room env bnd vals hsay => ?_⟩
  have many := arity _ _ _ _ hsay
  have below : ∀ {b : Addr} {o : Obj}, bh.get? b = some o → s.heap.get? b = some o := fun q => (env.bs _ _ q).1
  have frIn : fr.In s.heap := env.mod.kin.keeps fun _ _ q => below q
  have nolim : s.heap.NoLimit := env.mod.nolimit.keeps fun _ _ q => below q
  have kinds : ∀ y ∈ pars.zip ws, (defScope st).names.lookup y.1 = some .local ∨ ((defScope st).names.lookup y.1 = some .cell ∧ ((cellsFrom (s.heap.objs.size + 1) (defScope st).names []).lookup y.1).isSome = true) := by
    intro y hy
    obtain ⟨n, v⟩ := y
    have hn : n ∈ pars := (List.of_mem_zip hy).1
    exact (S.par n hn).elim Or.inl fun q => Or.inr ⟨q, PySem.W.cellsFrom_some _ _ _ (.inl q)⟩
  have entry := codeAny_call_function (prog := pr) (w := wd) (A := B) (args := given) (R := CR CX0 callers pr wd T s Q E) (s := s) room.depth (frIn _ _ found) rfl S.co S.gen rfl (PySem.W.codeRec_of frIn hcode)
  refine entry (bnd _ _ _ _ ?_)
  refine wpAny_newFunctionEnv_cells S.kind kinds fun env' henv s1 hs1 => ?_
  subst henv
  refine ⟨nolim.keeps hs1.toInCall.keep, codeAny_func ?_⟩
  obtain ⟨t, hder, hread⟩ := body cv B callers s T us Q E (by exact noguard) (room.deeper _) hsay
  have inv0 := inv_start (CX := CX0) (P := pr) (w := wd) (mg := mod) (E := E) (cd := cv) S room.hd env many vals hs1
  have finish : ∀ {σ' : L2.St} {T' : Hp} {v : V} {u : Value} {s' : Shared}, Inv (cxOf CX0 pr wd fr mod bh names qn (defScope st) at_ cv B callers s T E) [] σ' T' s' → RelV v u → Q v T' → CE callers pr wd T s Q u s' :=
    fun J rv q => ⟨_, _, J.os, J.bare, J.base, J.hok, rv, q⟩
  have ran := hder.nox.run [] s1 (start names us) T _ inv0 hread
  refine wpAny_mono ran (fun fl s' got => ?_) fun _ _ got => got
  match fl, got with
  | .ret u, ⟨_, _, _, J, rv, q⟩ => exact finish J rv q
  | .next, ⟨_, _, J, q⟩ => exact finish (v := V.non) (u := Value.none) J rfl q
  | .brk, ⟨_, _, _, q⟩ => exact q.elim
  | .cont, ⟨_, _, _, q⟩ => exact q.elim

section
variable {X : Cx} {cx : CXT} {lev : Nat} {at_ : Addr} {fun_ : FuncData} {pars : List Str} {say : Sp} {more : List V} {dfl : List Value} {E : XK} {x : Str} {p pos : Pos} {e : Expr} {es : List Expr} {t : TA}
theorem run_G {pins : List (Addr × Obj)} {σ : L2.St} {T : Hp} {s : Shared} {Q : VK} {ws : List Value} {us : List V} (Z : GOk X.prog X.w X.K X.mg X.base cx lev at_ fun_ pars say) (noguard : X.A.guards = some []) (room : Room lev X.A)
    (bnd : Binds X.K fun_ pars dfl) (dv : Vals more dfl) (pass : Passes cx X E) (J : Inv X pins σ T s) (vs : Vals us ws) (hs : say (us ++ more) T Q E) : wpAny (model X.prog X.w) X.A (call (.ref at_) ws) (EP X pins σ Q) X.xe s := by
  have both : Vals (us ++ more) (ws ++ dfl) := vs.append dv
  have many : (ws ++ dfl).length = pars.length := both.length.symm.trans (Z.arity _ _ _ _ hs)
  have ran := Z.go X.A X.stack s T ⟨ws, []⟩ (ws ++ dfl) (us ++ more) Q E noguard room J.env0 (bnd s ws J.kIn many) both hs
  refine wpAny_call (codeAny_mono ran fun r s' got => ?_)
  match r, got with
  | .error er, got => exact pass pins σ T s er s' J got
  | .ok (.ret u), got => exact J.after got
  | .ok .next, got => exact got.elim
  | .ok .brk, got => exact got.elim
  | .ok .cont, got => exact got.elim
/-- f(e, ..) of a def that shows texts -/
theorem pe_callG (Z : GOk X.prog X.w X.K X.mg X.base cx lev at_ fun_ pars say) (noguard : X.A.guards = some []) (room : Room lev X.A) (hg : Gl X x) (hm : X.mg x = some (.ref at_)) (hk : PySem.W.keepIn X.K (.ref at_) = true)
    (bnd : Binds X.K fun_ pars dfl) (dv : Vals more dfl) (pass : Passes cx X E) (ha : PA X (e :: es) t) (nodb : (x == ("__debug__" : Str)) = false := by decide)
    (hstar : starEach (e :: es) X.env = (false, eval e X.env) :: starEach es X.env := by rfl) (nostar : (backTo pos (starEach es X.env)).any (·.1) = false := by rfl) :
    PE X (.Call (.Name x p) (e :: es) [] pos) (tCall say more E t) := by
  constructor
  intro pins s σ T Q J got
  refine wpAny_Call_Name_kw (ld_glob J hg hm ?_ nodb)
  have args := ha.run pos pins s σ T _ J got
  refine PySem.W.callWith_K (h₀ := X.base) J.ok.mod.kin hk (thn args fun ws s1 ⟨us, T1, J1, rel, q⟩ => ?_) hstar nostar
  exact ⟨J1.kIn, run_G Z noguard room bnd dv pass J1 rel q⟩
end

/-! ### texts of data -/
theorem repr_leaf {pr : Program} {wd : World} {A : Around} {E : Value → Shared → Prop} {s : Shared} {Q : Value → Shared → Prop} {u : Value} {d : PyData} {as : List Addr} (r : Reads s.heap u d as) (sh : d.showable = true) (nd : d.hasDict = false)
    (hz : d.shown.length ≤ sizeLine) (ng : A.guards = some []) (hu : A.units + (d.depth + 1) < cLine)
    (hQ : ∀ h' t tk, (∀ b o, s.heap.get? b = some o → h'.get? b = some o) → Q (.str d.shown t) { s with heap := h', toks := tk }) : wpAny (model pr wd) A (call (.builtin "repr") [u]) Q E s := by
  cases u with
  | ref a => exact repr_of_reads' r sh (fun z => absurd z (by rw [nd]; decide)) ng hu (fun _ _ q => q) hQ hz
  | none => cases r; exact PySem.P.repr_of_none (hQ s.heap _ _ fun _ _ q => q)
  | bool b => cases r; exact PySem.P.repr_of_bool (hQ s.heap _ _ fun _ _ q => q)
  | int i t =>
    cases r
    refine PySem.P.repr_of_int ?_ (hQ s.heap _ _ fun _ _ q => q)
    simpa [PyData.showable] using sh
  | str x t => cases r; exact PySem.P.repr_of_str (hQ s.heap _ _ fun _ _ q => q) hz
  | _ => cases r

/-- data that repr shows in the model's bounds -/
structure Shows (d : PyData) : Prop where
  able : d.showable = true
  nodict : d.hasDict = false
  size : d.shown.length ≤ sizeLine
  deep : d.depth ≤ 50
theorem call_repr {X : Cx} (ng : X.A.guards = some []) (hu : X.A.units + 64 < cLine) : CallR X (.builtin "repr") (fun xs T Q => ∃ v d, xs = [v] ∧ Dp X.K T v d ∧ Shows d ∧ Q (.str d.shown) T) := by
  intro pins s σ T xs us Q J rel got
  obtain ⟨v, d, rfl, hd, sh, q⟩ := got
  obtain ⟨u, rfl, rv⟩ := vals1 rel
  obtain ⟨as, reads⟩ := Dp.reads J d v u hd rv
  refine repr_leaf reads sh.able sh.nodict sh.size ng (by have := sh.deep; omega) fun h' t tk keep => ?_
  exact ⟨.str d.shown, T, J.kept keep, ⟨t, rfl⟩, q⟩
end GB
namespace GB
open PySem PySem.Spec PyProof.Rows L2
/-! the law's own call, where no text is under way -/
section
variable {pr : Program} {wd : World} {fr : PySem.W.Frag} {mod bi : Str → Option Value} {lev : Nat} {law sc : Addr} {fun_ : FuncData} {par : Str} {say : Sp} {s : Shared} {vs : List Value} {ns : List Int}
/-- the heap behind the top, its script tracked as locked (or not at all, where the written part has it) -/
theorem enter_law (frIn : fr.In s.heap) (gl : s.heap.Ns mainGlobals mod) (bn : s.heap.Ns builtinsNs bi) (bv : ∀ y : Str, y ≠ "__name__" → bi y = bootBuiltins y) (nolim : s.heap.NoLimit) (gens : s.gens = #[])
    (obj : s.heap.get? sc = some { cls := .type "list", data := .seq vs.toArray }) (room : Room lev callerA)
    (Z : ∀ bh : Heap, fr.In bh → bh.Ns mainGlobals mod → GOk pr wd fr mod bh CX0 lev law fun_ [par] say) (bnd : ∀ (t : Shared) (u : Value), BindsTo t fun_ ⟨[u], []⟩ [(par, u)])
    (T : Hp) (only : Only T) (ok : HOk pr wd T s.heap) (at_ : ∀ b, T b ≠ none → b = sc ∧ fr.lookup sc = none) (hs : say [.ref sc] T (fun v _ => v = .bl true) E0) :
    codeAny (model pr wd) callerA (.call (.ref law) ⟨[.ref sc], []⟩) (fun r t => r = .ok (.ret (.bool true)) ∧ OldK s.heap t.heap ∧ t.os = s.os ∧ AllBare t.gens) s := by
  have some_of : ∀ {b : Addr} {u : HO}, T b = some u → b = sc ∧ fr.lookup sc = none := fun q => at_ _ (fun z => by rw [z] at q; cases q)
  -- a dict is not the script
  have dicts : ∀ {b : Addr} {m : Str → Option Value}, s.heap.Ns b m → (hidT s.heap T).Ns b m := by
    rintro b m ⟨o, es, n, h1, h2, h3⟩
    refine ⟨o, es, n, hidT_get h1 ?_, h2, h3⟩
    cases q : T b with
    | none => rfl
    | some u =>
      obtain ⟨rfl, _⟩ := some_of q
      rw [obj] at h1
      cases h1
      exact nomatch h2
  have frIn' : fr.In (hidT s.heap T) := by
    intro b o q
    refine hidT_get (frIn b o q) ?_
    cases z : T b with
    | none => rfl
    | some u =>
      obtain ⟨rfl, z2⟩ := some_of z
      rw [z2] at q
      cases q
  obtain ⟨ml, l1, l2⟩ := nolim
  have modOk : Mod fr mod (hidT s.heap T) := { kin := frIn', glob := dicts gl, blt := ⟨bi, dicts bn, bv⟩, nolimit := ⟨ml, dicts l1, l2⟩ }
  have env : Env0 pr wd fr mod (hidT s.heap T) callerA [] s T :=
    { frames := rfl, mod := modOk, bs := fun _ _ q => of_hidT q, bsz := Nat.le_of_eq (hidT_size s.heap T), funs := trivial, frf := fun b hb => (List.not_mem_nil hb).elim, hok := ok, bare := AllBare.of_eq gens }
  have ran := (Z _ frIn' (dicts gl)).go callerA [] s T ⟨[.ref sc], []⟩ [.ref sc] [.ref sc] (fun v _ => v = .bl true) E0 rfl room env (bnd s (.ref sc)) (.cons rfl .nil) hs
  refine codeAny_mono ran fun r t got => ?_
  match r, got with
  | .error _, got => exact False.elim got
  | .ok .next, got => exact False.elim got
  | .ok .brk, got => exact False.elim got
  | .ok .cont, got => exact False.elim got
  | .ok (.ret u), ⟨v, T', os, bare, un, ok', rel, val⟩ =>
    have ev : v = .bl true := val
    subst ev
    have eu : u = Value.bool true := rel
    subst eu
    refine ⟨rfl, OldK.of_keep fun b o q => ?_, os, bare⟩
    rcases only b with z | ⟨ob, xs, z⟩
    · exact un.keep b o q z (fun y => (List.not_mem_nil y).elim) (fun y => (List.not_mem_nil y).elim)
    · have e1 : s.heap.get? b = some ob := (ok b _ z).1
      have e2 : t.heap.get? b = some ob := (ok' b _ (un.frzs b ob _ z)).1
      rw [q] at e1
      rw [e2, ← e1]
theorem law_callG (frIn : fr.In s.heap) (gl : s.heap.Ns mainGlobals mod) (bn : s.heap.Ns builtinsNs bi) (bv : ∀ y : Str, y ≠ "__name__" → bi y = bootBuiltins y) (nolim : s.heap.NoLimit) (gens : s.gens = #[])
    (obj : s.heap.get? sc = some { cls := .type "list", data := .seq vs.toArray }) (hints : IntsAre vs ns) (few : ns.length ≤ sizeLine) (room : Room lev callerA)
    (Z : ∀ bh : Heap, fr.In bh → bh.Ns mainGlobals mod → GOk pr wd fr mod bh CX0 lev law fun_ [par] say) (bnd : ∀ (t : Shared) (u : Value), BindsTo t fun_ ⟨[u], []⟩ [(par, u)])
    (hs : ∀ T : Hp, Only T → SqL fr T sc (ns.map V.int) → say [.ref sc] T (fun v _ => v = .bl true) E0) :
    codeAny (model pr wd) callerA (.call (.ref law) ⟨[.ref sc], []⟩) (fun r t => r = .ok (.ret (.bool true)) ∧ OldK s.heap t.heap ∧ t.os = s.os ∧ AllBare t.gens) s := by
  have vals := vals_ints hints
  cases known : fr.lookup sc with
  | some o =>
    have e := frIn sc o known
    rw [obj] at e
    cases e
    have none_ : ∀ b : Addr, (fun _ => none : Hp) b = none := fun _ => rfl
    refine enter_law frIn gl bn bv nolim gens obj room Z bnd (fun _ => none) (fun b => .inl rfl) (fun b u q => nomatch q) (fun b q => absurd rfl q) (hs _ (fun b => .inl rfl) (.inr ⟨_, vs.toArray, _, known, rfl, rfl, rfl, ?_, ?_⟩))
    · rw [List.size_toArray, hints.length]; exact few
    · simpa using vals
  | none =>
    have here : ∀ b, (fun b => if b = sc then some (HO.frz { cls := .type "list", data := .seq vs.toArray } (.lst (ns.map V.int))) else none : Hp) b = if b = sc then some (HO.frz { cls := .type "list", data := .seq vs.toArray } (.lst (ns.map V.int))) else none := fun _ => rfl
    have only : Only (fun b => if b = sc then some (HO.frz { cls := .type "list", data := .seq vs.toArray } (.lst (ns.map V.int))) else none) := fun b => by
      by_cases e : b = sc
      · exact .inr ⟨_, _, if_pos e⟩
      · exact .inl (if_neg e)
    refine enter_law frIn gl bn bv nolim gens obj room Z bnd _ only (fun b u q => ?_) (fun b q => ?_) (hs _ only (.inl (.inr ⟨_, if_pos rfl⟩)))
    · by_cases e : b = sc
      · subst e
        have q' := (if_pos rfl).symm.trans q
        cases q'
        exact ⟨obj, by rw [List.length_map]; exact few, vs, _, vals, obj⟩
      · exact nomatch (if_neg e).symm.trans q
    · by_cases e : b = sc
      · exact ⟨e, known⟩
      · exact absurd (if_neg e) q
end
/-- the end of a law's proof, as walk_ofK, over a def that shows texts -/
theorem walk_ofG {l : PySem.W.OpenLaw} {n lev : Nat} {q : Program} {loose : List Str} {XP : (Str → Option Value) → Heap → Prop} {YP : World → Heap → Prop} {d : DefRec} {fr : Params → PySem.W.Frag} {say : PySem.W.Frag → Sp} {par : Str}
    (hmost : l.most = some n) (hsmall : n ≤ sizeLine) (hnodef : d.params.defaults = []) (room : Room lev callerA) (hin : ∀ (wd : World) (h : Heap), YP wd h → (fr wd.params).In h)
    (Z : ∀ (wd : World) (mod : Str → Option Value) (fa : Addr) (h : Heap), (fr wd.params).In h → h.Ns mainGlobals mod → mod d.name = some (.ref fa) →
      ∃ fun_ : FuncData, (∀ (t : Shared) (u : Value), BindsTo t fun_ ⟨[u], []⟩ [(par, u)]) ∧ ∀ bh : Heap, (fr wd.params).In bh → bh.Ns mainGlobals mod → GOk l.prog wd (fr wd.params) mod bh CX0 lev fa fun_ [par] (say (fr wd.params)))
    (hs : ∀ (K : PySem.W.Frag) (T : Hp) (a : Addr) (ns : List Int), ns.length ≤ n → (∀ z ∈ ns, Builtin.Int.intBits z ≤ 1048576) → Only T → SqL K T a (ns.map V.int) → say K [.ref a] T (fun v _ => v = .bl true) E0) :
    PySem.W.WalkO q loose XP YP l.row.toRowW d [] (fun f vs => PySem.call f vs) := by
  refine Att.attach_callB hmost hnodef ?_
  intro wd s₀ s mod mb fa o pm cd doc a vs ns G Y _ _ _ hmod hobj hints hlen hbits hgens
  have frIn := hin wd _ Y
  obtain ⟨fun_, bnd, body⟩ := Z wd mod fa _ frIn G.T.g hmod
  exact law_callG frIn G.T.g G.T.b G.T.builtins G.T.nolimit hgens hobj hints (Nat.le_trans hlen hsmall) room body bnd fun T only seq => hs _ T a ns hlen hbits only seq
end GB
namespace GB
open PySem PySem.Spec PyProof.Rows L2
/-! readings, a step at a time -/
section
variable {X : Cx} {K : PySem.W.Frag} {σ : L2.St} {H : Hp} {Q : VK} {D : Ends} {t u : TS} {ta tb te tx : TE} {c d : TT} {v w : V} {i j n m : Int} {k : Nat}
theorem r_var (h : σ[k]? = some (some v)) (q : Q v H) : tVar k σ H Q := ⟨v, h, q⟩
theorem r_c (q : Q v H) : tC v σ H Q := q
theorem r_op {r : R2} (q : ta σ H fun x H1 => tb σ H1 fun y H2 => r x y H2 Q) : tOp r ta tb σ H Q := q
theorem r_I0 {g : Int → Int → V} (q : Q (g i j) H) : rI0 g (.int i) (.int j) H Q := ⟨i, j, rfl, rfl, q⟩
theorem r_I {C : Int → Int → Prop} {g : Int → Int → V} (h : C i j) (q : Q (g i j) H) : rI C g (.int i) (.int j) H Q := ⟨i, j, rfl, rfl, h, q⟩
theorem r_un {r : V → Hp → VK → Prop} (q : ta σ H fun x H1 => r x H1 Q) : tUn r ta σ H Q := q
theorem r_U {g : Int → V} (q : Q (g i) H) : rU g (.int i) H Q := ⟨i, rfl, q⟩
theorem r_eqI (q : Q (.bl (decide (i = j))) H) : rEq (.int i) (.int j) H Q := by
  refine ⟨rfl, ?_⟩
  have e : decide ((V.int i) = (V.int j)) = decide (i = j) := decide_eq_decide.mpr ⟨fun z => V.int.inj z, fun z => by rw [z]⟩
  rw [e]; exact q
theorem r_neI (q : Q (.bl (!decide (i = j))) H) : rNe (.int i) (.int j) H Q := by
  refine ⟨rfl, ?_⟩
  have e : decide ((V.int i) = (V.int j)) = decide (i = j) := decide_eq_decide.mpr ⟨fun z => V.int.inj z, fun z => by rw [z]⟩
  rw [e]; exact q
theorem r_eqS {x y : Str} (q : Q (.bl (decide (x = y))) H) : rEq (.str x) (.str y) H Q := by
  refine ⟨rfl, ?_⟩
  have e : decide ((V.str x) = (V.str y)) = decide (x = y) := decide_eq_decide.mpr ⟨fun z => V.str.inj z, fun z => by rw [z]⟩
  rw [e]; exact q
def Bl (x : V) (H : Hp) (Q : Bool → Hp → Prop) : Prop := ∃ k, x = .bl k ∧ Q k H
theorem r_test {Q : Bool → Hp → Prop} (q : te σ H fun x H' => Bl x H' Q) : tTest te σ H Q := q
theorem r_B {Q : Bool → Hp → Prop} (q : te σ H fun x H' => Bl x H' Q) : tB te σ H Q := q
theorem r_bl {b : Bool} {Q : Bool → Hp → Prop} (q : Q b H) : Bl (.bl b) H Q := ⟨b, rfl, q⟩
theorem r_and {Q : Bool → Hp → Prop} (q : c σ H fun b H1 => if b = true then d σ H1 Q else Q false H1) : tAnd c d σ H Q := q
theorem r_or {Q : Bool → Hp → Prop} (q : c σ H fun b H1 => if b = true then Q true H1 else d σ H1 Q) : tOr c d σ H Q := q
theorem r_not {Q : Bool → Hp → Prop} (q : c σ H fun b H1 => Q (!b) H1) : tNot c σ H Q := q
theorem r_if (q : c σ H fun b H1 => if b = true then ta σ H1 Q else tb σ H1 Q) : tIf c ta tb σ H Q := q
theorem r_ite {p A B : Prop} [Decidable p] (h1 : p → A) (h2 : ¬ p → B) : if decide p = true then A else B := by
  by_cases h : p
  · rw [if_pos (decide_eq_true h)]; exact h1 h
  · rw [if_neg (by rw [decide_eq_false h]; decide)]; exact h2 h
theorem r_iteN {p A B : Prop} [Decidable p] (h1 : p → B) (h2 : ¬ p → A) : if (!decide p) = true then A else B := by
  by_cases h : p
  · rw [if_neg (by rw [decide_eq_true h]; decide)]; exact h1 h
  · rw [if_pos (by rw [decide_eq_false h]; rfl)]; exact h2 h
theorem r_iteB {b : Bool} {A B : Prop} (h1 : b = true → A) (h2 : b = false → B) : if b = true then A else B := by
  cases b with
  | true => exact h1 rfl
  | false => exact h2 rfl
theorem r_nT {A B : Prop} (q : B) : if (!true) = true then A else B := q
theorem r_nF {A B : Prop} (q : A) : if (!false) = true then A else B := q
theorem r_nil {Q : List V → Hp → Prop} (q : Q [] H) : tNil σ H Q := q
theorem r_cons {tr : TA} {Q : List V → Hp → Prop} (q : ta σ H fun x H1 => tr σ H1 fun xs H2 => Q (x :: xs) H2) : tCons ta tr σ H Q := q
theorem r_CB {r : List V → Hp → VK → Prop} {a : TA} (q : a σ H fun vs H1 => r vs H1 Q) : tCB r a σ H Q := q
theorem r_call {sp : Sp} {dvs : List V} {E : XK} {a : TA} (q : a σ H fun vs H1 => sp (vs ++ dvs) H1 Q E) : tCall sp dvs E a σ H Q := q
theorem r_seq (q : t { D with nx := u D } σ H) : tSeq t u D σ H := q
theorem r_asg {g : TG} (q : te σ H fun x H1 => g x σ H1 D.nx) : tAsg te g D σ H := q
theorem r_gname {Q : L2.St → Hp → Prop} (q : Q (σ.set k (some v)) H) : gName k v σ H Q := q
theorem r_ifs {c : TT} (q : c σ H fun b H1 => if b = true then t D σ H1 else u D σ H1) : tIfS c t u D σ H := q
theorem r_ret (q : te σ H D.rt) : tRet te D σ H := q
theorem r_retN (q : D.rt .non H) : tRetN D σ H := q
theorem r_drop (q : te σ H fun _ H1 => D.nx σ H1) : tDrop te D σ H := q
theorem r_next (q : D.nx σ H) : tNext D σ H := q
def Two (vs : List V) (H : Hp) (Q : V → V → Hp → Prop) : Prop := ∃ v w, vs = [v, w] ∧ Q v w H
theorem r_par {a b : Nat} {ta : TA} (q : ta σ H fun vs H1 => Two vs H1 fun v w H2 => D.nx ((σ.set a (some v)).set b (some w)) H2) : tPar a b ta D σ H := q
theorem r_two {Q : V → V → Hp → Prop} (q : Q v w H) : Two [v, w] H Q := ⟨v, w, rfl, q⟩
theorem r_aug {ti : TIp} (h : σ[k]? = some (some v)) (q : te σ H fun y H1 => ti v y H1 fun z H2 => D.nx (σ.set k (some z)) H2) : tAug k te ti D σ H := ⟨v, h, q⟩
theorem r_ipI {f : Int → Int → Int} (q : Q (.int (f i j)) H) : ipI f (.int i) (.int j) H Q := ⟨i, j, rfl, rfl, q⟩
def rInt : List V → Hp → VK → Prop := fun xs H Q => (∃ i, xs = [.int i] ∧ Q (.int i) H) ∨ ∃ k, xs = [.bl k] ∧ Q (.int (if k then 1 else 0)) H
theorem call_intB : CallR X (.type "int") rInt := call_int1
theorem r_int1 (q : Q (.int i) H) : rInt [.int i] H Q := .inl ⟨i, rfl, q⟩
theorem r_intB {b : Bool} (q : Q (.int (if b then 1 else 0)) H) : rInt [.bl b] H Q := .inr ⟨b, rfl, q⟩
def rDGet : R2 := fun x y H Q => ∃ a v, x = .ref a ∧ DGet H a y (some v) ∧ Q v H
def rDPut (x y v : V) (H : Hp) (Q : Hp → Prop) : Prop := ∃ a H4, x = .ref a ∧ DPut H a y v H4 ∧ Q H4
theorem r_dget {td ty : TE} (q : td σ H fun x H1 => ty σ H1 fun y H2 => rDGet x y H2 Q) : tDGet td ty σ H Q := q
theorem r_dput {td ty tv : TE} (q : tv σ H fun v H1 => td σ H1 fun x H2 => ty σ H2 fun y H3 => rDPut x y v H3 fun H4 => D.nx σ H4) : sDPut td ty tv D σ H := q
def rDIn (neg : Bool) : R2 := fun y x H Q => ∃ a o, x = .ref a ∧ DGet H a y o ∧ Q (.bl (if neg then !o.isSome else o.isSome)) H
theorem r_din {td ty : TE} (q : ty σ H fun y H1 => td σ H1 fun x H2 => rDIn false y x H2 Q) : tDIn ty td σ H Q := q
theorem r_dnin {td ty : TE} (q : ty σ H fun y H1 => td σ H1 fun x H2 => rDIn true y x H2 Q) : tDNotIn ty td σ H Q := q
end

/-! great numbers by their bits -/
def Bt (n : Nat) (x : Int) : Prop := x.natAbs < 2 ^ n
theorem Bt.mono {n m : Nat} {x : Int} (h : Bt n x) (l : n ≤ m) : Bt m x := Nat.lt_of_lt_of_le h (Nat.pow_le_pow_right (by decide) l)
theorem Bt.mul {n m : Nat} {x y : Int} (h : Bt n x) (g : Bt m y) : Bt (n + m) (x * y) := by
  unfold Bt at *
  rw [Int.natAbs_mul, Nat.pow_add]
  exact Nat.mul_lt_mul'' h g
theorem Bt.add {n : Nat} {x y : Int} (h : Bt n x) (g : Bt n y) : Bt (n + 1) (x + y) := by
  unfold Bt at *
  have e : 2 ^ (n + 1) = 2 ^ n + 2 ^ n := by rw [Nat.pow_succ]; omega
  omega
theorem Bt.sub {n : Nat} {x y : Int} (h : Bt n x) (g : Bt n y) : Bt (n + 1) (x - y) := by
  unfold Bt at *
  have e : 2 ^ (n + 1) = 2 ^ n + 2 ^ n := by rw [Nat.pow_succ]; omega
  omega
theorem Bt.of {n : Nat} {x : Int} {b : Nat} (h : x.natAbs < b) (l : b ≤ 2 ^ n) : Bt n x := Nat.lt_of_lt_of_le h l
theorem Bt.small {x : Int} (l : -(2 ^ 62) < x) (g : x < 2 ^ 62) : Bt 62 x := by
  unfold Bt
  omega
theorem Bt.le {n : Nat} {x y : Int} (h : Bt n y) (l : x.natAbs ≤ y.natAbs) : Bt n x := Nat.lt_of_le_of_lt l h
theorem Bt.ediv {n : Nat} {x y : Int} (h : Bt n x) (h0 : 0 ≤ x) (hy : 0 ≤ y) : Bt n (x / y) := by
  refine h.le ?_
  have h1 : x / y ≤ x := Int.ediv_le_self _ h0
  have h2 : 0 ≤ x / y := Int.ediv_nonneg h0 hy
  omega
theorem Bt.log {n : Nat} {x : Int} (h : Bt (n + 1) x) : x.natAbs.log2 ≤ n := by
  by_cases e : x.natAbs = 0
  · rw [e]; exact Nat.zero_le _
  · have h1 : 2 ^ x.natAbs.log2 ≤ x.natAbs := Nat.log2_self_le e
    have h2 : 2 ^ x.natAbs.log2 < 2 ^ (n + 1) := Nat.lt_of_le_of_lt h1 h
    exact Nat.le_of_lt_succ ((Nat.pow_lt_pow_iff_right (by decide)).mp h2)
theorem Bt.of_bits {n : Nat} {x : Int} (h : Builtin.Int.intBits x ≤ n) : Bt n x := by
  unfold Bt
  unfold Builtin.Int.intBits at h
  split at h
  · rename_i e
    have e' : x.natAbs = 0 := by
      have := e
      simp at this
      omega
    rw [e']; exact Nat.two_pow_pos n
  · exact Nat.lt_of_lt_of_le Nat.lt_log2_self (Nat.pow_le_pow_right (by decide) h)

/-- * of factors of together at most a hundred million bits -/
def CMulB (i j : Int) : Prop := ∃ n m, Bt (n + 1) i ∧ Bt (m + 1) j ∧ n + m ≤ 100000000
theorem CMulB.ok {i j : Int} (h : CMulB i j) : IntMulOk i j := by
  obtain ⟨n, m, h1, h2, h3⟩ := h
  have b : ∀ x : Int, Builtin.Int.intBits x ≤ x.natAbs.log2 + 1 := fun x => by
    unfold Builtin.Int.intBits
    split <;> omega
  have g1 := b i
  have g2 := b j
  have l1 := h1.log
  have l2 := h2.log
  have e : bitsLine = 134217728 := by decide
  unfold IntMulOk
  intro z
  rw [Bool.and_eq_true] at z
  have z2 := z.2
  unfold Builtin.Int.intTooBig at z2
  have z3 := of_decide_eq_true z2
  rw [e] at z3
  omega
theorem op_mulB {X : Cx} : OpR X (binaryOp .Mult) (rI CMulB fun i j => .int (i * j)) := opI fun _ _ _ _ _ _ _ hc q => mul_int q hc.ok
theorem CPow.small {i j : Int} (h0 : 0 ≤ j) (h1 : j ≤ 1000000) (h2 : -(2 ^ 62) < i) (h3 : i < 2 ^ 62) : CPow i j := ⟨h0, h1, by omega⟩
theorem CDivW.of {n : Nat} {i j : Int} (h : 0 < j) (hb : Bt (n + 1) j) (l : n < 9000) : CDivW i j := ⟨h, Nat.lt_of_le_of_lt hb.log l⟩
theorem CDivW.small {i j : Int} (h : 0 < j) (h2 : j < 2 ^ 62) : CDivW i j := CDivW.of (n := 61) h (Bt.small (by omega) h2) (by decide)
theorem CMulB.small {i j : Int} (h1 : -(2 ^ 62) < i) (h2 : i < 2 ^ 62) (h3 : -(2 ^ 62) < j) (h4 : j < 2 ^ 62) : CMulB i j := ⟨61, 61, Bt.small h1 h2, Bt.small h3 h4, by decide⟩
end GB
namespace GB
open PySem PySem.Spec PyProof.Rows L2
section
variable {X : Cx} {K : PySem.W.Frag} {σ : L2.St} {H : Hp} {Q : VK} {D : Ends} {t u body : TS} {ta : TA} {tb te tx tl : TE} {c d : TT} {v w : V} {i j n m : Int} {k : Nat}
def rMaxB : List V → Hp → VK → Prop := fun xs H Q => ∃ i j, xs = [.int i, .int j] ∧ Q (.int (if j > i then j else i)) H
def rMinB : List V → Hp → VK → Prop := fun xs H Q => ∃ i j, xs = [.int i, .int j] ∧ Q (.int (if j < i then j else i)) H
def rAbsB : List V → Hp → VK → Prop := fun xs H Q => ∃ i, xs = [.int i] ∧ Q (.int (if i < 0 then -i else i)) H
def rLenB (K : PySem.W.Frag) : List V → Hp → VK → Prop := fun xs H Q => ∃ p ys, xs = [.ref p] ∧ (SqL K H p ys ∨ SqT K H p ys) ∧ Q (.int ys.length) H
theorem call_maxB (hc : X.calm = true) : CallR X (.builtin "max") rMaxB := call_max2 hc
theorem call_minB (hc : X.calm = true) : CallR X (.builtin "min") rMinB := call_min2 hc
theorem call_absB : CallR X (.builtin "abs") rAbsB := call_abs
theorem call_lenB : CallR X (.builtin "len") (rLenB X.K) := call_len_seq
theorem r_max (q : Q (.int (max i j)) H) : rMaxB [.int i, .int j] H Q := by
  refine ⟨i, j, rfl, ?_⟩
  have e : (if j > i then j else i) = max i j := by
    rw [Int.max_def]
    split <;> split <;> omega
  rw [e]; exact q
theorem r_min (q : Q (.int (min i j)) H) : rMinB [.int i, .int j] H Q := by
  refine ⟨i, j, rfl, ?_⟩
  have e : (if j < i then j else i) = min i j := by
    rw [Int.min_def]
    split <;> split <;> omega
  rw [e]; exact q
theorem r_abs (q : Q (.int (i.natAbs : Int)) H) : rAbsB [.int i] H Q := by
  refine ⟨i, rfl, ?_⟩
  have e : (if i < 0 then -i else i) = (i.natAbs : Int) := by
    split <;> omega
  rw [e]; exact q
theorem r_lenL {a : Addr} {ys : List V} (h : SqL K H a ys) (q : Q (.int ys.length) H) : rLenB K [.ref a] H Q := ⟨a, ys, rfl, .inl h, q⟩
theorem r_lenT {a : Addr} {ys : List V} (h : SqT K H a ys) (q : Q (.int ys.length) H) : rLenB K [.ref a] H Q := ⟨a, ys, rfl, .inr h, q⟩
theorem r_ixL {a : Addr} {ys : List V} (h : SqL K H a ys) (g : atI ys i = some v) (q : Q v H) : rIxL K (.ref a) (.int i) H Q := ⟨a, ys, i, v, rfl, rfl, h, g, q⟩
theorem r_ixT {a : Addr} {ys : List V} (h : SqT K H a ys) (g : atI ys i = some v) (q : Q v H) : rIxT K (.ref a) (.int i) H Q := ⟨a, ys, i, v, rfl, rfl, h, g, q⟩
/-- what a loop asks -/
def FL (J : It) (g : TG) (body : TS) (D : Ends) (σ : L2.St) (H : Hp) : Prop := ∃ W : Nat → Nat → L2.St → Hp → Prop, (∃ m, W 0 m σ H) ∧ ∀ i m σ H, W i m σ H →
  (J.stop i H ∧ D.nx σ H) ∨ (J.go i H ∧ ∃ N : L2.St → Hp → Prop, (∀ σ' H', N σ' H' → ∃ m', m' < m ∧ W (i + 1) m' σ' H') ∧
    ∀ x H', J.yld i H x H' → g x σ H' fun σ2 H2 => body { D with nx := N, ct := N, bk := D.nx } σ2 H2)
theorem r_for {wi : TI} {g : TG} (q : wi σ H fun J H1 => FL J g body D σ H1) : tFor wi g body D σ H := q
def rRng1 (vs : List V) (H : Hp) (R : It → Hp → Prop) : Prop := ∃ j : Int, vs = [.int j] ∧ -(2 ^ 62) ≤ j ∧ j < 2 ^ 62 ∧ R (Itr 0 j.toNat) H
def rRng2 (vs : List V) (H : Hp) (R : It → Hp → Prop) : Prop := ∃ i j : Int, vs = [.int i, .int j] ∧ (-(2 ^ 62) ≤ i ∧ i < 2 ^ 62 ∧ -(2 ^ 62) ≤ j ∧ j < 2 ^ 62) ∧ R (Itr i (j - i).toNat) H
def rIl (K : PySem.W.Frag) (x : V) (H : Hp) (R : It → Hp → Prop) : Prop := ∃ a, x = .ref a ∧ (∃ xs, SqL K H a xs) ∧ R (Itl K a) H
def rIt (K : PySem.W.Frag) (x : V) (H : Hp) (R : It → Hp → Prop) : Prop := ∃ a, x = .ref a ∧ (∃ xs, SqT K H a xs) ∧ R (Itt K a) H
theorem r_rng1 {R : It → Hp → Prop} (q : ta σ H fun vs H1 => rRng1 vs H1 R) : iRng1 ta σ H R := q
theorem r_rng2 {R : It → Hp → Prop} (q : ta σ H fun vs H1 => rRng2 vs H1 R) : iRng2 ta σ H R := q
theorem r_il {R : It → Hp → Prop} (q : tl σ H fun x H1 => rIl K x H1 R) : iList K tl σ H R := q
theorem r_it {R : It → Hp → Prop} (q : tl σ H fun x H1 => rIt K x H1 R) : iTup K tl σ H R := q
theorem r_rngN {R : It → Hp → Prop} (h1 : -(2 ^ 62) ≤ n) (h2 : n < 2 ^ 62) (q : R (Itr 0 n.toNat) H) : rRng1 [V.int n] H R := ⟨n, rfl, h1, h2, q⟩
theorem r_rngM {R : It → Hp → Prop} (h1 : -(2 ^ 62) ≤ m) (h2 : m < 2 ^ 62) (h3 : -(2 ^ 62) ≤ n) (h4 : n < 2 ^ 62) (q : R (Itr m (n - m).toNat) H) : rRng2 [V.int m, V.int n] H R := ⟨m, n, rfl, ⟨h1, h2, h3, h4⟩, q⟩
theorem r_ill {R : It → Hp → Prop} {a : Addr} {xs : List V} (h : SqL K H a xs) (q : R (Itl K a) H) : rIl K (.ref a) H R := ⟨a, rfl, ⟨_, h⟩, q⟩
theorem r_itt {R : It → Hp → Prop} {a : Addr} {xs : List V} (h : SqT K H a xs) (q : R (Itt K a) H) : rIt K (.ref a) H R := ⟨a, rfl, ⟨_, h⟩, q⟩
theorem fl_range {lo : Int} {n : Nat} {g : TG} (Pv : Nat → L2.St → Hp → Prop) (h0 : Pv 0 σ H)
    (hs : ∀ (i : Nat) σ H, i < n → Pv i σ H → g (.int (lo + (i : Int))) σ H fun σ2 H2 => body { D with nx := Pv (i + 1), ct := Pv (i + 1), bk := D.nx } σ2 H2) (hd : ∀ σ H, Pv n σ H → D.nx σ H) : FL (Itr lo n) g body D σ H := for_range Pv h0 hs hd
theorem fl_list {a : Addr} {xs : List V} {g : TG} (Pv : Nat → L2.St → Hp → Prop) (h0 : Pv 0 σ H) (hl : ∀ i σ H, i ≤ xs.length → Pv i σ H → SqL K H a xs)
    (hs : ∀ i x σ H, xs[i]? = some x → Pv i σ H → g x σ H fun σ2 H2 => body { D with nx := Pv (i + 1), ct := Pv (i + 1), bk := D.nx } σ2 H2) (hd : ∀ σ H, Pv xs.length σ H → D.nx σ H) : FL (Itl K a) g body D σ H := for_list Pv h0 hl hs hd
theorem fl_tup {a : Addr} {xs : List V} {g : TG} (Pv : Nat → L2.St → Hp → Prop) (h0 : Pv 0 σ H) (hl : ∀ i σ H, i ≤ xs.length → Pv i σ H → SqT K H a xs)
    (hs : ∀ i x σ H, xs[i]? = some x → Pv i σ H → g x σ H fun σ2 H2 => body { D with nx := Pv (i + 1), ct := Pv (i + 1), bk := D.nx } σ2 H2) (hd : ∀ σ H, Pv xs.length σ H → D.nx σ H) : FL (Itt K a) g body D σ H := for_tup Pv h0 hl hs hd
/-- what a comprehension asks, its new list at L -/
def CL (J : It) (g : TG) (tt : TT) (te : TE) (vs : List Nat) (L : Addr) (σ : L2.St) (Qd : Hp → Prop) (H1 : Hp) : Prop := ∃ W : Nat → Nat → Hp → Prop, (∃ m, W 0 m (upd H1 L (.lst []))) ∧ ∀ i m H, W i m H →
  (J.stop i H ∧ Qd H) ∨ (J.go i H ∧ ∃ Nx : Hp → Prop, (∀ H', Nx H' → ∃ m', m' < m ∧ W (i + 1) m' H') ∧ ∀ x H', J.yld i H x H' → g x (wipe σ vs) H' fun σ2 H2 => wipe σ2 vs = wipe σ vs ∧ tt σ2 H2 fun b H3 =>
    if b = true then te σ2 H3 fun y H4 => ∃ acc, H4 L = some (.lst acc) ∧ acc.length < sizeLine ∧ Nx (upd H4 L (.lst (acc ++ [y]))) else Nx H3)
theorem r_lc {wi : TI} {g : TG} {tt : TT} {vs : List Nat} (q : wi σ H fun J H1 => ∀ L, H1 L = none → CL J g tt te vs L σ (fun H' => Q (.ref L) H') H1) : tLc wi g tt te vs σ H Q := q
theorem r_yes {Q : Bool → Hp → Prop} (q : Q true H) : tYes σ H Q := q
theorem cl_list {a L : Addr} {xs : List V} {g : TG} {tt : TT} {vs : List Nat} {Qd : Hp → Prop} (Pv : Nat → Hp → Prop) (h0 : Pv 0 (upd H L (.lst []))) (hl : ∀ i H, i ≤ xs.length → Pv i H → SqL K H a xs)
    (hs : ∀ i x H, xs[i]? = some x → Pv i H → g x (wipe σ vs) H fun σ2 H2 => wipe σ2 vs = wipe σ vs ∧ tt σ2 H2 fun b H3 => if b = true then te σ2 H3 fun y H4 => ∃ acc, H4 L = some (.lst acc) ∧ acc.length < sizeLine ∧ Pv (i + 1) (upd H4 L (.lst (acc ++ [y]))) else Pv (i + 1) H3)
    (hd : ∀ H, Pv xs.length H → Qd H) : CL (Itl K a) g tt te vs L σ Qd H := lc_list Pv h0 hl hs hd
theorem cl_range {lo : Int} {n : Nat} {L : Addr} {g : TG} {tt : TT} {vs : List Nat} {Qd : Hp → Prop} (Pv : Nat → Hp → Prop) (h0 : Pv 0 (upd H L (.lst [])))
    (hs : ∀ (i : Nat) H, i < n → Pv i H → g (.int (lo + (i : Int))) (wipe σ vs) H fun σ2 H2 => wipe σ2 vs = wipe σ vs ∧ tt σ2 H2 fun b H3 => if b = true then te σ2 H3 fun y H4 => ∃ acc, H4 L = some (.lst acc) ∧ acc.length < sizeLine ∧ Pv (i + 1) (upd H4 L (.lst (acc ++ [y]))) else Pv (i + 1) H3)
    (hd : ∀ H, Pv n H → Qd H) : CL (Itr lo n) g tt te vs L σ Qd H := lc_range Pv h0 hs hd
/-- a call's reading, its arguments' values told -/
theorem r_app {sp : Sp} {vs ws : List V} {E : XK} (e : vs = ws) (q : sp ws H Q E) : sp vs H Q E := e ▸ q
theorem r_sl {r : V → Option Int → Option Int → Hp → VK → Prop} {to tu : TO} (q : te σ H fun x H1 => to σ H1 fun l H2 => tu σ H2 fun u H3 => r x l u H3 Q) : tSl r te to tu σ H Q := q
theorem r_no {Q : Option Int → Hp → Prop} (q : Q none H) : tNoPart σ H Q := q
def rPart (x : V) (H : Hp) (Q : Option Int → Hp → Prop) : Prop := ∃ i, x = .int i ∧ Q (some i) H
theorem r_part {Q : Option Int → Hp → Prop} (q : te σ H fun x H1 => rPart x H1 Q) : tPart te σ H Q := q
theorem r_int {Q : Option Int → Hp → Prop} (q : Q (some i) H) : rPart (.int i) H Q := ⟨i, rfl, q⟩
theorem r_slL {a : Addr} {xs : List V} {lo hi : Option Int} (h : SqL K H a xs) (q : ∀ p, H p = none → Q (.ref p) (upd H p (.lst (cutV xs lo hi)))) : rSlL K (.ref a) lo hi H Q := ⟨a, xs, rfl, h, q⟩
theorem r_cat {a b : Addr} {xs ys : List V} (h : H a = some (.lst xs)) (h2 : H b = some (.lst ys)) (l : xs.length + ys.length ≤ sizeLine) (q : ∀ p, H p = none → Q (.ref p) (upd H p (.lst (xs ++ ys)))) : rCat (.ref a) (.ref b) H Q := ⟨a, b, xs, ys, rfl, rfl, h, h2, l, q⟩
end

/-! a law's drawn numbers -/
def Mk (l sd : Int) (c : Addr) (sp : Int) : List (Key × V) := [(.inr "left", .int l), (.inr "seed", .int sd), (.inr "cells", .ref c), (.inr "spot", .int sp)]
/-- all but p as it was -/
def Kp (p : Addr) (H H' : Hp) : Prop := ∀ a o, a ≠ p → H a = some o → H' a = some o
theorem Kp.refl (p : Addr) (H : Hp) : Kp p H H := fun _ _ _ h => h
theorem Kp.trans {p : Addr} {H H1 H2 : Hp} (a : Kp p H H1) (b : Kp p H1 H2) : Kp p H H2 := fun x o n h => b x o n (a x o n h)
theorem Kp.of {p : Addr} {H H' : Hp} (h : Same H H') : Kp p H H' := fun x o _ e => h x o e
theorem Kp.put {p : Addr} {H : Hp} {o : HO} : Kp p H (upd H p o) := fun x u n h => by rw [upd_ne n]; exact h
structure DrawsAt (K : PySem.W.Frag) (p : Addr) (n : Nat) (H : Hp) (c : Addr) (l sd sp : Int) (ns : List Int) : Prop where
  at_ : H p = some (.dK (Mk l sd c sp))
  cells : SqL K H c (ns.map V.int)
  some_ : ns ≠ []
  few : ns.length ≤ 200
  bits : ∀ x ∈ ns, Bt 1048577 x
  l0 : 0 ≤ l
  lb : Bt 1048577 l
  s0 : 0 ≤ sd
  s1 : sd < 2147483647
  p0 : 0 ≤ sp
  p1 : sp ≤ n
def Draws (K : PySem.W.Frag) (p : Addr) (n : Nat) (H : Hp) : Prop := ∃ c l sd sp ns, DrawsAt K p n H c l sd sp ns
theorem Draws.at_ {K : PySem.W.Frag} {p : Addr} {n : Nat} {H : Hp} (h : Draws K p n H) : ∃ kvs, H p = some (.dK kvs) := let ⟨_, _, _, _, _, d⟩ := h; ⟨_, d.at_⟩
theorem Draws.mono {K : PySem.W.Frag} {p : Addr} {n m : Nat} {H : Hp} (h : Draws K p n H) (l : n ≤ m) : Draws K p m H := by
  obtain ⟨c, l', sd, sp, ns, d⟩ := h
  exact ⟨c, l', sd, sp, ns, { d with p1 := by have := d.p1; omega }⟩
theorem SqL.same {K : PySem.W.Frag} {H H' : Hp} {a : Addr} {xs : List V} (e : ∀ o, H a = some o → H' a = some o) (h : SqL K H a xs) : SqL K H' a xs := by
  rcases h with (h | ⟨o, h⟩) | h
  · exact .inl (.inl (e _ h))
  · exact .inl (.inr ⟨o, e _ h⟩)
  · exact .inr h
theorem SqT.same {K : PySem.W.Frag} {H H' : Hp} {a : Addr} {xs : List V} (e : ∀ o, H a = some o → H' a = some o) (h : SqT K H a xs) : SqT K H' a xs := by
  rcases h with (h | ⟨o, h⟩) | h
  · exact .inl (.inl (e _ h))
  · exact .inl (.inr ⟨o, e _ h⟩)
  · exact .inr h
/-- a list stays where only p, another kind of thing, may change -/
theorem SqL.kp {K : PySem.W.Frag} {H H' : Hp} {p a : Addr} {xs : List V} {kvs : List (Key × V)} (hp : H p = some (.dK kvs)) (k : Kp p H H') (h : SqL K H a xs) : SqL K H' a xs := by
  rcases h with (h | ⟨o, h⟩) | h
  · exact .inl (.inl (k _ _ (ne_of h hp (fun z => by cases z)) h))
  · exact .inl (.inr ⟨o, k _ _ (ne_of h hp (fun z => by cases z)) h⟩)
  · exact .inr h
theorem SqT.kp {K : PySem.W.Frag} {H H' : Hp} {p a : Addr} {xs : List V} {kvs : List (Key × V)} (hp : H p = some (.dK kvs)) (k : Kp p H H') (h : SqT K H a xs) : SqT K H' a xs := by
  rcases h with (h | ⟨o, h⟩) | h
  · exact .inl (.inl (k _ _ (ne_of h hp (fun z => by cases z)) h))
  · exact .inl (.inr ⟨o, k _ _ (ne_of h hp (fun z => by cases z)) h⟩)
  · exact .inr h
theorem Draws.same {K : PySem.W.Frag} {p : Addr} {n : Nat} {H H' : Hp} (h : Draws K p n H) (k : Same H H') : Draws K p n H' := by
  obtain ⟨c, l', sd, sp, ns, d⟩ := h
  exact ⟨c, l', sd, sp, ns, { d with at_ := k _ _ d.at_, cells := k.seq d.cells }⟩
theorem same_new {H : Hp} {p : Addr} {o : HO} (h : H p = none) : Same H (upd H p o) := fun b x e => by
  rw [upd_ne (ne_of_none e h)]
  exact e
/-- an object that H does not know may change -/
theorem same_mut {H H' : Hp} {p : Addr} {o : HO} (e : Same H H') (h : H p = none) : Same H (upd H' p o) := fun a u ha => by
  rw [upd_ne (ne_of_none ha h)]
  exact e a u ha
section
variable {H : Hp} {p c : Addr} {l sd sp l' : Int} {Q : VK}
theorem g_left (h : H p = some (.dK (Mk l sd c sp))) (q : Q (.int l) H) : rDGet (.ref p) (.str "left") H Q := ⟨p, .int l, rfl, DGet.k (k := Sum.inr "left") h, q⟩
theorem g_seed (h : H p = some (.dK (Mk l sd c sp))) (q : Q (.int sd) H) : rDGet (.ref p) (.str "seed") H Q := ⟨p, .int sd, rfl, DGet.k (k := Sum.inr "seed") h, q⟩
theorem g_cells (h : H p = some (.dK (Mk l sd c sp))) (q : Q (.ref c) H) : rDGet (.ref p) (.str "cells") H Q := ⟨p, .ref c, rfl, DGet.k (k := Sum.inr "cells") h, q⟩
theorem g_spot (h : H p = some (.dK (Mk l sd c sp))) (q : Q (.int sp) H) : rDGet (.ref p) (.str "spot") H Q := ⟨p, .int sp, rfl, DGet.k (k := Sum.inr "spot") h, q⟩
theorem p_left {R : Hp → Prop} (h : H p = some (.dK (Mk l sd c sp))) (q : R (upd H p (.dK (Mk l' sd c sp)))) : rDPut (.ref p) (.str "left") (.int l') H R := ⟨p, _, rfl, DPut.k (k := Sum.inr "left") h (by show 4 < sizeLine; decide), q⟩
theorem p_spot {R : Hp → Prop} (h : H p = some (.dK (Mk l sd c sp))) (q : R (upd H p (.dK (Mk l sd c l')))) : rDPut (.ref p) (.str "spot") (.int l') H R := ⟨p, _, rfl, DPut.k (k := Sum.inr "spot") h (by show 4 < sizeLine; decide), q⟩
end
/-- the promises of a law's own drawing -/
def spDraw (K : PySem.W.Frag) : Sp := fun vs H Q _ => ∃ (p : Addr) (b : Int) (n : Nat), vs = [.ref p, .int b] ∧ Draws K p n H ∧ n ≤ 1000000000000 ∧ 0 < b ∧ Bt 8999 b ∧
  ∀ v H', 0 ≤ v → v < b → Kp p H H' → Draws K p (n + 1) H' → Q (.int v) H'
def spOf (K : PySem.W.Frag) : Sp := fun vs H Q _ => ∃ (p a : Addr) (n : Nat) (xs : List V), vs = [.ref p, .ref a] ∧ Draws K p n H ∧ n ≤ 1000000000000 ∧ SqL K H a xs ∧ xs ≠ [] ∧ xs.length ≤ sizeLine ∧
  ∀ (i : Nat) (v : V) H', xs[i]? = some v → Kp p H H' → Draws K p (n + 1) H' → Q v H'
def spBegun (K : PySem.W.Frag) : Sp := fun vs H Q _ => ∃ (a : Addr) (k : Int) (ns : List Int), vs = [.ref a, .int k] ∧ SqL K H a (ns.map V.int) ∧ ns.length ≤ 63 ∧ (∀ x ∈ ns, Bt 1048576 x) ∧ 0 ≤ k ∧ k ≤ 1000000 ∧
  ∀ p H', H p = none → Same H H' → Draws K p 0 H' → Q (.ref p) H'
def spLike (K : PySem.W.Frag) : Sp := fun vs H Q _ => ∃ v w d, vs = [v, w] ∧ Dp K H v d ∧ Dp K H w d ∧ Shows d ∧ Q (.bl true) H
end GB
namespace GB
open PySem PySem.Spec PyProof.Rows L2
/-! data whose texts and comparisons lie in the model's bounds: ints below 2 ^ b, nests of so many levels, so many entries -/
structure Fine (b dep bulk : Nat) (d : PyData) : Prop where
  lay : d.canLay0 = true
  able : d.showable = true
  short : d.leavesShort (b + 8) = true
  deep : d.depth ≤ dep
  size : d.bulk ≤ bulk
structure FineAll (b dep bulk : Nat) (ds : List PyData) : Prop where
  lay : PyData.canLayAll0 ds = true
  able : PyData.showableAll ds = true
  short : PyData.leavesShortAll (b + 8) ds = true
  deep : PyData.depthAll ds ≤ dep
  size : PyData.bulkAll ds ≤ bulk
theorem Fine.mono {b n m n' m' : Nat} {d : PyData} (h : Fine b n m d) (l1 : n ≤ n') (l2 : m ≤ m') : Fine b n' m' d := { h with deep := Nat.le_trans h.deep l1, size := Nat.le_trans h.size l2 }
theorem Fine.int {b : Nat} {i : Int} (h : Bt b i) (l : b ≤ 1900) : Fine b 0 0 (.int i) := by
  refine ⟨by simp only [PyData.canLay0], ?_, ?_, by simp only [PyData.depth]; exact Nat.le_refl _, by simp only [PyData.bulk]; exact Nat.le_refl _⟩
  · have h2 := (h.mono (show b ≤ 1918 + 1 by omega)).log
    simp only [PyData.showable, decide_eq_true_eq]
    omega
  · simp only [PyData.leavesShort, decide_eq_true_eq]
    have h2 := (h.mono (show b ≤ b + 1 by omega)).log
    have h3 := int_text_length_le (a := i) (k := b + 1) (by omega) (by omega)
    have e : (PyData.shown (.int i)).length = (toString i).length := by
      show (Str.ofString (toString i)).length = _
      rw [PySem.ofString_length]
    omega
theorem Fine.bool {b : Nat} (c : Bool) : Fine b 0 0 (.bool c) := by
  refine ⟨?_, ?_, ?_, ?_, ?_⟩
  · simp only [PyData.canLay0]
  · simp only [PyData.showable]
  · simp only [PyData.leavesShort]
  · simp only [PyData.depth]; exact Nat.le_refl _
  · simp only [PyData.bulk]; exact Nat.le_refl _
theorem Fine.none {b : Nat} : Fine b 0 0 .none := by
  refine ⟨?_, ?_, ?_, ?_, ?_⟩
  · simp only [PyData.canLay0]
  · simp only [PyData.showable]
  · simp only [PyData.leavesShort]
  · simp only [PyData.depth]; exact Nat.le_refl _
  · simp only [PyData.bulk]; exact Nat.le_refl _
theorem FineAll.nil {b dep : Nat} : FineAll b dep 0 [] := by
  refine ⟨?_, ?_, ?_, ?_, ?_⟩
  · simp only [PyData.canLayAll0]
  · simp only [PyData.showableAll]
  · simp only [PyData.leavesShortAll]
  · simp only [PyData.depthAll]; exact Nat.zero_le _
  · simp only [PyData.bulkAll]; exact Nat.le_refl _
theorem FineAll.cons {b dep n m : Nat} {d : PyData} {ds : List PyData} (h : Fine b dep n d) (g : FineAll b dep m ds) : FineAll b dep (n + 1 + m) (d :: ds) := by
  refine ⟨?_, ?_, ?_, ?_, ?_⟩
  · simp only [PyData.canLayAll0, h.lay, g.lay]; rfl
  · simp only [PyData.showableAll, h.able, g.able]; rfl
  · simp only [PyData.leavesShortAll, h.short, g.short]; rfl
  · simp only [PyData.depthAll]
    have h1 := h.deep
    have h2 := g.deep
    omega
  · simp only [PyData.bulkAll]
    have h1 := h.size
    have h2 := g.size
    omega
theorem FineAll.of {b dep n : Nat} : ∀ {ds : List PyData}, (∀ d ∈ ds, Fine b dep n d) → FineAll b dep (ds.length * (n + 1)) ds
  | [], _ => by
    have h : FineAll b dep 0 [] := .nil
    simpa using h
  | d :: ds, h => by
    have h1 := FineAll.cons (h d List.mem_cons_self) (FineAll.of fun x hx => h x (List.mem_cons_of_mem _ hx))
    refine { h1 with size := Nat.le_trans h1.size ?_ }
    rw [List.length_cons, Nat.add_mul]
    omega
theorem FineAll.mono {b n m n' m' : Nat} {ds : List PyData} (h : FineAll b n m ds) (l1 : n ≤ n') (l2 : m ≤ m') : FineAll b n' m' ds := { h with deep := Nat.le_trans h.deep l1, size := Nat.le_trans h.size l2 }
theorem FineAll.list {b dep n : Nat} {ds : List PyData} (h : FineAll b dep n ds) : Fine b (dep + 1) n (.list ds) := by
  refine ⟨?_, ?_, ?_, ?_, ?_⟩
  · simp only [PyData.canLay0]; exact h.lay
  · simp only [PyData.showable]; exact h.able
  · simp only [PyData.leavesShort]; exact h.short
  · simp only [PyData.depth]; exact Nat.succ_le_succ h.deep
  · simp only [PyData.bulk]; exact h.size
theorem FineAll.tuple {b dep n : Nat} {ds : List PyData} (h : FineAll b dep n ds) : Fine b (dep + 1) n (.tuple ds) := by
  refine ⟨?_, ?_, ?_, ?_, ?_⟩
  · simp only [PyData.canLay0]; exact h.lay
  · simp only [PyData.showable]; exact h.able
  · simp only [PyData.leavesShort]; exact h.short
  · simp only [PyData.depth]; exact Nat.succ_le_succ h.deep
  · simp only [PyData.bulk]; exact h.size
theorem FineAll.ints {b : Nat} {ns : List Int} (h : ∀ x ∈ ns, Bt b x) (l : b ≤ 1900) : FineAll b 0 ns.length (ns.map PyData.int) := by
  have h1 : FineAll b 0 ((ns.map PyData.int).length * (0 + 1)) (ns.map PyData.int) := FineAll.of fun d hd => by
    obtain ⟨x, hx, rfl⟩ := List.mem_map.mp hd
    exact Fine.int (h x hx) l
  simpa using h1
theorem Fine.cons' {b dep n m : Nat} {d : PyData} {ds : List PyData} (h : Fine b dep n d) (g : FineAll b dep m ds) : FineAll b dep (n + 1 + m) (d :: ds) := FineAll.cons h g
theorem Fine.one {b dep n : Nat} {d : PyData} (h : Fine b dep n d) : FineAll b dep (n + 1 + 0) [d] := .cons h .nil
theorem Fine.two {b dep n m : Nat} {d e : PyData} (h : Fine b dep n d) (g : Fine b dep m e) : FineAll b dep (n + 1 + (m + 1 + 0)) [d, e] := .cons h g.one
theorem Fine.shaped {b n m : Nat} {d : PyData} (h : Fine b n m d) (l : n ≤ 60) : SeqAt.shaped d = true := by
  unfold SeqAt.shaped
  rw [h.lay, decide_eq_true (show d.depth ≤ 64 by have := h.deep; omega)]
  rfl
theorem Fine.shows {b n m : Nat} {d : PyData} (h : Fine b n m d) (l : n ≤ 50) (z : (b + 10) * m + b ≤ 16777200) : Shows d := by
  refine ⟨h.able, PyData.hasDict_of_canLay d h.lay, ?_, Nat.le_trans h.deep l⟩
  have h1 := PyData.shown_le_bulk (b + 8) (by omega) d h.short
  have h2 : (b + 8 + 2) * d.bulk ≤ (b + 10) * m := Nat.mul_le_mul_left _ h.size
  have e : sizeLine = 16777216 := by decide
  omega
theorem eqvAll_self {ds : List PyData} (h : PyData.canLayAll0 ds = true) : PyData.eqvAll ds ds = true := SeqAt.eqvAll_refl ds h
theorem Fine.eqv {b n m : Nat} {d : PyData} (h : Fine b n m d) : PyData.eqv d d = true := SeqAt.eqv_refl d h.lay

theorem vs1 {a b : Int} (h : a = b) : [V.int a] ++ [] = [V.int b] := by rw [h]; rfl
theorem vs2 {a b c d : Int} (h : a = c) (g : b = d) : [V.int a, V.int b] ++ [] = [V.int c, V.int d] := by rw [h, g]; rfl
theorem vs3 {x : V} {a b c d : Int} (h : a = c) (g : b = d) : [x, V.int a, V.int b] ++ [] = [x, V.int c, V.int d] := by rw [h, g]; rfl
section
variable {K : PySem.W.Frag} {σ : L2.St} {H : Hp} {Q' : L2.St → Hp → Prop} {a : Addr} {xs : List V} {n : Nat} {v : V} {t : TG} {ts : TGs} {Q : VK} {ta : TA}
theorem sqt_of {p : Addr} (h : H p = some (.tup xs)) : SqT K H p xs := .inl (.inl h)
theorem sql_of {p : Addr} (h : H p = some (.lst xs)) : SqL K H p xs := .inl (.inl h)
theorem r_gtup (h : SqT K H a xs) (l : xs.length = n) (q : ts xs σ H Q') : gTup K n ts (.ref a) σ H Q' := ⟨a, xs, rfl, h, l, q⟩
theorem r_gcons (q : t v σ H fun σ' H' => ts xs σ' H' Q') : gCons t ts (v :: xs) σ H Q' := ⟨v, xs, rfl, q⟩
theorem r_gnil (q : Q' σ H) : gNil [] σ H Q' := ⟨rfl, q⟩
def mkTup (xs : List V) (H : Hp) (Q : VK) : Prop := xs.length ≤ sizeLine ∧ ∀ p, H p = none → Q (.ref p) (upd H p (.tup xs))
def mkLst (xs : List V) (H : Hp) (Q : VK) : Prop := xs.length ≤ sizeLine ∧ ∀ p, H p = none → Q (.ref p) (upd H p (.lst xs))
theorem r_tup (q : ta σ H fun xs H1 => mkTup xs H1 Q) : tTup ta σ H Q := q
theorem r_lst (q : ta σ H fun xs H1 => mkLst xs H1 Q) : tLst ta σ H Q := q
theorem r_mkT (l : xs.length ≤ sizeLine) (q : ∀ p, H p = none → Q (.ref p) (upd H p (.tup xs))) : mkTup xs H Q := ⟨l, q⟩
theorem r_mkL (l : xs.length ≤ sizeLine) (q : ∀ p, H p = none → Q (.ref p) (upd H p (.lst xs))) : mkLst xs H Q := ⟨l, q⟩
theorem r_newT (l : xs.length ≤ sizeLine) (q : ∀ p H', Same H H' → H p = none → H' p = some (.tup xs) → Q (.ref p) H') : mkTup xs H Q :=
  ⟨l, fun p np => q p _ (same_new np) np upd_same⟩
theorem r_newL (l : xs.length ≤ sizeLine) (q : ∀ p H', Same H H' → H p = none → H' p = some (.lst xs) → Q (.ref p) H') : mkLst xs H Q :=
  ⟨l, fun p np => q p _ (same_new np) np upd_same⟩
theorem few_le {xs : List V} (h : Nat.ble xs.length 16777216 = true) : xs.length ≤ sizeLine := by
  have e : sizeLine = 16777216 := by decide
  rw [e]
  exact Nat.le_of_ble_eq_true h
end
/-! data at addresses -/
section
variable {K : PySem.W.Frag} {H H' : Hp}
theorem dp_ints {ns : List Int} : DpAll K H (ns.map V.int) (ns.map PyData.int) := by
  induction ns with
  | nil => exact .nil
  | cons n r ih => exact .cons (.int n) ih
theorem Dp.ints {a : Addr} {ns : List Int} (h : SqL K H a (ns.map V.int)) : Dp K H (.ref a) (.list (ns.map PyData.int)) := .lst h dp_ints
theorem Dp.intsT {a : Addr} {ns : List Int} (h : SqT K H a (ns.map V.int)) : Dp K H (.ref a) (.tuple (ns.map PyData.int)) := .tup h dp_ints
mutual
theorem Dp.same (k : Same H H') : ∀ {v : V} {d : PyData}, Dp K H v d → Dp K H' v d
  | _, _, .non => .non
  | _, _, .bl b => .bl b
  | _, _, .int i => .int i
  | _, _, .str x => .str x
  | _, _, .lst h g => .lst (SqL.same (k _) h) (DpAll.same k g)
  | _, _, .tup h g => .tup (SqT.same (k _) h) (DpAll.same k g)
theorem DpAll.same (k : Same H H') : ∀ {vs : List V} {ds : List PyData}, DpAll K H vs ds → DpAll K H' vs ds
  | _, _, .nil => .nil
  | _, _, .cons h g => .cons (Dp.same k h) (DpAll.same k g)
end
mutual
theorem Dp.kp {p : Addr} {kvs : List (Key × V)} (hp : H p = some (.dK kvs)) (k : Kp p H H') : ∀ {v : V} {d : PyData}, Dp K H v d → Dp K H' v d
  | _, _, .non => .non
  | _, _, .bl b => .bl b
  | _, _, .int i => .int i
  | _, _, .str x => .str x
  | _, _, .lst h g => .lst (SqL.kp hp k h) (DpAll.kp hp k g)
  | _, _, .tup h g => .tup (SqT.kp hp k h) (DpAll.kp hp k g)
theorem DpAll.kp {p : Addr} {kvs : List (Key × V)} (hp : H p = some (.dK kvs)) (k : Kp p H H') : ∀ {vs : List V} {ds : List PyData}, DpAll K H vs ds → DpAll K H' vs ds
  | _, _, .nil => .nil
  | _, _, .cons h g => .cons (Dp.kp hp k h) (DpAll.kp hp k g)
end
end
section
variable {K : PySem.W.Frag} {H : Hp} {Q : VK} {p : Addr} {σ : L2.St} {tk tv : TE} {r : List (TE × TE)} {x y : V} {d e : PyData}
def rDisp (p : Addr) (ps : List (V × V)) (H : Hp) (Q : VK) : Prop := H p = some (.dK []) ∧ ∃ kvs : List (Key × V), ps = kvs.map (fun kv => (kV kv.1, kv.2)) ∧ kvs.length ≤ 15 ∧ Q (.ref p) (upd H p (.dK (mergeK [] kvs)))
theorem r_disp {trs : List (TE × TE)} (q : ∀ p, H p = none → tPairs trs σ (upd H p (.dK [])) fun ps H2 => rDisp p ps H2 Q) : tDisp trs σ H Q := q
theorem r_p0 {Q : List (V × V) → Hp → Prop} (q : Q [] H) : tPairs [] σ H Q := q
theorem r_p1 {Q : List (V × V) → Hp → Prop} (q : tk σ H fun x H1 => tv σ H1 fun y H2 => tPairs r σ H2 fun ps H3 => Q ((x, y) :: ps) H3) : tPairs ((tk, tv) :: r) σ H Q := q
theorem r_Mk {l sd sp : Int} {c : Addr} (h : H p = some (.dK [])) (q : Q (.ref p) (upd H p (.dK (Mk l sd c sp)))) : rDisp p [(.str "left", .int l), (.str "seed", .int sd), (.str "cells", .ref c), (.str "spot", .int sp)] H Q :=
  ⟨h, Mk l sd c sp, rfl, by show 4 ≤ 15; decide, q⟩
theorem r_eqD (hd : Dp K H x d) (he : Dp K H y e) (s1 : SeqAt.shaped d = true) (s2 : SeqAt.shaped e = true) (q : Q (.bl (PyData.eqv d e)) H) : rEqD K x y H Q := ⟨d, e, hd, he, s1, s2, q⟩
theorem r_neD (hd : Dp K H x d) (he : Dp K H y e) (s1 : SeqAt.shaped d = true) (s2 : SeqAt.shaped e = true) (q : Q (.bl (!PyData.eqv d e)) H) : rNeD K x y H Q := ⟨d, e, hd, he, s1, s2, q⟩
end
section
variable {H : Hp} {d p : Addr} {kvs : List (List Key × V)} {k : List Key} {v : V} {Q : VK}
theorem in_T (e : H d = some (.dT kvs)) (eb : H p = some (.tup (k.map kV))) (q : Q (.bl (valV kvs k).isSome) H) : rDIn false (.ref p) (.ref d) H Q := ⟨d, _, rfl, DGet.t e eb, q⟩
theorem nin_T (e : H d = some (.dT kvs)) (eb : H p = some (.tup (k.map kV))) (q : Q (.bl (!(valV kvs k).isSome)) H) : rDIn true (.ref p) (.ref d) H Q := ⟨d, _, rfl, DGet.t e eb, q⟩
theorem get_T (e : H d = some (.dT kvs)) (eb : H p = some (.tup (k.map kV))) (g : valV kvs k = some v) (q : Q v H) : rDGet (.ref d) (.ref p) H Q := ⟨d, v, rfl, by rw [← g]; exact DGet.t e eb, q⟩
theorem put_T {R : Hp → Prop} (e : H d = some (.dT kvs)) (eb : H p = some (.tup (k.map kV))) (l : kvs.length < sizeLine) (q : R (upd H d (.dT (putK kvs k v)))) : rDPut (.ref d) (.ref p) v H R := ⟨d, _, rfl, DPut.t e eb l, q⟩
end
/-- f(a, x = b) of a def with two parameters -/
def two1 {α : Type} (us ws : List α) : List α := match us, ws with
  | [a], [b] => [a, b]
  | _, _ => []
theorem two1_rel {vs : List V} {us : List Value} {zs : List V} {ws : List Value} (r : Vals vs us) (q : Vals zs ws) : Vals (two1 vs zs) (two1 us ws) := by
  cases r with
  | nil => exact .nil
  | cons a b =>
    cases b with
    | nil =>
      cases q with
      | nil => exact .nil
      | cons c d =>
        cases d with
        | nil => exact .cons a (.cons c .nil)
        | cons _ _ => exact .nil
    | cons _ _ => exact .nil
theorem kb_two1 {K : PySem.W.Frag} {x q : Str} {st : Stmt} {f : Addr} {fd : FuncData} {p1 p2 : Str} (F : Fun K x q st f fd)
    (h : ∀ (kV doc pm : Value) (an : Option Addr) (cdv ct : Value) (a b : Value), bindArgs (PySem.W.fnOf x q (defArgs st) (defBody st) (defScope st) .none kV doc pm an cdv ct) ⟨[a], [(p2, b)]⟩ = pure [(p1, a), (p2, b)]) :
    KBinds K fd [p1, p2] [p2] two1 two1 := by
  obtain ⟨oc, od, kV, doc, pm, an, cdv, ct, osl, rfl, lk, hcd⟩ := F.ex
  refine ⟨fun s us ws _ hl => ?_, two1_rel⟩
  match us, ws, hl with
  | [a], [b], _ => exact .of_eq (h kV doc pm an cdv ct a b)
section
variable {σ : L2.St} {H : Hp} {Q : VK} {sp : Sp} {gV : List V → List V → List V} {E : XK} {t tk : TA}
theorem r_callK (q : t σ H fun vs H1 => tk σ H1 fun zs H2 => sp (gV vs zs) H2 Q E) : tCallK sp gV E t tk σ H Q := q
theorem r_dnewT (q : ∀ p H', Same H H' → H p = none → H' p = some (.dT []) → Q (.ref p) H') : tDNewT σ H Q := fun p np => q p _ (same_new np) np upd_same
end
/-- what only d, a dict by tuples, may change -/
theorem SqL.kt {K : PySem.W.Frag} {H H' : Hp} {p a : Addr} {xs : List V} {kvs : List (List Key × V)} (hp : H p = some (.dT kvs)) (k : Kp p H H') (h : SqL K H a xs) : SqL K H' a xs := by
  rcases h with (h | ⟨o, h⟩) | h
  · exact .inl (.inl (k _ _ (ne_of h hp (fun z => by cases z)) h))
  · exact .inl (.inr ⟨o, k _ _ (ne_of h hp (fun z => by cases z)) h⟩)
  · exact .inr h
theorem Draws.kt {K : PySem.W.Frag} {p d : Addr} {n : Nat} {H H' : Hp} {kvs : List (List Key × V)} (hd : H d = some (.dT kvs)) (k : Kp d H H') (h : Draws K p n H) : Draws K p n H' := by
  obtain ⟨c, l', sd, sp, ns, g⟩ := h
  exact ⟨c, l', sd, sp, ns, { g with at_ := k _ _ (ne_of g.at_ hd (fun z => by cases z)) g.at_, cells := SqL.kt hd k g.cells }⟩
end GB
namespace GB
open PySem PySem.Spec PyProof.Rows L2
/-! t[::-1] of a tuple -/
theorem picks_back (xs : Array Value) : ((List.range xs.size).filterMap fun (k : Nat) => xs[((xs.size : Int) - 1 + (k : Int) * (-1)).toNat]?) = xs.toList.reverse := by
  have e : (List.range xs.size).filterMap (fun (k : Nat) => xs[((xs.size : Int) - 1 + (k : Int) * (-1)).toNat]?) = (((List.range xs.size).map fun k => xs.size - 1 - k)).filterMap (xs[·]?) := by
    rw [List.filterMap_map]
    have same : ∀ l : List Nat, (∀ k ∈ l, k < xs.size) → l.filterMap (fun (k : Nat) => xs[((xs.size : Int) - 1 + (k : Int) * (-1)).toNat]?) = l.filterMap ((xs[·]?) ∘ fun k => xs.size - 1 - k) := by
      intro l
      induction l with
      | nil => intro _; rfl
      | cons a r ih =>
        intro hl
        have ha := hl a List.mem_cons_self
        have e1 : ((xs.size : Int) - 1 + (a : Int) * (-1)).toNat = xs.size - 1 - a := by omega
        rw [List.filterMap_cons, List.filterMap_cons, e1, ih (fun k hk => hl k (List.mem_cons_of_mem _ hk))]
        rfl
    exact same _ (fun k hk => List.mem_range.mp hk)
  rw [e, PySem.W.krv_range, List.filterMap_reverse, PySem.W.krv_all]
theorem tuple_back {pr : Program} {wd : World} {A : Around} {E : Value → Shared → Prop} {s : Shared} {t sl : Addr} {xs : Array Value} {vl vu vs : Value} {Q : Value → Shared → Prop} (ht : IsTup s.heap t xs) (hs : s.heap.IsSliceOf sl vl vu vs)
    (pl : IsPart vl none) (pu : IsPart vu none) (ps : IsPart vs (some (-1))) (few : xs.size ≤ sizeLine)
    (h : Q (.ref s.heap.objs.size) { s with heap := s.heap.push { cls := .type "tuple", data := .seq xs.toList.reverse.toArray } }) : wpAny (model pr wd) A (getItem (.ref t) (.ref sl)) Q E s := by
  have fits : sizeOk (.seq xs.toList.reverse.toArray) := by
    show xs.toList.reverse.toArray.size ≤ sizeLine
    rw [List.size_toArray, List.length_reverse, Array.length_toList]
    exact few
  obtain ⟨ob, at_, cls, dat⟩ := id hs
  have isSl : s.TypeIs (.ref sl) "slice" := ⟨ob, at_, cls⟩
  unfold getItem
  try with_reducible refine wpAny_holding ?_
  first | refine wpAny_bind (wpAny_pure ?_) | skip
  refine wpAny_bind (wpAny_sequenceKey ht.typeIs (by decide) ?_)
  refine wpAny_bind (wpAny_callSpecial?_slot (name := Str.ofString "__getitem__") ht.typeIs PyProof.Rows.slot_tuple_getitem (wpAny_call_entry PyProof.Rows.slot_tuple_getitem ht.typeIs entry_tuple_getitem ?_ (args_tuple_getitem _ _)))
  show wpAny _ _ (Builtin.Tuple.tupleItemsOf (.ref t) >>= _) _ _ s
  refine wpAny_bind (tupleItemsOf_ ht (wpAny_bind (wpAny_typeOf isSl ?_)))
  rw [if_pos (by decide)]
  have applied : ∀ (B : Around) (F : Value → Shared → Prop) (R : Int × Int × Nat → Shared → Prop), R ((xs.size : Int) - 1, -1, xs.size) s → wpAny (model pr wd) B (Builtin.Slice.sliceApplied (.ref sl) (pure (xs.size : Int))) R F s := by
    intro B F R hR
    unfold Builtin.Slice.sliceApplied Builtin.Slice.sliceFields
    refine wpAny_bind (wpAny_bind (wpAny_field at_ dat (x := vl) rfl (wpAny_bind (wpAny_field at_ dat (x := vu) rfl (wpAny_bind (wpAny_field at_ dat (x := vs) rfl (wpAny_pure ?_)))))))
    refine wpAny_bind (HT.slicePart_ ps ?_)
    show wpAny _ _ (if ((-1 : Int) == 0) = true then _ else _) _ _ s
    rw [if_neg (by decide)]
    refine wpAny_bind (HT.slicePart_ pl (wpAny_bind (HT.slicePart_ pu (wpAny_bind (wpAny_pure ?_)))))
    have e1 : Builtin.Slice.sliceAdjust none none (-1) (xs.size : Int) = ((xs.size : Int) - 1, -1) := rfl
    show wpAny _ _ (match Builtin.Slice.sliceAdjust none none (-1) (xs.size : Int) with | (lo, hi) => pure (lo, (-1 : Int), Builtin.Slice.slicePlaces lo hi (-1))) _ _ s
    rw [e1]
    have e2 : Builtin.Slice.slicePlaces ((xs.size : Int) - 1) (-1) (-1) = xs.size := by
      unfold Builtin.Slice.slicePlaces
      rw [if_neg (by decide)]
      by_cases z : (xs.size : Int) - 1 > -1
      · rw [if_pos z]
        have : ((xs.size : Int) - 1 - -1 - 1) / (- -1) = (xs.size : Int) - 1 := by
          rw [show (- -1 : Int) = 1 by decide, Int.ediv_one]
          omega
        rw [this]
        omega
      · rw [if_neg z]
        omega
    show wpAny _ _ (pure ((xs.size : Int) - 1, (-1 : Int), Builtin.Slice.slicePlaces ((xs.size : Int) - 1) (-1) (-1))) _ _ s
    rw [e2]
    exact wpAny_pure hR
  refine wpAny_bind (applied _ _ _ ?_)
  have hno : ¬ (((xs.size : Int) - 1 == 0 && (-1 : Int) == 1 && xs.size == xs.size) = true) := by
    intro q
    rw [Bool.and_eq_true, Bool.and_eq_true] at q
    exact absurd q.1.2 (by decide)
  show wpAny _ _ (if ((xs.size : Int) - 1 == 0 && (-1 : Int) == 1 && xs.size == xs.size) = true then _ else _) _ _ s
  rw [if_neg hno, picks_back]
  first
    | exact wpAny_bind (m := Builtin.Tuple.tupleExact _) (wpAny_newObj_type (wpAny_pure ⟨_, rfl, wpAny_pure h⟩) fits)
    | exact wpAny_bind (m := Builtin.Tuple.tupleExact _) (wpAny_newObj_type (wpAny_bind (wpAny_pure (wpAny_pure ⟨_, rfl, wpAny_pure h⟩))) fits)
    | exact wpAny_bind (wpAny_bind (m := Builtin.Tuple.tupleExact _) (wpAny_newObj_type (wpAny_pure (wpAny_pure ⟨_, rfl, wpAny_pure h⟩)) fits))
    | exact wpAny_bind (wpAny_bind (m := Builtin.Tuple.tupleExact _) (wpAny_newObj_type (wpAny_pure ⟨_, rfl, wpAny_pure h⟩) fits))
def rBackT (K : PySem.W.Frag) (x : V) (H : Hp) (Q : VK) : Prop := ∃ a xs, x = .ref a ∧ SqT K H a xs ∧ ∀ p, H p = none → Q (.ref p) (upd H p (.tup xs.reverse))
def tBackT (K : PySem.W.Frag) (te : TE) : TE := fun σ H Q => te σ H fun x H1 => rBackT K x H1 Q
theorem pe_backT {X : Cx} {e : Expr} {te : TE} {k : Nat} {p1 p2 p3 pos : Pos} (he : PE X e te) : PE X (.Subscript e (.Slice none none (some (.UnaryOp .USub (.Constant (.int 1) k p1) p2)) p3) pos) (tBackT X.K te) := by
  constructor
  intro pins s σ H Q J got
  refine Subscript_ (thn (he.run pins s σ H _ J got) fun v s1 ⟨x, H1, J1, r1, a, xs, ex, hx, q⟩ => ?_)
  subst ex
  have ev : v = Value.ref a := r1
  subst ev
  have step : PO X (some (.UnaryOp .USub (.Constant (.int 1) k p1) p2)) (tPart (tUn (rU fun i => .int (-i)) (tC (.int 1)))) := po_some (pe_un un_neg pe_int)
  have none1 := po_none.run pins s1 σ H1 (fun o H2 => o = none ∧ H2 = H1) J1 ⟨rfl, rfl⟩
  refine wpAny_Slice (thn none1 fun vl s2 ⟨l, H2, J2, pl, el, e2⟩ => ?_)
  subst el e2
  have none2 := po_none.run pins s2 σ H2 (fun o H3 => o = none ∧ H3 = H2) J2 ⟨rfl, rfl⟩
  refine thn none2 fun vu s3 ⟨u, H3, J3, pu, eu, e3⟩ => ?_
  subst eu e3
  have one3 := step.run pins s3 σ H3 (fun o H4 => o = some (-1) ∧ H4 = H3) J3 ⟨1, rfl, -1, rfl, rfl, rfl⟩
  refine thn one3 fun vs s4 ⟨o, H4, J4, ps, eo, e4⟩ => ?_
  subst eo e4
  have J5 : Inv X pins σ H4 { s4 with heap := s4.heap.push { cls := .type "slice", data := .fields #[vl, vu, vs] } } := J4.kept (t' := s4.toks) fun b ob z => Heap.get?_push_of_some _ z
  obtain ⟨its, rel, ht, hz⟩ := J5.tuple hx
  have hlen := rel.length
  show wpAny (model X.prog X.w) X.A (subscriptTail e (.Slice none none (some (.UnaryOp .USub (.Constant (.int 1) k p1) p2)) p3) (.ref a) (.ref s4.heap.objs.size)) (EP X pins σ Q) X.xe { s4 with heap := s4.heap.push { cls := .type "slice", data := .fields #[vl, vu, vs] } }
  refine tail_any (ops := [.ref a, .ref s4.heap.objs.size]) ht.typeIs PyProof.Rows.slot_tuple_getitem.lookup ?_ (by with_unfolding_all rfl)
  refine tuple_back ht (Heap.IsSliceOf.new _ vl vu vs) pl pu ps (by rw [List.size_toArray]; omega) ?_
  refine ⟨.ref _, _, J5.laid (t' := s4.toks) (o := .tup xs.reverse) (fun b ob z => Heap.get?_push_of_some _ z) (Nat.le_refl _) ?_, rfl, q _ (J5.hok.fresh (Nat.le_refl _))⟩
  exact ⟨by rw [List.length_reverse]; omega, its.reverse, rel.reverse, ⟨_, Heap.get?_push_size _ rfl, rfl, 0, rfl⟩⟩
section
variable {K : PySem.W.Frag} {σ : L2.St} {H : Hp} {Q : VK} {te : TE} {a : Addr} {xs : List V}
theorem r_backT0 (q : te σ H fun x H1 => rBackT K x H1 Q) : tBackT K te σ H Q := q
theorem r_backT (h : SqT K H a xs) (q : ∀ p H', Same H H' → H p = none → H' p = some (.tup xs.reverse) → Q (.ref p) H') : rBackT K (.ref a) H Q :=
  ⟨a, xs, rfl, h, fun p np => q p _ (same_new np) np upd_same⟩
/-- t[lo:hi], whatever its bounds: some tuple of these items -/
theorem r_slT {lo hi : Option Int} (h : SqT K H a xs) (q : ∀ p H', Same H H' → SqT K H' p (cutV xs lo hi) → Q (.ref p) H') : rSlA K (.ref a) lo hi H Q := by
  refine ⟨a, xs, rfl, h, fun w => ?_, fun _ p np => ?_⟩
  · refine q a H (Same.refl H) ?_
    have e : cutV xs lo hi = xs := by
      unfold cutV
      rw [w.1, w.2, List.drop_zero, Nat.sub_zero, List.take_length]
    rw [e]
    exact h
  · exact q p _ (same_new np) (sqt_of upd_same)
theorem r_catT {b : Addr} {ys : List V} (h : SqT K H a xs) (g : SqT K H b ys) (l : xs.length + ys.length ≤ sizeLine) (q : ∀ p H', Same H H' → SqT K H' p (xs ++ ys) → Q (.ref p) H') : rCatA K (.ref a) (.ref b) H Q := by
  refine ⟨a, b, xs, ys, rfl, rfl, h, g, l, fun e => ?_, fun _ e => ?_, fun _ _ p np => ?_⟩
  · subst e
    exact q b H (Same.refl H) g
  · subst e
    refine q a H (Same.refl H) ?_
    rw [List.append_nil]
    exact h
  · exact q p _ (same_new np) (sqt_of upd_same)
end
/-! loops by a test; lists that grow -/
section
variable {K : PySem.W.Frag} {σ : L2.St} {H H0 H' : Hp} {Q : VK} {D : Ends} {c : TT} {body : TS} {te to : TE} {t : TA} {l a : Addr} {xs ys : List V} {y v : V} {m : Nat} {W : Nat → L2.St → Hp → Prop}
def WL (W : Nat → L2.St → Hp → Prop) (m : Nat) (body : TS) (D : Ends) (σ : L2.St) (H : Hp) : Prop :=
  ∃ N : L2.St → Hp → Prop, (∀ σ' H', N σ' H' → ∃ m', m' < m ∧ W m' σ' H') ∧ body { D with nx := N, ct := N, bk := D.nx } σ H
theorem r_while (W : Nat → L2.St → Hp → Prop) (m0 : Nat) (h0 : W m0 σ H) (hs : ∀ m σ H, W m σ H → c σ H fun b H1 => if b = true then WL W m body D σ H1 else D.nx σ H1) : tWhile c body D σ H := ⟨W, ⟨m0, h0⟩, hs⟩
theorem r_wl (q : body { D with nx := fun σ' H' => ∃ m', m' < m ∧ W m' σ' H', ct := fun σ' H' => ∃ m', m' < m ∧ W m' σ' H', bk := D.nx } σ H) : WL W m body D σ H := ⟨_, fun _ _ h => h, q⟩
def BM (K : PySem.W.Frag) (T : String) (r : V → List V → Hp → VK → Prop) (t : TA) (σ : L2.St) (x : V) (H : Hp) (Q : VK) : Prop := tyV K T x H ∧ t σ H fun xs H2 => r x xs H2 Q
theorem r_bm {T : String} {r : V → List V → Hp → VK → Prop} (q : to σ H fun x H1 => BM K T r t σ x H1 Q) : tBM K T r to t σ H Q := q
theorem r_bmL {r : V → List V → Hp → VK → Prop} (h : SqL K H l ys) (q : t σ H fun xs H2 => r (.ref l) xs H2 Q) : BM K "list" r t σ (.ref l) H Q := ⟨.inl ⟨rfl, _, h⟩, q⟩
theorem r_grow (h : H l = some (.lst xs)) (z : xs.length < 16000000) (q : ∀ H', Kp l H H' → H' l = some (.lst (xs ++ [y])) → Q .non H') : rAppend (.ref l) [y] H Q := by
  have e : sizeLine = 16777216 := by decide
  exact ⟨l, xs, y, rfl, rfl, h, by omega, q _ Kp.put upd_same⟩
def rTupOf (K : PySem.W.Frag) : List V → Hp → VK → Prop := fun xs H Q => ∃ p ys, xs = [.ref p] ∧ ((SqL K H p ys ∧ ∀ l, H l = none → Q (.ref l) (upd H l (.tup ys))) ∨ (SqT K H p ys ∧ Q (.ref p) H))
theorem call_tupB {X : Cx} : CallR X (.type "tuple") (rTupOf X.K) := call_tuple_of
theorem r_tupL (h : SqL K H a ys) (q : ∀ p H', Same H H' → H p = none → H' p = some (.tup ys) → Q (.ref p) H') : rTupOf K [.ref a] H Q := ⟨a, ys, rfl, .inl ⟨h, fun p np => q p _ (same_new np) np upd_same⟩⟩
theorem Same.kp' (e : Same H0 H) (n : H0 l = none) (k : Kp l H H') : Same H0 H' := fun b o h => k b o (fun z => by rw [z, n] at h; cases h) (e b o h)
theorem SqT.kl {zs : List V} (hl : H l = some (.lst zs)) (k : Kp l H H') (h : SqT K H a xs) : SqT K H' a xs := by
  rcases h with (h | ⟨o, h⟩) | h
  · exact .inl (.inl (k _ _ (ne_of h hl (fun z => by cases z)) h))
  · exact .inl (.inr ⟨o, k _ _ (ne_of h hl (fun z => by cases z)) h⟩)
  · exact .inr h
theorem Draws.kl {p : Addr} {n : Nat} {zs : List V} (hl : H l = some (.lst zs)) (hc : ∀ c l' sd sp ns, DrawsAt K p n H c l' sd sp ns → c ≠ l) (k : Kp l H H') (h : Draws K p n H) : Draws K p n H' := by
  obtain ⟨c, l', sd, sp, ns, g⟩ := h
  exact ⟨c, l', sd, sp, ns, { g with at_ := k _ _ (ne_of g.at_ hl (fun z => by cases z)) g.at_, cells := SqL.same (fun o ho => k _ _ (hc _ _ _ _ _ g) ho) g.cells }⟩
end
/-- // by any divisor but 0, below 2 ^ 9000 -/
def CDivZ (_ j : Int) : Prop := j ≠ 0 ∧ j.natAbs.log2 < 9000
theorem op_fdivZ {X : Cx} : OpR X (binaryOp .FloorDiv) (rI CDivZ fun i j => .int (i.fdiv j)) := opI fun _ _ _ _ _ _ _ hc q => floordiv_int hc.1 q (.inl (PyProof.noPylong_of_log2 hc.2))
theorem CDivZ.of {n : Nat} {i j : Int} (h : j ≠ 0) (hb : Bt (n + 1) j) (l : n < 9000) : CDivZ i j := ⟨h, Nat.lt_of_le_of_lt hb.log l⟩
/-- powers, also of great numbers -/
def CPowB (i j : Int) : Prop := 0 ≤ j ∧ (Builtin.Int.intBits i : Int) * j ≤ 2 ^ 27
theorem op_powB {X : Cx} : OpR X (binaryOp .Pow) (rI CPowB fun i j => .int (i ^ j.toNat)) := opI fun _ _ _ _ _ _ _ hc q => pow_int hc.1 hc.2 q
section
variable {K : PySem.W.Frag} {σ : L2.St} {H : Hp} {D : Ends} {te : TE} {t u : TS}
theorem cl_tup {a L : Addr} {xs : List V} {g : TG} {tt : TT} {vs : List Nat} {Qd : Hp → Prop} (Pv : Nat → Hp → Prop) (h0 : Pv 0 (upd H L (.lst []))) (hl : ∀ i H, i ≤ xs.length → Pv i H → SqT K H a xs)
    (hs : ∀ i x H, xs[i]? = some x → Pv i H → g x (wipe σ vs) H fun σ2 H2 => wipe σ2 vs = wipe σ vs ∧ tt σ2 H2 fun b H3 => if b = true then te σ2 H3 fun y H4 => ∃ acc, H4 L = some (.lst acc) ∧ acc.length < sizeLine ∧ Pv (i + 1) (upd H4 L (.lst (acc ++ [y]))) else Pv (i + 1) H3)
    (hd : ∀ H, Pv xs.length H → Qd H) : CL (Itt K a) g tt te vs L σ Qd H := lc_tup Pv h0 hl hs hd
/-- a word between two statements -/
theorem r_cut (Mid : L2.St → Hp → Prop) (h : t { D with nx := Mid } σ H) (q : ∀ σ' H', Mid σ' H' → u D σ' H') : Evl.tCut t u D σ H := ⟨Mid, h, q⟩
end
theorem at_neg1 {xs : List V} {v : V} (h : xs[xs.length - 1]? = some v) : atI xs (-1) = some v := by
  cases e : xs.reverse with
  | nil =>
    have : xs = [] := by simpa using e
    subst this
    simp at h
  | cons z r =>
    have e2 : xs = r.reverse ++ [z] := by
      have := congrArg List.reverse e
      simpa using this
    subst e2
    rw [List.length_append, List.length_singleton, Nat.add_sub_cancel, List.getElem?_append_right (Nat.le_refl _), Nat.sub_self] at h
    rw [← Option.some.inj h]
    exact atI_last _ _
theorem at_neg2 {xs : List V} {u v : V} : atI (xs ++ [u, v]) (-2) = some u := by
  unfold atI
  have e : ixN (xs ++ [u, v]).length (-2) = some xs.length := by
    unfold ixN
    rw [List.length_append]
    show _ = _
    simp
    omega
  rw [e]
  show (xs ++ [u, v])[xs.length]? = some u
  rw [List.getElem?_append_right (Nat.le_refl _), Nat.sub_self]
  rfl
end GB
namespace GB
open PySem PySem.Spec PyProof.Rows L2
/-! readings inside a comprehension: what is locked told by name -/
section
variable {X : Cx} {K : PySem.W.Frag}
theorem ix_listK (e : X.K = K) : IxR X (rIxL K) := e ▸ ix_list
theorem ix_tupK (e : X.K = K) : IxR X (rIxT K) := e ▸ ix_tup
theorem sl_listK (e : X.K = K) : SlR X (rSlL K) := e ▸ sl_list
theorem sl_tupAK (e : X.K = K) : SlR X (rSlA K) := e ▸ sl_tupA
theorem op_catAK (e : X.K = K) : OpR X (binaryOp .Add) (rCatA K) := e ▸ op_catA
theorem call_lenBK (e : X.K = K) : CallR X (.builtin "len") (rLenB K) := e ▸ call_lenB
theorem call_tupBK (e : X.K = K) : CallR X (.type "tuple") (rTupOf K) := e ▸ call_tupB
theorem op_eqDK (hu : X.A.units + 64 < cLine) (e : X.K = K) : OpR X (compareOp .Eq) (rEqD K) := e ▸ op_eqD hu
theorem op_neDK (hu : X.A.units + 64 < cLine) (e : X.K = K) : OpR X (compareOp .NotEq) (rNeD K) := e ▸ op_neD hu
end
/-! what draws change: the dict of the draws alone, its cells stay where they are -/
def Kd (p : Addr) (H H' : Hp) : Prop := Kp p H H' ∧ ∀ l sd c sp, H p = some (.dK (Mk l sd c sp)) → ∃ l' sd' sp', H' p = some (.dK (Mk l' sd' c sp'))
theorem Kd.refl (p : Addr) (H : Hp) : Kd p H H := ⟨Kp.refl p H, fun l sd c sp h => ⟨l, sd, sp, h⟩⟩
theorem Kd.trans {p : Addr} {H H1 H2 : Hp} (a : Kd p H H1) (b : Kd p H1 H2) : Kd p H H2 :=
  ⟨a.1.trans b.1, fun l sd c sp h => let ⟨l1, sd1, sp1, h1⟩ := a.2 l sd c sp h; b.2 l1 sd1 c sp1 h1⟩
theorem Kd.of {p : Addr} {H H' : Hp} (h : Same H H') : Kd p H H' := ⟨Kp.of h, fun l sd c sp e => ⟨l, sd, sp, h _ _ e⟩⟩
theorem Mk_cells {l sd sp l' sd' sp' : Int} {c c' : Addr} (h : Mk l sd c sp = Mk l' sd' c' sp') : c = c' := by
  unfold Mk at h
  injection h with _ h
  injection h with _ h
  injection h with h _
  injection h with _ h
  exact V.ref.inj h
theorem Kd.put {p c : Addr} {H : Hp} {l sd sp l' sd' sp' : Int} (h : H p = some (.dK (Mk l sd c sp))) : Kd p H (upd H p (.dK (Mk l' sd' c sp'))) :=
  ⟨Kp.put, fun l1 sd1 c1 sp1 h1 => by
    rw [h] at h1
    have e : c = c1 := Mk_cells (HO.dK.inj (Option.some.inj h1))
    subst e
    exact ⟨l', sd', sp', upd_same⟩⟩
section
variable {K : PySem.W.Frag} {p c L : Addr} {n n' : Nat} {H H' : Hp} {l sd sp : Int} {ns : List Int}
/-- the draws of a later heap, told with the cells of an earlier one -/
theorem DrawsAt.keep (d : DrawsAt K p n H c l sd sp ns) (k : Kd p H H') (h : Draws K p n' H') : ∃ l' sd' sp', DrawsAt K p n' H' c l' sd' sp' ns := by
  obtain ⟨c', l', sd', sp', ns', d'⟩ := h
  obtain ⟨l2, sd2, sp2, e2⟩ := k.2 _ _ _ _ d.at_
  have at' := d'.at_
  rw [e2] at at'
  have e : c = c' := Mk_cells (HO.dK.inj (Option.some.inj at'))
  subst e
  exact ⟨l', sd', sp', { d' with cells := SqL.kp d.at_ k.1 d.cells, some_ := d.some_, few := d.few, bits := d.bits }⟩
theorem DrawsAt.all (d : DrawsAt K p n H c l sd sp ns) : Draws K p n H := ⟨_, _, _, _, _, d⟩
theorem DrawsAt.same (d : DrawsAt K p n H c l sd sp ns) (k : Same H H') : DrawsAt K p n H' c l sd sp ns := { d with at_ := k _ _ d.at_, cells := k.seq d.cells }
theorem DrawsAt.mono (d : DrawsAt K p n H c l sd sp ns) (k : n ≤ n') : DrawsAt K p n' H c l sd sp ns := { d with p1 := by have := d.p1; omega }
/-- a list that is not at L, or not of this heap -/
def Apart (K : PySem.W.Frag) (L a : Addr) (xs : List V) : Prop := a ≠ L ∨ ∀ H : Hp, SqL K H a xs
theorem Apart.of {a : Addr} {xs : List V} (h : SqL K H a xs) (n : H L = none) : Apart K L a xs := by
  rcases h with (h | ⟨o, h⟩) | h
  · exact .inl (ne_of_none h n)
  · exact .inl (ne_of_none h n)
  · exact .inr fun _ => .inr h
theorem Apart.put {a : Addr} {xs : List V} {o : HO} (z : Apart K L a xs) (h : SqL K H a xs) : SqL K (upd H L o) a xs := by
  rcases z with z | z
  · exact SqL.same (fun u hu => by rw [upd_ne z]; exact hu) h
  · exact z _
theorem DrawsAt.put {o : HO} (d : DrawsAt K p n H c l sd sp ns) (z : Apart K L c (ns.map V.int)) (hp : p ≠ L) : DrawsAt K p n (upd H L o) c l sd sp ns :=
  { d with at_ := by rw [upd_ne hp]; exact d.at_, cells := z.put d.cells }
theorem DrawsAt.kl {xs : List V} (d : DrawsAt K p n H c l sd sp ns) (z : Apart K L c (ns.map V.int)) (hl : H L = some (.lst xs)) (k : Kp L H H') : DrawsAt K p n H' c l sd sp ns :=
  { d with at_ := k _ _ (ne_of d.at_ hl (fun z => by cases z)) d.at_, cells := z.elim (fun z => SqL.same (fun u hu => k _ _ z hu) d.cells) (fun z => z _) }
end
def spDrawD (K : PySem.W.Frag) : Sp := fun vs H Q _ => ∃ (p : Addr) (b : Int) (n : Nat), vs = [.ref p, .int b] ∧ Draws K p n H ∧ n ≤ 1000000000000 ∧ 0 < b ∧ Bt 8999 b ∧
  ∀ v H', 0 ≤ v → v < b → Kd p H H' → Draws K p (n + 1) H' → Q (.int v) H'
def spOfD (K : PySem.W.Frag) : Sp := fun vs H Q _ => ∃ (p a : Addr) (n : Nat) (xs : List V), vs = [.ref p, .ref a] ∧ Draws K p n H ∧ n ≤ 1000000000000 ∧ SqL K H a xs ∧ xs ≠ [] ∧ xs.length ≤ sizeLine ∧
  ∀ (i : Nat) (v : V) H', xs[i]? = some v → Kd p H H' → Draws K p (n + 1) H' → Q v H'
end GB
namespace M15
/-! chains of quotients, in plain numbers -/
def cL (a : Int) (b : Nat) : List Int := if b = 0 then [] else (a / (b : Int)) :: cL (b : Int) (a % (b : Int)).toNat
termination_by b
decreasing_by
  have h1 := Int.emod_nonneg a (b := (b : Int)) (by omega)
  have h2 := Int.emod_lt_of_pos a (b := (b : Int)) (by omega)
  omega
theorem cL_zero (a : Int) : cL a 0 = [] := by rw [cL, if_pos rfl]
theorem cL_step {a : Int} {b : Nat} (h : b ≠ 0) : cL a b = (a / (b : Int)) :: cL (b : Int) (a % (b : Int)).toNat := by rw [cL, if_neg h]
theorem mod_bd {a : Int} {b : Nat} (h : b ≠ 0) : 0 ≤ a % (b : Int) ∧ a % (b : Int) < b :=
  ⟨Int.emod_nonneg a (by omega), Int.emod_lt_of_pos a (by omega)⟩
theorem cL_len : ∀ (n : Nat) (a : Int) (b : Nat), b < 2 ^ n → (cL a b).length ≤ 2 * n
  | 0, a, b, h => by
    have : b = 0 := by simpa using h
    subst this
    rw [cL_zero]
    exact Nat.le_refl _
  | n + 1, a, b, h => by
    by_cases hb : b = 0
    · subst hb
      rw [cL_zero]
      exact Nat.zero_le _
    · rw [cL_step hb, List.length_cons]
      have m := mod_bd (a := a) hb
      generalize hr : (a % (b : Int)).toNat = r
      have rb : r < b := by omega
      by_cases hr0 : r = 0
      · rw [hr0, cL_zero, List.length_nil]
        omega
      · rw [cL_step hr0, List.length_cons]
        have m2 := mod_bd (a := (b : Int)) hr0
        have d := Int.mul_ediv_add_emod (b : Int) (r : Int)
        have q1 : 1 ≤ (b : Int) / (r : Int) := (Int.le_ediv_iff_mul_le (by omega)).mpr (by omega)
        have q2 : (r : Int) * 1 ≤ (r : Int) * ((b : Int) / (r : Int)) := Int.mul_le_mul_of_nonneg_left q1 (by omega)
        have p2 : 2 ^ (n + 1) = 2 * 2 ^ n := by rw [Nat.pow_succ]; omega
        have ih := cL_len n (r : Int) ((b : Int) % (r : Int)).toNat (by omega)
        omega
/-- the value of a row from its end -/
def fd : List Int → Int × Int
  | [] => (1, 0)
  | a :: r => (a * (fd r).1 + (fd r).2, (fd r).1)
/-- a step from the front -/
structure St4 where
  p : Int
  pa : Int
  q : Int
  qa : Int
def step4 (s : St4) (x : Int) : St4 := ⟨x * s.p + s.pa, s.p, x * s.q + s.qa, s.q⟩
def run4 (s : St4) (r : List Int) : St4 := r.foldl step4 s
theorem run4_fd : ∀ (r : List Int) (s : St4), (run4 s r).p = s.p * (fd r).1 + s.pa * (fd r).2 ∧ (run4 s r).q = s.q * (fd r).1 + s.qa * (fd r).2
  | [], s => by
    show s.p = s.p * 1 + s.pa * 0 ∧ s.q = s.q * 1 + s.qa * 0
    omega
  | a :: r, s => by
    have ih := run4_fd r (step4 s a)
    show (run4 (step4 s a) r).p = s.p * (a * (fd r).1 + (fd r).2) + s.pa * (fd r).1 ∧ (run4 (step4 s a) r).q = s.q * (a * (fd r).1 + (fd r).2) + s.qa * (fd r).1
    rw [ih.1, ih.2]
    constructor <;> simp only [step4] <;> grind
def s0 : St4 := ⟨1, 0, 0, 1⟩
theorem run_p (r : List Int) : (run4 s0 r).p = (fd r).1 := by
  have h := (run4_fd r s0).1
  rw [h]
  show 1 * (fd r).1 + 0 * (fd r).2 = _
  omega
theorem run_q (r : List Int) : (run4 s0 r).q = (fd r).2 := by
  have h := (run4_fd r s0).2
  rw [h]
  show 0 * (fd r).1 + 1 * (fd r).2 = _
  omega
theorem run_snoc (s : St4) (r : List Int) (x : Int) : run4 s (r ++ [x]) = step4 (run4 s r) x := by
  unfold run4
  rw [List.foldl_append]
  rfl
/-- the determinant -/
def sg (n : Nat) : Int := if n % 2 = 0 then 1 else -1
theorem sg_succ (n : Nat) : sg (n + 1) = - sg n := by
  unfold sg
  by_cases h : n % 2 = 0
  · rw [if_pos h, if_neg (by omega)]
  · rw [if_neg h, if_pos (by omega)]
    rfl
theorem det4 : ∀ (r : List Int) (s : St4), (run4 s r).p * (run4 s r).qa - (run4 s r).pa * (run4 s r).q = sg r.length * (s.p * s.qa - s.pa * s.q)
  | [], s => by
    show s.p * s.qa - s.pa * s.q = sg 0 * _
    have : sg 0 = 1 := rfl
    rw [this]
    omega
  | a :: r, s => by
    have ih := det4 r (step4 s a)
    show (run4 (step4 s a) r).p * (run4 (step4 s a) r).qa - (run4 (step4 s a) r).pa * (run4 (step4 s a) r).q = _
    rw [ih, List.length_cons, sg_succ]
    simp only [step4]
    grind
/-! rows whose entries from the second on are at least 1 -/
def Ones (t : List Int) : Prop := ∀ x ∈ t, 1 ≤ x
theorem fd_ones : ∀ t : List Int, Ones t → 1 ≤ (fd t).1 ∧ 0 ≤ (fd t).2 ∧ (fd t).2 ≤ (fd t).1 ∧ (t ≠ [] → 1 ≤ (fd t).2) ∧ (2 ≤ t.length → (fd t).2 < (fd t).1)
  | [], _ => by
    refine ⟨by decide, by decide, by decide, fun h => absurd rfl h, fun h => absurd h (by decide)⟩
  | b :: t, h => by
    have hb : 1 ≤ b := h b List.mem_cons_self
    have ih := fd_ones t fun x hx => h x (List.mem_cons_of_mem _ hx)
    have m : 1 * (fd t).1 ≤ b * (fd t).1 := Int.mul_le_mul_of_nonneg_right hb (by omega)
    show 1 ≤ b * (fd t).1 + (fd t).2 ∧ 0 ≤ (fd t).1 ∧ (fd t).1 ≤ b * (fd t).1 + (fd t).2 ∧ (_ → 1 ≤ (fd t).1) ∧ (_ → (fd t).1 < b * (fd t).1 + (fd t).2)
    refine ⟨by omega, by omega, by omega, fun _ => by omega, fun hl => ?_⟩
    have : t ≠ [] := fun z => by
      rw [z] at hl
      simp at hl
    have := ih.2.2.2.1 this
    omega
def norm : List Int → List Int
  | [] => []
  | [a] => [a]
  | [a, b] => if b = 1 then [a + 1] else [a, b]
  | a :: b :: c :: r => a :: norm (b :: c :: r)
theorem cL_one (a : Int) : cL a 1 = [a] := by
  rw [cL_step (by decide)]
  have e : (a % ((1 : Nat) : Int)).toNat = 0 := by omega
  rw [e, cL_zero]
  have e2 : a / ((1 : Nat) : Int) = a := by omega
  rw [e2]
theorem div_mod_of {a u v : Int} (h0 : 0 ≤ v) (h1 : v < u) : (a * u + v) / u = a ∧ (a * u + v) % u = v := by
  constructor
  · rw [Int.add_comm, Int.add_mul_ediv_right _ _ (by omega), Int.ediv_eq_zero_of_lt h0 h1]
    omega
  · rw [Int.add_comm, Int.add_mul_emod_self_right]
    exact Int.emod_eq_of_lt h0 h1
theorem cL_fd : ∀ (t : List Int) (a : Int), Ones t → cL (fd (a :: t)).1 (fd (a :: t)).2.toNat = norm (a :: t)
  | [], a, _ => by
    show cL (a * 1 + 0) (Int.toNat 1) = [a]
    have e : a * 1 + 0 = a := by omega
    rw [e]
    exact cL_one a
  | [b], a, h => by
    have hb : 1 ≤ b := h b List.mem_cons_self
    show cL (a * (b * 1 + 0) + 1) (b * 1 + 0).toNat = if b = 1 then [a + 1] else [a, b]
    have e : b * 1 + 0 = b := by omega
    rw [e]
    by_cases h1 : b = 1
    · subst h1
      rw [if_pos rfl]
      have e : a * 1 + 1 = a + 1 := by omega
      rw [e]
      exact cL_one _
    · rw [if_neg h1, cL_step (by omega)]
      have eb : ((b.toNat : Nat) : Int) = b := by omega
      rw [eb]
      have d := div_mod_of (a := a) (u := b) (v := 1) (by omega) (by omega)
      rw [d.1, d.2]
      have e3 := cL_one b
      exact congrArg (a :: ·) e3
  | b :: c :: r, a, h => by
    have f := fd_ones (b :: c :: r) h
    have lt := f.2.2.2.2 (by simp)
    show cL (a * (fd (b :: c :: r)).1 + (fd (b :: c :: r)).2) ((fd (b :: c :: r)).1).toNat = a :: norm (b :: c :: r)
    rw [cL_step (by omega)]
    have eu : (((fd (b :: c :: r)).1.toNat : Nat) : Int) = (fd (b :: c :: r)).1 := by omega
    rw [eu]
    have d := div_mod_of (a := a) f.2.1 lt
    rw [d.1, d.2, cL_fd (c :: r) b fun x hx => h x (List.mem_cons_of_mem _ hx)]
/-- how great the values are -/
theorem fd_big (c : Nat) : ∀ r : List Int, (∀ x ∈ r, x.natAbs + 1 ≤ 2 ^ c) → (fd r).1.natAbs ≤ 2 ^ (c * r.length) ∧ (fd r).2.natAbs ≤ 2 ^ (c * r.length)
  | [], _ => by
    show (1 : Int).natAbs ≤ 2 ^ (c * 0) ∧ (0 : Int).natAbs ≤ 2 ^ (c * 0)
    rw [Nat.mul_zero]
    decide
  | a :: r, h => by
    have ih := fd_big c r fun x hx => h x (List.mem_cons_of_mem _ hx)
    have ha := h a List.mem_cons_self
    have e : 2 ^ (c * (a :: r).length) = 2 ^ c * 2 ^ (c * r.length) := by rw [List.length_cons, Nat.mul_add, Nat.mul_one, Nat.pow_add, Nat.mul_comm]
    have pos : 1 ≤ 2 ^ c := Nat.one_le_two_pow
    have p0 : 0 < 2 ^ (c * r.length) := Nat.two_pow_pos _
    show (a * (fd r).1 + (fd r).2).natAbs ≤ _ ∧ (fd r).1.natAbs ≤ _
    rw [e]
    have m1 : (a * (fd r).1).natAbs = a.natAbs * (fd r).1.natAbs := Int.natAbs_mul _ _
    have m2 : a.natAbs * (fd r).1.natAbs ≤ a.natAbs * 2 ^ (c * r.length) := Nat.mul_le_mul_left _ ih.1
    have m3 : (a.natAbs + 1) * 2 ^ (c * r.length) ≤ 2 ^ c * 2 ^ (c * r.length) := Nat.mul_le_mul_right _ ha
    have m4 : 1 * 2 ^ (c * r.length) ≤ 2 ^ c * 2 ^ (c * r.length) := Nat.mul_le_mul_right _ pos
    rw [Nat.add_mul] at m3
    omega
/-- the value of the chain of a ratio is the ratio in lowest terms -/
theorem fd_cL : ∀ (n : Nat) (y : Nat) (x : Int), y ≤ n → (0 < y ∨ 0 ≤ x) → (fd (cL x y)).1 * (Int.gcd x y : Int) = x ∧ (fd (cL x y)).2 * (Int.gcd x y : Int) = (y : Int)
  | n, 0, x, _, h => by
    rw [cL_zero]
    have e : ((Int.gcd x ((0 : Nat) : Int) : Nat) : Int) = x := by
      show ((Int.gcd x 0 : Nat) : Int) = x
      rw [Int.gcd_zero_right]
      omega
    show 1 * _ = x ∧ 0 * _ = ((0 : Nat) : Int)
    rw [e]
    omega
  | n + 1, y + 1, x, hy, _ => by
    rw [cL_step (by omega)]
    have m := mod_bd (a := x) (b := y + 1) (by omega)
    have d := Int.mul_ediv_add_emod x ((y + 1 : Nat) : Int)
    generalize hr : (x % ((y + 1 : Nat) : Int)).toNat = r
    have er : x % ((y + 1 : Nat) : Int) = (r : Int) := by omega
    have ih := fd_cL n r ((y + 1 : Nat) : Int) (by omega) (.inr (by omega))
    have g : Int.gcd x ((y + 1 : Nat) : Int) = Int.gcd ((y + 1 : Nat) : Int) (r : Int) := by
      rw [er] at d
      rw [← d, Int.gcd_mul_left_add_left, Int.gcd_comm]
    rw [g]
    generalize x / ((y + 1 : Nat) : Int) = q at d ⊢
    generalize Int.gcd ((y + 1 : Nat) : Int) (r : Int) = gg at ih ⊢
    rw [er] at d
    show (q * (fd (cL ((y + 1 : Nat) : Int) r)).1 + (fd (cL ((y + 1 : Nat) : Int) r)).2) * (gg : Int) = x ∧ (fd (cL ((y + 1 : Nat) : Int) r)).1 * (gg : Int) = _
    refine ⟨?_, ih.1⟩
    have h1 := ih.1
    have h2 := ih.2
    generalize (fd (cL ((y + 1 : Nat) : Int) r)).1 = u at h1 h2 ⊢
    generalize (fd (cL ((y + 1 : Nat) : Int) r)).2 = v at h1 h2 ⊢
    rw [← d, ← h1, ← h2]
    grind
/-- a value told by neighbours: no ratio with a lesser denominator is as near -/
theorem nearer {p pa q qa u v d n : Int} (D : p * qa - pa * q = 1 ∨ p * qa - pa * q = -1) (hu : 1 ≤ u) (hv : 0 ≤ v) (hvu : v ≤ u) (hq : 1 ≤ q) (hqa : 0 ≤ qa) (d0 : 1 ≤ d) (dq : d < q) :
    ((((p * u + pa * v) * q - p * (q * u + qa * v)).natAbs : Nat) : Int) * d < ((((p * u + pa * v) * d - n * (q * u + qa * v)).natAbs : Nat) : Int) * q := by
  have e1 : (p * u + pa * v) * q - p * (q * u + qa * v) = -(v * (p * qa - pa * q)) := by grind
  have e2 : (p * u + pa * v) * d - n * (q * u + qa * v) = u * (p * d - n * q) + v * (pa * d - n * qa) := by grind
  have e3 : q * (pa * d - n * qa) - qa * (p * d - n * q) = -((p * qa - pa * q) * d) := by grind
  have a1 : ((((p * u + pa * v) * q - p * (q * u + qa * v)).natAbs : Nat) : Int) = v := by
    rw [e1]
    rcases D with h | h <;> rw [h] <;> omega
  rw [a1, e2]
  generalize hX : p * d - n * q = X at e3 ⊢
  generalize hY : pa * d - n * qa = Y at e3 ⊢
  have d' : q * Y - qa * X = d ∨ q * Y - qa * X = -d := by
    rcases D with h | h
    · right; rw [e3, h]; omega
    · left; rw [e3, h]; omega
  -- v d < u q
  have w1 : v * d ≤ u * d := Int.mul_le_mul_of_nonneg_right hvu (by omega)
  have w2 : u * d < u * q := Int.mul_lt_mul_of_pos_left dq (by omega)
  have w3 : v * d ≤ v * q := Int.mul_le_mul_of_nonneg_left (by omega) hv
  have fin : ∀ Z : Int, u ≤ Z → v * d < Z * q := fun Z hZ => by
    have : u * q ≤ Z * q := Int.mul_le_mul_of_nonneg_right hZ (by omega)
    omega
  apply fin
  -- |uX + vY| is at least u
  have uX : ∀ {x : Int}, 1 ≤ x → u ≤ u * x := fun {x} hx => by
    have := Int.mul_le_mul_of_nonneg_left hx (show 0 ≤ u by omega)
    omega
  have vY : ∀ {y : Int}, 0 ≤ y → 0 ≤ v * y := fun hy => Int.mul_nonneg hv hy
  have qY : ∀ {y : Int}, 1 ≤ y → q ≤ q * y := fun {y} hy => by
    have := Int.mul_le_mul_of_nonneg_left hy (show 0 ≤ q by omega)
    omega
  have aX : ∀ {x : Int}, 0 ≤ x → 0 ≤ qa * x := fun hx => Int.mul_nonneg hqa hx
  rcases Int.lt_trichotomy X 0 with hx | hx | hx
  · rcases Int.lt_trichotomy Y 0 with hy | hy | hy
    · have h1 := uX (x := -X) (by omega)
      have h2 := vY (y := -Y) (by omega)
      rw [Int.mul_neg] at h1 h2
      omega
    · subst hy
      have h1 := uX (x := -X) (by omega)
      rw [Int.mul_neg] at h1
      rw [Int.mul_zero]
      omega
    · have h1 := qY (y := Y) (by omega)
      have h2 := aX (x := -X) (by omega)
      rw [Int.mul_neg] at h2
      omega
  · subst hx
    rw [Int.mul_zero, Int.sub_zero] at d'
    rcases Int.lt_trichotomy Y 0 with hy | hy | hy
    · have h1 := qY (y := -Y) (by omega)
      rw [Int.mul_neg] at h1
      omega
    · subst hy
      rw [Int.mul_zero] at d'
      omega
    · have h1 := qY (y := Y) (by omega)
      omega
  · rcases Int.lt_trichotomy Y 0 with hy | hy | hy
    · have h1 := qY (y := -Y) (by omega)
      have h2 := aX (x := X) (by omega)
      rw [Int.mul_neg] at h1
      omega
    · subst hy
      have h1 := uX (x := X) (by omega)
      rw [Int.mul_zero]
      omega
    · have h1 := uX (x := X) (by omega)
      have h2 := vY (y := Y) (by omega)
      omega
/-! the greatest common part by halving -/
theorem odd_coprime {b : Nat} (h : b % 2 = 1) : Nat.Coprime 2 b := by
  show Nat.gcd 2 b = 1
  rw [Nat.gcd_rec, h]
  rfl
theorem half_left {a b : Nat} (ha : a % 2 = 0) (hb : b % 2 = 1) : Nat.gcd (a / 2) b = Nat.gcd a b := by
  have e : a = 2 * (a / 2) := by omega
  have h := (odd_coprime hb).gcd_mul_left_cancel (a / 2)
  rw [← e] at h
  exact h.symm
theorem half_right {a b : Nat} (ha : a % 2 = 1) (hb : b % 2 = 0) : Nat.gcd a (b / 2) = Nat.gcd a b := by
  rw [Nat.gcd_comm, half_left hb ha, Nat.gcd_comm]
theorem half_sub {a b : Nat} (ha : a % 2 = 1) (hb : b % 2 = 1) (l : b < a) : Nat.gcd ((a - b) / 2) b = Nat.gcd a b := by
  rw [half_left (by omega) hb, Nat.gcd_comm, Nat.gcd_sub_self_right (by omega), Nat.gcd_comm]
theorem half_sub' {a b : Nat} (ha : a % 2 = 1) (hb : b % 2 = 1) (l : a < b) : Nat.gcd a ((b - a) / 2) = Nat.gcd a b := by
  rw [Nat.gcd_comm, half_sub hb ha l, Nat.gcd_comm]
theorem half_both {a b : Nat} (ha : a % 2 = 0) (hb : b % 2 = 0) : 2 * Nat.gcd (a / 2) (b / 2) = Nat.gcd a b := by
  have e : a = 2 * (a / 2) := by omega
  have e2 : b = 2 * (b / 2) := by omega
  have h := Nat.gcd_mul_left 2 (a / 2) (b / 2)
  rw [← e, ← e2] at h
  exact h.symm
/-- the last convergent's parts have no common part -/
theorem fd_coprime (r : List Int) : Int.gcd (fd r).1 (fd r).2 = 1 := by
  have h := det4 r s0
  rw [run_p, run_q] at h
  have e : s0.p * s0.qa - s0.pa * s0.q = 1 := rfl
  rw [e, Int.mul_one] at h
  have dv : ((Int.gcd (fd r).1 (fd r).2 : Nat) : Int) ∣ sg r.length := by
    rw [← h]
    refine Int.dvd_sub (Int.dvd_trans (Int.gcd_dvd_left ..) (Int.dvd_mul_right _ _)) ?_
    exact Int.dvd_trans (Int.gcd_dvd_right ..) (Int.dvd_mul_left _ _)
  have one : ((Int.gcd (fd r).1 (fd r).2 : Nat) : Int) ∣ 1 := by
    unfold sg at dv
    split at dv
    · exact dv
    · exact (Int.dvd_neg).mp dv
  have := Int.eq_one_of_dvd_one (by omega) one
  omega
end M15
namespace M15
theorem norm_cons {a : Int} {l : List Int} (h : 2 ≤ l.length) : norm (a :: l) = a :: norm l := by
  match l, h with
  | b :: c :: r, _ => rfl
theorem norm_snoc (u v : Int) : ∀ b : List Int, norm (b ++ [u, v]) = if v = 1 then b ++ [u + 1] else b ++ [u, v]
  | [] => rfl
  | a :: r => by
    have h := norm_snoc u v r
    rw [List.cons_append, norm_cons (by rw [List.length_append]; exact Nat.le_add_left _ _), h]
    by_cases hv : v = 1
    · rw [if_pos hv, if_pos hv]
      rfl
    · rw [if_neg hv, if_neg hv]
theorem norm_short {r : List Int} (h : r.length = 1) : norm r = r := by
  match r, h with
  | [a], _ => rfl
theorem two_last {r : List Int} (h : 2 ≤ r.length) : ∃ b u v, r = b ++ [u, v] := by
  obtain ⟨x, s, e⟩ : ∃ x s, r.reverse = x :: s := by
    cases q : r.reverse with
    | nil =>
      have := congrArg List.length q
      rw [List.length_reverse, List.length_nil] at this
      omega
    | cons x s => exact ⟨x, s, rfl⟩
  obtain ⟨y, t, e2⟩ : ∃ y t, s = y :: t := by
    cases s with
    | nil =>
      have := congrArg List.length e
      rw [List.length_reverse, List.length_cons, List.length_nil] at this
      omega
    | cons y t => exact ⟨y, t, rfl⟩
  subst e2
  refine ⟨t.reverse, y, x, ?_⟩
  have := congrArg List.reverse e
  rw [List.reverse_reverse] at this
  rw [this]
  simp
theorem norm_len (r : List Int) : (norm r).length ≤ r.length := by
  by_cases h : 2 ≤ r.length
  · obtain ⟨b, u, v, rfl⟩ := two_last h
    rw [norm_snoc]
    by_cases hv : v = 1
    · rw [if_pos hv]
      simp
    · rw [if_neg hv]
      exact Nat.le_refl _
  · match r, h with
    | [], _ => exact Nat.le_refl _
    | [a], _ => exact Nat.le_refl _
    | a :: b :: t, h => exact absurd (show 2 ≤ (a :: b :: t).length by simp) h
theorem norm_big {m : Nat} {r : List Int} (h : ∀ x ∈ r, x.natAbs + 1 ≤ m) : ∀ x ∈ norm r, x.natAbs ≤ m := by
  by_cases h2 : 2 ≤ r.length
  · obtain ⟨b, u, v, rfl⟩ := two_last h2
    rw [norm_snoc]
    by_cases hv : v = 1
    · rw [if_pos hv]
      intro x hx
      rcases List.mem_append.mp hx with z | z
      · have := h x (List.mem_append_left _ z)
        omega
      · have e := List.mem_singleton.mp z
        have := h u (List.mem_append_right _ (by simp))
        subst e
        omega
    · rw [if_neg hv]
      intro x hx
      have := h x hx
      omega
  · match r, h2, h with
    | [], _, _ => exact fun x hx => (List.not_mem_nil hx).elim
    | [a], _, h =>
      intro x hx
      have := h x hx
      omega
    | a :: b :: t, h2, _ => exact absurd (show 2 ≤ (a :: b :: t).length by simp) h2
theorem run_at {r : List Int} {k : Nat} (h : k < r.length) : run4 s0 (r.take (k + 1)) = ⟨(fd (r.take (k + 1))).1, (fd (r.take k)).1, (fd (r.take (k + 1))).2, (fd (r.take k)).2⟩ := by
  have hz : r[k]? = some r[k] := List.getElem?_eq_getElem h
  have e : run4 s0 (r.take (k + 1)) = step4 (run4 s0 (r.take k)) r[k] := by
    rw [List.take_add_one, hz]
    exact run_snoc _ _ _
  have e1 := run_p (r.take (k + 1))
  have e2 := run_q (r.take (k + 1))
  have e3 := run_p (r.take k)
  have e4 := run_q (r.take k)
  rw [← e1, ← e2, ← e3, ← e4, e]
  rfl
theorem det_heads {r : List Int} {k : Nat} (h : k < r.length) : (fd (r.take (k + 1))).1 * (fd (r.take k)).2 - (fd (r.take k)).1 * (fd (r.take (k + 1))).2 = sg (k + 1) := by
  have d := det4 (r.take (k + 1)) s0
  rw [run_at h] at d
  have e : s0.p * s0.qa - s0.pa * s0.q = 1 := rfl
  rw [e, Int.mul_one, List.length_take, Nat.min_eq_left (by omega)] at d
  exact d
theorem sg_two (n : Nat) : sg (n + 2) = sg n := by
  rw [sg_succ, sg_succ, Int.neg_neg]
theorem sg_cases (n : Nat) : sg n = 1 ∨ sg n = -1 := by
  unfold sg
  by_cases h : n % 2 = 0
  · exact .inl (if_pos h)
  · exact .inr (if_neg h)
theorem far_heads {x0 : Int} {t : List Int} {i : Nat} (ht : Ones t) (hi : i + 1 < (x0 :: t).length) : ∀ d n : Int, 1 ≤ d → d < (fd ((x0 :: t).take (i + 1 + 1))).2 →
    ((((fd (x0 :: t)).1 * (fd ((x0 :: t).take (i + 1 + 1))).2 - (fd ((x0 :: t).take (i + 1 + 1))).1 * (fd (x0 :: t)).2).natAbs : Nat) : Int) * d < ((((fd (x0 :: t)).1 * d - n * (fd (x0 :: t)).2).natAbs : Nat) : Int) * (fd ((x0 :: t).take (i + 1 + 1))).2 := by
  intro d n d0 dq
  have ra := run_at hi
  have f := run4_fd ((x0 :: t).drop (i + 1 + 1)) (run4 s0 ((x0 :: t).take (i + 1 + 1)))
  have sp : run4 (run4 s0 ((x0 :: t).take (i + 1 + 1))) ((x0 :: t).drop (i + 1 + 1)) = run4 s0 (x0 :: t) := by
    unfold run4
    rw [← List.foldl_append, List.take_append_drop]
  rw [sp, run_p, run_q, ra] at f
  have o := fd_ones ((x0 :: t).drop (i + 1 + 1)) fun x hx => ht x (List.mem_of_mem_drop (by rw [List.drop_succ_cons] at hx; exact hx))
  have q1 : 0 ≤ (fd ((x0 :: t).take (i + 1))).2 := by
    rw [List.take_succ_cons]
    have := fd_ones (t.take i) fun x hx => ht x (List.mem_of_mem_take hx)
    show 0 ≤ (fd (t.take i)).1
    omega
  have D := det_heads hi
  rw [f.1, f.2]
  have sc := sg_cases (i + 1 + 1)
  exact nearer (by
    show (fd ((x0 :: t).take (i + 1 + 1))).1 * (fd ((x0 :: t).take (i + 1))).2 - (fd ((x0 :: t).take (i + 1))).1 * (fd ((x0 :: t).take (i + 1 + 1))).2 = 1 ∨ _ = -1
    rw [D]
    exact sc) o.1 o.2.1 o.2.2.1 (show 1 ≤ (fd ((x0 :: t).take (i + 1 + 1))).2 by omega) q1 d0 dq
theorem den_pos {x0 : Int} {t : List Int} (ht : Ones t) : 1 ≤ (fd (x0 :: t)).2 := by
  have := (fd_ones t ht).1
  exact this
theorem den_take {x0 : Int} {t : List Int} (ht : Ones t) (i : Nat) : 1 ≤ (fd ((x0 :: t).take (i + 1))).2 := by
  rw [List.take_succ_cons]
  exact den_pos fun x hx => ht x (List.mem_of_mem_take hx)
/-- the entries of a chain are not above the parts it is made of -/
theorem cL_big : ∀ (n : Nat) (y : Nat) (x : Int) (m : Nat), y ≤ n → x.natAbs ≤ m → y ≤ m → ∀ z ∈ cL x y, z.natAbs ≤ m
  | n, 0, x, m, _, _, _ => by
    rw [cL_zero]
    exact fun z hz => (List.not_mem_nil hz).elim
  | n + 1, y + 1, x, m, h, hx, hy => by
    rw [cL_step (by omega)]
    intro z hz
    rcases List.mem_cons.mp hz with e | e
    · rw [e]
      exact Nat.le_trans (Int.natAbs_ediv_le_natAbs _ _) hx
    · have md := mod_bd (a := x) (b := y + 1) (by omega)
      exact cL_big n _ ((y + 1 : Nat) : Int) m (by omega) (by omega) (by omega) z e
theorem cL_ne {x : Int} {y : Nat} (h : y ≠ 0) : cL x y ≠ [] := by
  rw [cL_step h]
  exact fun z => nomatch z
end M15
local macro_rules | `(tactic| walk_at "rd1") => `(tactic| first
  | with_reducible refine GB.r_seq ?_
  | with_reducible refine GB.r_asg ?_
  | (with_reducible refine GB.r_gname ?_; try dsimp only [List.set_cons_zero, List.set_cons_succ])
  | (with_reducible apply GB.r_var; (with_unfolding_all exact rfl))
  | with_reducible refine GB.r_c ?_
  | with_reducible refine GB.r_op ?_
  | with_reducible refine GB.r_I0 ?_
  | with_reducible refine GB.r_ifs ?_
  | with_reducible refine GB.r_test ?_
  | with_reducible refine GB.r_bl ?_
  | with_reducible refine GB.r_eqI ?_
  | with_reducible refine GB.r_neI ?_
  | with_reducible refine GB.r_eqS ?_
  | with_reducible refine GB.r_and ?_
  | with_reducible refine GB.r_or ?_
  | with_reducible refine GB.r_not ?_
  | with_reducible refine GB.r_B ?_
  | with_reducible refine GB.r_if ?_
  | with_reducible refine GB.r_CB ?_
  | with_reducible refine GB.r_call ?_
  | with_reducible refine GB.r_callK ?_
  | (with_reducible refine GB.r_dnewT (fun p H' sm np at' => ?_))
  | with_reducible refine GB.r_nil ?_
  | with_reducible refine GB.r_cons ?_
  | with_reducible refine GB.r_ret ?_
  | with_reducible refine GB.r_retN ?_
  | with_reducible refine GB.r_drop ?_
  | with_reducible refine GB.r_next ?_
  | with_reducible refine GB.r_par ?_
  | (with_reducible refine GB.r_two ?_; try dsimp only [List.set_cons_zero, List.set_cons_succ])
  | with_reducible refine GB.r_un ?_
  | with_reducible refine GB.r_U ?_
  | with_reducible refine GB.r_tup ?_
  | with_reducible refine GB.r_lst ?_
  | (with_reducible apply GB.r_aug; (with_unfolding_all exact rfl))
  | with_reducible refine GB.r_ipI ?_
  | with_reducible refine GB.r_dget ?_
  | with_reducible refine GB.r_dput ?_
  | with_reducible refine GB.r_int1 ?_
  | with_reducible refine GB.r_max ?_
  | with_reducible refine GB.r_min ?_
  | with_reducible refine GB.r_abs ?_
  | with_reducible refine GB.r_for ?_
  | with_reducible refine GB.r_rng1 ?_
  | with_reducible refine GB.r_rng2 ?_
  | with_reducible refine GB.r_il ?_
  | with_reducible refine GB.r_it ?_
  | with_reducible refine GB.r_lc ?_
  | with_reducible refine GB.r_yes ?_
  | with_reducible refine GB.r_sl ?_
  | with_reducible refine GB.r_backT0 ?_
  | with_reducible refine GB.r_bm ?_
  | with_reducible refine GB.r_p0 ?_
  | with_reducible refine GB.r_gcons ?_
  | with_reducible refine GB.r_gnil ?_
  | (with_reducible apply GB.r_gtup; (first | assumption | exact GB.sqt_of L2.upd_same | exact GB.sqt_of (by assumption) | with_unfolding_all assumption); (with_unfolding_all exact rfl))
  | (with_reducible refine GB.r_newT ?_ (fun p H' sm np at' => ?_); (exact GB.few_le (by with_unfolding_all exact rfl)))
  | with_reducible refine GB.r_p1 ?_
  | with_reducible refine GB.r_no ?_
  | with_reducible refine GB.r_din ?_
  | with_reducible refine GB.r_dnin ?_
  | with_reducible refine GB.r_part ?_
  | with_reducible refine GB.r_int ?_
  | (with_reducible apply GB.g_left; (first | assumption | exact L2.upd_same))
  | (with_reducible apply GB.g_seed; (first | assumption | exact L2.upd_same))
  | (with_reducible apply GB.g_cells; (first | assumption | exact L2.upd_same))
  | (with_reducible apply GB.g_spot; (first | assumption | exact L2.upd_same))
  | (with_reducible apply GB.p_left; (first | assumption | exact L2.upd_same))
  | (with_reducible apply GB.p_spot; (first | assumption | exact L2.upd_same))
  | with_reducible refine L2.iteT ?_
  | with_reducible refine L2.iteF ?_
  | with_reducible refine GB.r_nT ?_
  | (with_reducible refine GB.r_rngN ?_ ?_ ?_; (decide); (decide))
  | with_reducible refine GB.r_nF ?_
  | (with_reducible refine GB.r_I ?_ ?_; (first | assumption | (with_unfolding_all decide) | omega))
  | (with_reducible refine GB.r_I ?_ ?_; (exact GB.CDivW.small (by omega) (by omega)))
  | (with_reducible refine GB.r_I ?_ ?_; (exact GB.CPow.small (by omega) (by omega) (by omega) (by omega)))
  | (with_reducible refine GB.r_I ?_ ?_; (exact GB.CMulB.small (by omega) (by omega) (by omega) (by omega)))
  | (dsimp only [List.set_cons_zero, List.set_cons_succ]))
local macro_rules | `(tactic| walk_at "rd") => `(tactic| (repeat walk_at "rd1"))
local macro_rules | `(tactic| walk_at "two") => `(tactic| first | with_reducible refine GB.r_ite (fun h => ?_) (fun h => ?_) | with_reducible refine GB.r_iteN (fun h => ?_) (fun h => ?_) | with_reducible refine GB.r_iteB (fun h => ?_) (fun h => ?_))
local macro_rules | `(tactic| walk_at "all") => `(tactic| (repeat' (first | walk_at "rd1" | walk_at "two")))
namespace L15
open PySem PySem.Spec PyProof.Rows L2 GB
def topS (i : Nat) : Stmt := PySem.Challenge.pw_numberpapers_k15_whole_chains.main.body.getD i (.Pass ⟨0, 0, 0, 0⟩)
abbrev s_chain : Stmt := topS 1
theorem sc_chain : FnScope ["a", "b", "found"] ["a", "b"] (defScope s_chain) := ⟨rfl, rfl, rfl, by decide +kernel, rfl, by decide +kernel, by decide +kernel⟩
abbrev s_convergents : Stmt := topS 2
theorem sc_convergents : FnScope ["row", "found", "p", "q", "p_ahead", "q_ahead", "quotient"] ["row"] (defScope s_convergents) := ⟨rfl, rfl, rfl, by decide +kernel, rfl, by decide +kernel, by decide +kernel⟩
abbrev s_law_begun : Stmt := topS 4
theorem sc_law_begun : FnScope ["script", "k", "cells", "great", "cell", "seed"] ["script", "k"] (defScope s_law_begun) := ⟨rfl, rfl, rfl, by decide +kernel, rfl, by decide +kernel, by decide +kernel⟩
abbrev s_law_draw : Stmt := topS 5
theorem sc_law_draw : FnScope ["m", "bound", "found", "spot", "cells", "extra", "cell", "blend"] ["m", "bound"] (defScope s_law_draw) := ⟨rfl, rfl, rfl, by decide +kernel, rfl, by decide +kernel, by decide +kernel⟩
abbrev s_law_of : Stmt := topS 6
theorem sc_law_of : FnScope ["m", "some"] ["m", "some"] (defScope s_law_of) := ⟨rfl, rfl, rfl, by decide +kernel, rfl, by decide +kernel, by decide +kernel⟩
abbrev s_law_like : Stmt := topS 7
theorem sc_law_like : FnScope ["got", "due"] ["got", "due"] (defScope s_law_like) := ⟨rfl, rfl, rfl, by decide +kernel, rfl, by decide +kernel, by decide +kernel⟩
abbrev s_law_sized : Stmt := topS 8
theorem sc_law_sized : FnScope ["m", "most", "found", "step"] ["m", "most"] (defScope s_law_sized) := ⟨rfl, rfl, rfl, by decide +kernel, rfl, by decide +kernel, by decide +kernel⟩
abbrev s_law_signed : Stmt := topS 9
theorem sc_law_signed : FnScope ["m", "most"] ["m", "most"] (defScope s_law_signed) := ⟨rfl, rfl, rfl, by decide +kernel, rfl, by decide +kernel, by decide +kernel⟩
abbrev s_law_common : Stmt := topS 10
theorem sc_law_common : FnScope ["a", "b", "twos"] ["a", "b"] (defScope s_law_common) := ⟨rfl, rfl, rfl, by decide +kernel, rfl, by decide +kernel, by decide +kernel⟩
abbrev s_law_turned : Stmt := topS 11
theorem sc_law_turned : FnScope ["a", "m", "r", "s", "x", "y", "q"] ["a", "m"] (defScope s_law_turned) := ⟨rfl, rfl, rfl, by decide +kernel, rfl, by decide +kernel, by decide +kernel⟩
abbrev s_law_floor : Stmt := topS 12
theorem sc_law_floor : FnScope ["a", "b"] ["a", "b"] (defScope s_law_floor) := ⟨rfl, rfl, rfl, by decide +kernel, rfl, by decide +kernel, by decide +kernel⟩
abbrev s_law_chain : Stmt := topS 13
theorem sc_law_chain : FnScope ["a", "b", "found", "q"] ["a", "b"] (defScope s_law_chain) := ⟨rfl, rfl, rfl, by decide +kernel, rfl, by decide +kernel, by decide +kernel⟩
abbrev s_law_folded : Stmt := topS 14
theorem sc_law_folded : FnScope ["row", "p", "q", "entry"] ["row"] (defScope s_law_folded) := ⟨rfl, rfl, rfl, by decide +kernel, rfl, by decide +kernel, by decide +kernel⟩
abbrev s_law_is_nearest : Stmt := topS 15
theorem sc_law_is_nearest : FnScope ["whole", "pair", "p", "q", "d", "low", "n", "near"] ["whole", "pair"] (defScope s_law_is_nearest) := ⟨rfl, rfl, rfl, by decide +kernel, rfl, by decide +kernel, by decide +kernel⟩
abbrev s_law_row_right : Stmt := topS 16
theorem sc_law_row_right : FnScope ["row", "due", "k", "told", "sign", "p", "q", "r", "s", "least"] ["row"] (defScope s_law_row_right) := ⟨rfl, rfl, rfl, by decide +kernel, rfl, by decide +kernel, by decide +kernel⟩
abbrev s_law_ratio_right : Stmt := topS 17
theorem sc_law_ratio_right : FnScope ["a", "b", "due", "g", "q"] ["a", "b"] (defScope s_law_ratio_right) := ⟨rfl, rfl, rfl, by decide +kernel, rfl, by decide +kernel, by decide +kernel⟩
abbrev s_law : Stmt := topS 18
theorem sc_law : FnScope ["script", "told", "due", "turn", "m", "step", "most", "b", "wide", "many", "row", "entry"] ["script"] (defScope s_law) := ⟨rfl, rfl, rfl, by decide +kernel, rfl, by decide +kernel, by decide +kernel⟩
/-- a def of the text, its name's value, how its arguments bind -/
structure Has (K : PySem.W.Frag) (mg : Str → Option Value) (x : Str) (st : Stmt) (ps : List Str) (f : Addr) (fd : FuncData) : Prop where
  fn : Fun K x x st f fd
  gl : mg x = some (.ref f)
  bd : Binds K fd ps []
section
variable {P : Program} {w : World} {K : PySem.W.Frag} {mg : Str → Option Value} {base : Heap}
theorem ok_draw {f : Addr} {fd : FuncData} (h : Has K mg "_law_draw" s_law_draw ["m", "bound"] f fd) (z_int : mg "int" = none) (z_len : mg "len" = none) : FnOk P w K mg base CX0 1 f fd ["m", "bound"] (spDrawD K) := by
  refine h.fn.ok sc_law_draw (fun vs H Q E h => ?_) (fun cdv A outer s H vs Q E hr h => ?_)
  · obtain ⟨p, b, n, rfl, _⟩ := h
    rfl
  · obtain ⟨p, b, n, rfl, ⟨c, l, sd, sp, ns, d⟩, hn, hb, hbb, q⟩ := h
    refine ⟨_, (pss_cons (ps_if (pt_cmpR op_gt (pe_dget (hu_of hr) (pv 0) pe_str (fun _ _ => rfl)) pe_int (nomark _)) (pss_cons (ps_set (i := 2) sc_law_draw.nd rfl (.inl rfl) (pe_op op_mod (pe_callTy call_intB (by rfl) z_int (by decide +kernel) (pa_cons (pe_dget (hu_of hr) (pv 0) pe_str (fun _ _ => rfl)) pa_nil)) (pv 1)))
      (pss_cons (ps_dput (hu_of hr) (pv 0) pe_str (pe_op op_fdivW (pe_dget (hu_of hr) (pv 0) pe_str (fun _ _ => rfl)) (pv 1)) rfl)
      (pss_one (ps_ret (pv 2))))) pss_nil)
      (pss_cons (ps_set (i := 3) sc_law_draw.nd rfl (.inl rfl) (pe_dget (hu_of hr) (pv 0) pe_str (fun _ _ => rfl)))
      (pss_cons (ps_dput (hu_of hr) (pv 0) pe_str (pe_op op_add (pv 3) pe_int) rfl)
      (pss_cons (ps_par (i := 4) (j := 5) (by rfl) sc_law_draw.nd rfl rfl (by decide) rfl rfl (pa_cons (pe_dget (hu_of hr) (pv 0) pe_str (fun _ _ => rfl)) (pa_cons (pe_op op_add (pe_dget (hu_of hr) (pv 0) pe_str (fun _ _ => rfl)) (pe_op op_mulB (pe_op op_mulB pe_int (pv 3)) (pv 3))) pa_nil)) (by rfl))
      (pss_cons (ps_set (i := 6) sc_law_draw.nd rfl (.inl rfl) (pe_ix ix_list (pv 4) (pe_op op_mod (pe_callTy call_intB (by rfl) z_int (by decide +kernel) (pa_cons (pv 3) pa_nil)) (pe_callB call_lenB (by rfl) z_len (by decide +kernel) (pa_cons (pv 4) pa_nil))) (fun _ _ => rfl)))
      (pss_cons (ps_set (i := 7) sc_law_draw.nd rfl (.inl rfl) (pe_op op_mod (pe_callTy call_intB (by rfl) z_int (by decide +kernel) (pa_cons (pe_op op_add (pe_op op_mulB (pv 6) (pe_op op_add (pe_op op_mulB pe_int (pv 3)) pe_int)) (pv 5)) pa_nil)) pe_int))
      (pss_cons (ps_set (i := 7) sc_law_draw.nd rfl (.inl rfl) (pe_op op_mod (pe_callTy call_intB (by rfl) z_int (by decide +kernel) (pa_cons (pe_op op_add (pe_op op_add (pe_op op_mulB (pv 7) (pv 7)) (pe_op op_mulB pe_int (pv 3))) (pe_dget (hu_of hr) (pv 0) pe_str (fun _ _ => rfl))) pa_nil)) pe_int))
      (pss_one (ps_ret (pe_op op_mod (pe_op op_fdivW (pe_op op_mod (pe_callTy call_intB (by rfl) z_int (by decide +kernel) (pa_cons (pe_op op_add (pe_op op_mulB (pv 7) pe_int) (pv 3)) pa_nil)) pe_int) pe_int) (pv 1))))))))))), ?_⟩
    have at_ := d.at_
    have l0 := d.l0
    have s0 := d.s0
    have s1 := d.s1
    have p0 := d.p0
    have p1 := d.p1
    have lb := d.lb
    have cd : CDivW l b := ⟨hb, by
      have h1 := (hbb.mono (show 8999 ≤ 8998 + 1 by decide)).log
      omega⟩
    walk_at "rd"
    walk_at "two"
    · walk_at "rd"
      refine q _ _ (Int.emod_nonneg _ (by omega)) (Int.emod_lt_of_pos _ hb) (Kd.put at_) ⟨c, l / b, sd, sp, ns, ?_⟩
      exact { at_ := upd_same, cells := (SqL.kp at_ Kp.put d.cells), some_ := d.some_, few := d.few, bits := d.bits, l0 := Int.ediv_nonneg l0 (by omega), lb := lb.ediv l0 (by omega), s0 := s0, s1 := s1, p0 := p0, p1 := by omega }
    · walk_at "rd"
      refine r_lenL (SqL.kp at_ Kp.put d.cells) ?_
      have cd2 : (fun (_ j : Int) => 0 < j) sp ((List.map V.int ns).length : Int) := by
        have h1 := List.length_pos_iff.mpr d.some_
        show (0 : Int) < ((List.map V.int ns).length : Int)
        rw [List.length_map]
        omega
      walk_at "rd"
      have h1 := List.length_pos_iff.mpr d.some_
      have e0 : (sp % ((List.map V.int ns).length : Int)).toNat < ns.length := by
        rw [List.length_map]
        have h2 := Int.emod_nonneg sp (b := (ns.length : Int)) (by omega)
        have h3 := Int.emod_lt_of_pos sp (b := (ns.length : Int)) (by omega)
        omega
      have e1 : sp % ((List.map V.int ns).length : Int) = ((sp % ((List.map V.int ns).length : Int)).toNat : Int) := by
        have h2 := Int.emod_nonneg sp (b := ((List.map V.int ns).length : Int)) (by rw [List.length_map]; omega)
        omega
      have bc : Bt 1048577 ns[(sp % ((List.map V.int ns).length : Int)).toNat] := d.bits _ (List.getElem_mem e0)
      refine r_ixL (SqL.kp at_ Kp.put d.cells) (v := .int ns[(sp % ((List.map V.int ns).length : Int)).toNat]) (at_of e1 ?_) ?_
      · rw [List.getElem?_map, List.getElem?_eq_getElem e0]
        rfl
      · generalize ns[(sp % ((List.map V.int ns).length : Int)).toNat] = cell at bc
        walk_at "rd"
        refine r_I ⟨1048576, 61, bc, Bt.small (by omega) (by omega), by decide⟩ ?_
        walk_at "rd"
        refine q _ _ (Int.emod_nonneg _ (by omega)) (Int.emod_lt_of_pos _ hb) (Kd.put at_) ⟨c, l, sd, sp + 1, ns, ?_⟩
        exact { at_ := upd_same, cells := (SqL.kp at_ Kp.put d.cells), some_ := d.some_, few := d.few, bits := d.bits, l0 := l0, lb := lb, s0 := s0, s1 := s1, p0 := by omega, p1 := by omega }
theorem ok_of {f g : Addr} {fd gd : FuncData} (h : Has K mg "_law_of" s_law_of ["m", "some"] f fd) (h_law_draw : Has K mg "_law_draw" s_law_draw ["m", "bound"] g gd) (F_law_draw : FnOk P w K mg base CX0 1 g gd ["m", "bound"] (spDrawD K)) (z_len : mg "len" = none) :
    FnOk P w K mg base CX0 2 f fd ["m", "some"] (spOfD K) := by
  refine h.fn.ok sc_law_of (fun vs H Q E h => ?_) (fun cdv A outer s H vs Q E hr h => ?_)
  · obtain ⟨p, a, n, xs, rfl, _⟩ := h
    rfl
  · obtain ⟨p, a, n, xs, rfl, dr, hn, hx, ne, hz, q⟩ := h
    obtain ⟨kvs, at_⟩ := dr.at_
    have h1 := List.length_pos_iff.mpr ne
    have e1 : sizeLine = 16777216 := by decide
    refine ⟨_, (pss_one (ps_ret (pe_ix ix_list (pv 1) (pe_call F_law_draw (hr.mono (by decide)) (by rfl) h_law_draw.gl h_law_draw.fn.kp h_law_draw.bd .nil pass0 (pa_cons (pv 0) (pa_cons (pe_callB call_lenB (by rfl) z_len (by decide +kernel) (pa_cons (pv 1) pa_nil)) pa_nil))) (fun _ _ => rfl)))), ?_⟩
    walk_at "rd"
    refine r_lenL hx ?_
    walk_at "rd"
    refine ⟨p, (xs.length : Int), n, rfl, dr, hn, by omega, (Bt.small (by omega) (by omega)).mono (by decide), fun v H' v0 v1 k dr' => ?_⟩
    have e2 : v.toNat < xs.length := by omega
    refine r_ixL (SqL.kp at_ k.1 hx) (v := xs[v.toNat]) (at_of (j := v.toNat) (by omega) (List.getElem?_eq_getElem e2)) ?_
    exact q _ _ H' (List.getElem?_eq_getElem e2) k dr'
theorem ok_like {f : Addr} {fd : FuncData} (h : Has K mg "_law_like" s_law_like ["got", "due"] f fd) (z_repr : mg "repr" = none) : GOk P w K mg base CX0 1 f fd ["got", "due"] (spLike K) := by
  refine fun_okG h.fn sc_law_like (fun vs H Q E h => ?_) (fun cdv A outer s H vs Q E ng hr h => ?_)
  · obtain ⟨v, u, d, rfl, _⟩ := h
    rfl
  · obtain ⟨v, u, d, rfl, h1, h2, sh, q⟩ := h
    refine ⟨_, (pss_one (ps_ret (pe_cmpR op_eq (pe_callB (call_repr ng hr.units) (by rfl) z_repr (by decide +kernel) (pa_cons (pv 0) pa_nil)) (pe_callB (call_repr ng hr.units) (by rfl) z_repr (by decide +kernel) (pa_cons (pv 1) pa_nil)) (nomark _)))), ?_⟩
    walk_at "rd"
    refine ⟨v, d, rfl, h1, sh, ?_⟩
    walk_at "rd"
    refine ⟨u, d, rfl, h2, sh, ?_⟩
    walk_at "rd"
    rw [decide_eq_true rfl]
    exact q
theorem cut_ints (ns : List Int) (lo hi : Option Int) : ∃ ms : List Int, cutV (ns.map V.int) lo hi = ms.map V.int ∧ (∀ x ∈ ms, x ∈ ns) ∧ ms.length ≤ ns.length := by
  unfold cutV
  rw [← List.map_drop, ← List.map_take]
  refine ⟨_, rfl, fun x hx => ?_, ?_⟩
  · exact List.mem_of_mem_drop (List.mem_of_mem_take hx)
  · rw [List.length_take, List.length_drop]
    omega
theorem ok_begun {f : Addr} {fd : FuncData} (h : Has K mg "_law_begun" s_law_begun ["script", "k"] f fd) (z_int : mg "int" = none) : FnOk P w K mg base CX0 1 f fd ["script", "k"] (spBegun K) := by
  refine h.fn.ok sc_law_begun (fun vs H Q E h => ?_) (fun cdv A outer s H vs Q E hr h => ?_)
  · obtain ⟨a, k, ns, rfl, _⟩ := h
    rfl
  · obtain ⟨a, k, ns, rfl, hS, hl, hb, k0, k1, q⟩ := h
    have esz : sizeLine = 16777216 := by decide
    refine ⟨_, (pss_cons (ps_set (i := 2) sc_law_begun.nd rfl (.inl rfl) (pe_op op_cat (pe_slice sl_list (pv 0) (po_some (pv 1)) po_none) (pe_slice sl_list (pv 0) po_none (po_some (pv 1)))))
      (pss_cons (ps_setLc (i := 3) (own := [("cell", 4)]) (g := gName 4) (tt := _) rfl sc_law_begun.nd rfl rfl (sw_true rfl rfl rfl (by decide +kernel)) (pi_list (pv 2)) (blkOk_by (own := [("cell", 4)]) (N := ["script", "k", "cells", "great", "cell", "seed"]) (sc := defScope s_law_begun) (by decide +kernel)) (fun _ _ _ _ _ => pg_name (i := 4) sc_law_begun.nd rfl (Or.inl rfl)) (fun _ _ _ _ _ => pts_one (pt_cmpR op_ge (pv 4) (pe_op op_pow pe_int pe_int) (nomark _))) (fun _ _ _ _ _ => (pv 4)))
      (pss_cons (ps_set (i := 5) sc_law_begun.nd rfl (.inl rfl) (pe_op op_add pe_int (pv 1)))
      (pss_cons (ps_for PassesOwn.never rfl (pi_list (pv 2)) (pg_name (i := 4) sc_law_begun.nd rfl (Or.inl rfl)) (pss_one (ps_set (i := 5) sc_law_begun.nd rfl (.inl rfl) (pe_op op_mod (pe_callTy call_intB (by rfl) z_int (by decide +kernel) (pa_cons (pe_op op_add (pe_op op_mulB (pv 5) pe_int) (pv 4)) pa_nil)) pe_int))))
      (pss_one (ps_ret (pe_disp (pps_cons pe_str (pe_ifExp (pt_cmpR (op_neD hr.units) (pv 3) (pe_lst pa_nil) (nomark _)) (pe_ix ix_list (pv 3) pe_int (fun _ _ => rfl)) pe_int) (pps_cons pe_str (pv 5) (pps_cons pe_str (pe_op op_cat (pv 2) (pe_lst (pa_cons (pe_op op_add (pe_op op_mulB pe_int (pv 1)) pe_int) pa_nil))) (pps_cons pe_str pe_int pps_nil)))) (by rfl) (by rfl) (fun z => by cases z) (by decide)))))))), ?_⟩
    walk_at "rd"
    refine r_slL hS fun c1 n1 => ?_
    obtain ⟨m1, e1, i1, l1⟩ := cut_ints ns (some k) none
    rw [e1]
    walk_at "rd"
    have sm1 : Same H (upd H c1 (.lst (m1.map V.int))) := same_new n1
    refine r_slL (sm1.seq hS) fun c2 n2 => ?_
    obtain ⟨m2, e2, i2, l2⟩ := cut_ints ns none (some k)
    rw [e2]
    walk_at "rd"
    have sm2 : Same H (upd (upd H c1 (.lst (m1.map V.int))) c2 (.lst (m2.map V.int))) := sm1.trans (same_new n2)
    have at1 : (upd (upd H c1 (.lst (m1.map V.int))) c2 (.lst (m2.map V.int))) c1 = some (.lst (m1.map V.int)) := same_new n2 _ _ upd_same
    refine r_cat at1 upd_same (by rw [List.length_map, List.length_map]; omega) fun c3 n3 => ?_
    rw [← List.map_append]
    have iA : ∀ x ∈ m1 ++ m2, Bt 1048576 x := fun x hx => (List.mem_append.mp hx).elim (fun z => hb x (i1 x z)) (fun z => hb x (i2 x z))
    have lA : (m1 ++ m2).length ≤ 126 := by rw [List.length_append]; omega
    generalize m1 ++ m2 = cs at iA lA ⊢
    have sm3 := sm2.trans (same_new (o := .lst (cs.map V.int)) n3)
    generalize upd (upd H c1 (.lst (m1.map V.int))) c2 (.lst (m2.map V.int)) = H2 at n3 sm3 ⊢
    have at3 : (upd H2 c3 (.lst (cs.map V.int))) c3 = some (.lst (cs.map V.int)) := upd_same
    generalize upd H2 c3 (.lst (cs.map V.int)) = H3 at sm3 at3 ⊢
    walk_at "rd"
    refine r_ill (.inl (.inl at3)) fun L nL => ?_
    refine cl_list (xs := cs.map V.int) (fun i H' => ∃ gs : List Int, (∀ x ∈ gs, Bt 1048576 x ∧ 0 < x) ∧ gs.length ≤ i ∧ H' L = some (.lst (gs.map V.int)) ∧ Same H3 H')
      ⟨[], fun x hx => (List.not_mem_nil hx).elim, Nat.le_refl _, upd_same, same_new nL⟩ (fun i H' _ hp => ?_) (fun i x H' hi hp => ?_) (fun H' hp => ?_)
    · obtain ⟨gs, _, _, _, sm⟩ := hp
      exact .inl (.inl (sm _ _ at3))
    · obtain ⟨gs, hg, lg, atL, sm⟩ := hp
      rw [List.getElem?_map] at hi
      obtain ⟨z, hz, rfl⟩ := Option.map_eq_some_iff.mp hi
      have hzc : z ∈ cs := List.mem_of_getElem? hz
      have hlt : i < cs.length := (List.getElem?_eq_some_iff.mp hz).1
      refine ⟨rfl, ?_⟩
      walk_at "rd"
      walk_at "two"
      · rename_i hge
        have e18 : (10 : Int) ^ Int.toNat 18 = 1000000000000000000 := by decide +kernel
        rw [e18] at hge
        walk_at "rd"
        refine ⟨gs.map V.int, atL, by rw [List.length_map]; omega, gs ++ [z], fun x hx => ?_, by rw [List.length_append, List.length_singleton]; omega, ?_, same_mut sm nL⟩
        · rcases List.mem_append.mp hx with y | y
          · exact hg x y
          · rw [List.mem_singleton.mp y]
            exact ⟨iA z hzc, by omega⟩
        · rw [upd_same, List.map_append]
          rfl
      · exact ⟨gs, hg, by omega, atL, sm⟩
    · obtain ⟨gs, hg, lg, atL, sm4⟩ := hp
      rw [List.length_map] at lg
      walk_at "rd"
      refine r_ill (.inl (.inl (sm4 _ _ at3))) ?_
      refine fl_list (xs := cs.map V.int) (fun i σ H1 => ∃ (y : Option V) (sd : Int), σ = [some (.ref a), some (.int k), some (.ref c3), some (.ref L), y, some (.int sd)] ∧ 0 ≤ sd ∧ sd < 2147483647 ∧ H1 = H')
        ⟨none, 71 + k, rfl, by omega, by omega, rfl⟩ (fun i σ H1 _ hp => ?_) (fun i x σ H1 hi hp => ?_) (fun σ H1 hp => ?_)
      · obtain ⟨y, sd, rfl, s0, s1, rfl⟩ := hp
        exact .inl (.inl (sm4 _ _ at3))
      · obtain ⟨y, sd, rfl, s0, s1, rfl⟩ := hp
        rw [List.getElem?_map] at hi
        obtain ⟨z, hz, rfl⟩ := Option.map_eq_some_iff.mp hi
        walk_at "rd"
        exact ⟨_, _, rfl, Int.emod_nonneg _ (by decide), Int.emod_lt_of_pos _ (by decide), rfl⟩
      · obtain ⟨y, sd, rfl, s0, s1, rfl⟩ := hp
        walk_at "rd"
        refine r_disp fun p np => ?_
        have npc : c3 ≠ p := ne_of_none (sm4 _ _ at3) np
        have smp : Same H (upd H1 p (.dK [])) := (sm3.trans sm4).trans (same_new np)
        have nHp : H p = none := (sm3.trans sm4).free np
        have atc : (upd H1 p (.dK [])) c3 = some (.lst (cs.map V.int)) := same_new np _ _ (sm4 _ _ at3)
        have atg : (upd H1 p (.dK [])) L = some (.lst (gs.map V.int)) := same_new np _ _ atL
        have atp : (upd H1 p (.dK [])) p = some (.dK []) := upd_same
        -- what the end needs of any later heap
        have fin : ∀ (l : Int) (H5 : Hp), 0 ≤ l → Bt 1048577 l → Same (upd H1 p (.dK [])) H5 → ∀ c5, H5 c5 = none → (upd H5 c5 (.lst ([.int (53 * k + 11)]))) c5 = some (.lst [.int (53 * k + 11)]) →
            rCat (.ref c3) (.ref c5) (upd H5 c5 (.lst ([.int (53 * k + 11)]))) (fun y H6 => rDisp p [(.str "left", .int l), (.str "seed", .int sd), (.str "cells", y), (.str "spot", .int 0)] H6 Q) := by
          intro l H5 l0 lb sm5 c5 n5 at5
          have sm6 : Same (upd H1 p (.dK [])) (upd H5 c5 (.lst [.int (53 * k + 11)])) := sm5.trans (same_new n5)
          refine r_cat (sm6 _ _ atc) at5 (by rw [List.length_map]; show cs.length + 1 ≤ _; omega) fun c7 n7 => ?_
          have sm7 := sm6.trans (same_new (o := .lst (cs.map V.int ++ [.int (53 * k + 11)])) n7)
          refine r_Mk (sm7 _ _ atp) ?_
          refine q _ _ nHp (same_mut (smp.trans sm7) nHp) ⟨c7, l, sd, 0, cs ++ [53 * k + 11], ?_⟩
          have n7p : c7 ≠ p := (ne_of_none (sm6 _ _ atp) n7).symm
          exact {
            at_ := upd_same
            cells := .inl (.inl (by
              rw [upd_ne n7p, upd_same, List.map_append]
              rfl))
            some_ := by simp
            few := by rw [List.length_append, List.length_singleton]; omega
            bits := fun x hx => by
              rcases List.mem_append.mp hx with z | z
              · exact (iA x z).mono (by decide)
              · rw [List.mem_singleton.mp z]
                exact (Bt.small (by omega) (by omega)).mono (by decide)
            l0 := l0, lb := lb, s0 := s0, s1 := s1, p0 := by omega, p1 := by omega }
        walk_at "rd"
        refine r_mkL (few_le rfl) fun e ne => ?_
        have sme : Same (upd H1 p (.dK [])) (upd (upd H1 p (.dK [])) e (.lst [])) := same_new ne
        have dg : Fine 1900 1 0 (.list ([].map PyData.int)) := (FineAll.ints (ns := []) (fun x hx => (List.not_mem_nil hx).elim) (by decide)).list
        have hgd : SeqAt.shaped (.list (gs.map PyData.int)) = true := by
          have c1 : ∀ l : List Int, PyData.canLayAll0 (l.map PyData.int) = true := fun l => by
            induction l with
            | nil => simp only [List.map_nil, PyData.canLayAll0]
            | cons x r ih => simp only [List.map_cons, PyData.canLayAll0, PyData.canLay0, ih]; rfl
          have c2 : ∀ l : List Int, PyData.depthAll (l.map PyData.int) = 0 := fun l => by
            induction l with
            | nil => simp only [List.map_nil, PyData.depthAll]
            | cons x r ih => simp only [List.map_cons, PyData.depthAll, PyData.depth, ih]; rfl
          unfold SeqAt.shaped
          simp only [PyData.canLay0, PyData.depth, c1, c2]
          rfl
        refine r_neD (Dp.ints (.inl (.inl (sme _ _ atg)))) (Dp.ints (ns := []) (.inl (.inl upd_same))) hgd (dg.shaped (by decide)) ?_
        walk_at "rd"
        cases gs with
        | nil =>
          have e0 : PyData.eqv (.list (([] : List Int).map PyData.int)) (.list (([] : List Int).map PyData.int)) = true := dg.eqv
          rw [e0]
          walk_at "rd"
          refine r_mkL (few_le rfl) fun c5 n5 => ?_
          exact fin 0 _ (by decide) ((Bt.small (by decide) (by decide)).mono (by decide)) sme c5 n5 upd_same
        | cons z r =>
          have e0 : PyData.eqv (.list ((z :: r).map PyData.int)) (.list (([] : List Int).map PyData.int)) = false := by
            simp only [List.map_cons, List.map_nil, PyData.eqv, PyData.eqvAll]
          rw [e0]
          walk_at "rd"
          refine r_ixL (.inl (.inl (sme _ _ atg))) (v := .int z) (atI_nat (j := 0) rfl) ?_
          walk_at "rd"
          refine r_mkL (few_le rfl) fun c5 n5 => ?_
          have hz := hg z List.mem_cons_self
          exact fin z _ (by omega) (hz.1.mono (by decide)) sme c5 n5 upd_same
end

end L15
namespace L15
open PySem PySem.Spec PyProof.Rows L2 GB M15
section
variable {P : Program} {w : World} {K : PySem.W.Frag} {mg : Str → Option Value} {base : Heap}
/-! drawn numbers of so many figures -/
theorem ten_bits (n : Nat) : 10 ^ n ≤ 2 ^ (4 * n) := by
  rw [Nat.pow_mul]
  exact Nat.pow_le_pow_left (by decide) n
def spSized (K : PySem.W.Frag) : Sp := fun vs H Q _ => ∃ (p : Addr) (k n : Nat), vs = [.ref p, .int (k : Int)] ∧ Draws K p n H ∧ n ≤ 1000000000 ∧ k ≤ 1000 ∧ ∀ (v : Nat) H', v < 10 ^ k → Kd p H H' → Draws K p (n + k + 1) H' → Q (.int (v : Int)) H'
theorem ok_sized {f g : Addr} {fd gd : FuncData} (h : Has K mg "_law_sized" s_law_sized ["m", "most"] f fd) (z_range : mg "range" = none)
    (h_law_draw : Has K mg "_law_draw" s_law_draw ["m", "bound"] g gd) (F_law_draw : FnOk P w K mg base CX0 1 g gd ["m", "bound"] (spDrawD K)) : FnOk P w K mg base CX0 2 f fd ["m", "most"] (spSized K) := by
  refine h.fn.ok sc_law_sized (fun vs H Q E h => ?_) (fun cdv A outer s H vs Q E hr h => ?_)
  · obtain ⟨p, k, n, rfl, _⟩ := h
    rfl
  · obtain ⟨p, k, n, rfl, dr, hn, hk, q⟩ := h
    refine ⟨_, (pss_cons (ps_set (i := 2) sc_law_sized.nd rfl (.inl rfl) pe_int)
      (pss_cons (ps_for PassesOwn.never rfl (pi_range1 rfl z_range (pa_cons (pe_call F_law_draw (hr.mono (by decide)) (by rfl) h_law_draw.gl h_law_draw.fn.kp h_law_draw.bd .nil pass0 (pa_cons (pv 0) (pa_cons (pe_op op_add (pv 1) pe_int) pa_nil))) pa_nil)) (pg_name (i := 3) sc_law_sized.nd rfl (Or.inl rfl)) (pss_one (ps_set (i := 2) sc_law_sized.nd rfl (.inl rfl) (pe_op op_add (pe_op op_mulB (pv 2) pe_int) (pe_call F_law_draw (hr.mono (by decide)) (by rfl) h_law_draw.gl h_law_draw.fn.kp h_law_draw.bd .nil pass0 (pa_cons (pv 0) (pa_cons pe_int pa_nil)))))))
      (pss_one (ps_ret (pv 2))))), ?_⟩
    walk_at "rd"
    refine ⟨p, (k : Int) + 1, n, rfl, dr, by omega, by omega, (Bt.small (by omega) (by omega)).mono (by decide), fun v H1 v0 v1 k1 dr1 => ?_⟩
    walk_at "rd"
    refine r_rngN (by omega) (by omega) ?_
    refine fl_range (fun i σ H2 => ∃ (x : Nat) (y : Option V), σ = [some (.ref p), some (.int (k : Int)), some (.int (x : Int)), y] ∧ x < 10 ^ i ∧ Kd p H H2 ∧ Draws K p (n + 1 + i) H2)
      ⟨0, none, rfl, by decide, k1, dr1⟩ (fun i σ H2 hi hp => ?_) (fun σ H2 hp => ?_)
    · obtain ⟨x, y, rfl, hx, k2, dr2⟩ := hp
      have i1 : i < 1000 := by omega
      have bx : Bt 4001 (x : Int) := by
        have h1 := ten_bits i
        have h2 : 2 ^ (4 * i) ≤ 2 ^ 4001 := Nat.pow_le_pow_right (by decide) (by omega)
        show (x : Int).natAbs < _
        rw [Int.natAbs_natCast]
        exact Nat.lt_of_lt_of_le hx (Nat.le_trans h1 h2)
      walk_at "rd"
      refine r_I ⟨4000, 61, bx, Bt.small (by decide) (by decide), by decide⟩ ?_
      walk_at "rd"
      refine ⟨p, 10, n + 1 + i, rfl, dr2, by omega, by decide, (Bt.small (by decide) (by decide)).mono (by decide), fun z H3 z0 z1 k3 dr3 => ?_⟩
      walk_at "rd"
      refine ⟨x * 10 + z.toNat, some (.int (0 + (i : Int))), ?_, ?_, k2.trans k3, dr3⟩
      · have e : ((x * 10 + z.toNat : Nat) : Int) = (x : Int) * 10 + z := by omega
        rw [e]
      · have e : 10 ^ (i + 1) = 10 * 10 ^ i := by rw [Nat.pow_succ]; omega
        omega
    · obtain ⟨x, y, rfl, hx, k2, dr2⟩ := hp
      have e : (v : Int).toNat ≤ k := by omega
      walk_at "rd"
      refine q x H2 (Nat.lt_of_lt_of_le hx (Nat.pow_le_pow_right (by decide) (by omega))) k2 (dr2.mono (by omega))
def spSigned (K : PySem.W.Frag) : Sp := fun vs H Q _ => ∃ (p : Addr) (k n : Nat), vs = [.ref p, .int (k : Int)] ∧ Draws K p n H ∧ n ≤ 900000000 ∧ k ≤ 1000 ∧ ∀ (v : Int) H', v.natAbs < 10 ^ k → Kd p H H' → Draws K p (n + k + 2) H' → Q (.int v) H'
theorem ok_signed {f g o : Addr} {fd gd od : FuncData} (h : Has K mg "_law_signed" s_law_signed ["m", "most"] f fd)
    (h_law_sized : Has K mg "_law_sized" s_law_sized ["m", "most"] g gd) (F_law_sized : FnOk P w K mg base CX0 2 g gd ["m", "most"] (spSized K))
    (h_law_of : Has K mg "_law_of" s_law_of ["m", "some"] o od) (F_law_of : FnOk P w K mg base CX0 2 o od ["m", "some"] (spOfD K)) : FnOk P w K mg base CX0 3 f fd ["m", "most"] (spSigned K) := by
  refine h.fn.ok sc_law_signed (fun vs H Q E h => ?_) (fun cdv A outer s H vs Q E hr h => ?_)
  · obtain ⟨p, k, n, rfl, _⟩ := h
    rfl
  · obtain ⟨p, k, n, rfl, dr, hn, hk, q⟩ := h
    refine ⟨_, (pss_one (ps_ret (pe_op op_mulB (pe_call F_law_sized (hr.mono (by decide)) (by rfl) h_law_sized.gl h_law_sized.fn.kp h_law_sized.bd .nil pass0 (pa_cons (pv 0) (pa_cons (pv 1) pa_nil))) (pe_call F_law_of (hr.mono (by decide)) (by rfl) h_law_of.gl h_law_of.fn.kp h_law_of.bd .nil pass0 (pa_cons (pv 0) (pa_cons (pe_lst (pa_cons pe_int (pa_cons pe_int (pa_cons (pe_un un_neg pe_int) pa_nil)))) pa_nil)))))), ?_⟩
    walk_at "rd"
    refine ⟨p, k, n, rfl, dr, by omega, hk, fun x H1 hx k1 dr1 => ?_⟩
    walk_at "rd"
    refine r_newL (few_le rfl) fun a H2 sm na ata => ?_
    walk_at "rd"
    refine ⟨p, a, n + k + 1, [.int 1, .int 1, .int (-1)], rfl, dr1.same sm, by omega, sql_of ata, by simp, by show 3 ≤ sizeLine; decide, fun i v H3 hv k3 dr3 => ?_⟩
    have hz : ∃ z : Int, v = .int z ∧ (z = 1 ∨ z = -1) := by
      match i, hv with
      | 0, hv => exact ⟨1, (Option.some.inj hv).symm, .inl rfl⟩
      | 1, hv => exact ⟨1, (Option.some.inj hv).symm, .inl rfl⟩
      | 2, hv => exact ⟨-1, (Option.some.inj hv).symm, .inr rfl⟩
      | i + 3, hv => simp at hv
    obtain ⟨z, rfl, hz⟩ := hz
    have bx : Bt 4001 (x : Int) := by
      have h1 := ten_bits k
      have h2 : 2 ^ (4 * k) ≤ 2 ^ 4001 := Nat.pow_le_pow_right (by decide) (by omega)
      show (x : Int).natAbs < _
      rw [Int.natAbs_natCast]
      exact Nat.lt_of_lt_of_le hx (Nat.le_trans h1 h2)
    refine r_I ⟨4000, 61, bx, Bt.small (by omega) (by omega), by decide⟩ ?_
    refine q _ H3 ?_ (k1.trans ((Kd.of sm).trans k3)) (dr3.mono (by omega))
    rcases hz with rfl | rfl <;> omega
/-! floors -/
theorem ceil_floor {a b : Int} (ha : a < 0) (hb : 0 < b) : -((b - 1 - a) / b) = a / b := by
  have d := Int.mul_ediv_add_emod a b
  have m0 := Int.emod_nonneg a (b := b) (by omega)
  have m1 := Int.emod_lt_of_pos a hb
  generalize a / b = q at d ⊢
  generalize a % b = r at d m0 m1
  have e : b - 1 - a = (b - 1 - r) + b * (-q) := by
    rw [Int.mul_neg]
    omega
  rw [e, Int.add_mul_ediv_left _ _ (by omega), Int.ediv_eq_zero_of_lt (by omega) (by omega)]
  omega
def spFloor : Sp := fun vs H Q _ => ∃ a b : Int, vs = [.int a, .int b] ∧ b ≠ 0 ∧ Bt 8000 b ∧ Q (.int (if 0 < b then a / b else (-a) / (-b))) H
theorem ok_floor {f : Addr} {fd : FuncData} (h : Has K mg "_law_floor" s_law_floor ["a", "b"] f fd) : FnOk P w K mg base CX0 1 f fd ["a", "b"] spFloor := by
  refine h.fn.ok sc_law_floor (fun vs H Q E h => ?_) (fun cdv A outer s H vs Q E hr h => ?_)
  · obtain ⟨a, b, rfl, _⟩ := h
    rfl
  · obtain ⟨a, b, rfl, hb, bb, q⟩ := h
    refine ⟨_, (pss_cons (ps_if (pt_cmpR op_lt (pv 1) pe_int (nomark _)) (pss_one (ps_par (i := 0) (j := 1) (by rfl) sc_law_floor.nd rfl rfl (by decide) rfl rfl (pa_cons (pe_un un_neg (pv 0)) (pa_cons (pe_un un_neg (pv 1)) pa_nil)) (by rfl))) pss_nil)
      (pss_one (ps_ret (pe_ifExp (pt_cmpR op_ge (pv 0) pe_int (nomark _)) (pe_op op_fdivW (pv 0) (pv 1)) (pe_un un_neg (pe_op op_fdivW (pe_op op_sub (pe_op op_sub (pv 1) pe_int) (pv 0)) (pv 1))))))), ?_⟩
    have b8 : Bt (8999 + 1) b := bb.mono (by decide)
    have b8n : Bt (8999 + 1) (-b) := b8.le (by omega)
    walk_at "rd"
    walk_at "two"
    · rename_i hlt
      rw [if_neg (by omega)] at q
      walk_at "rd"
      walk_at "two"
      · walk_at "rd"
        refine r_I (CDivW.of (by omega) b8n (by decide)) ?_
        exact q
      · rename_i h0
        walk_at "rd"
        refine r_I (CDivW.of (by omega) b8n (by decide)) ?_
        walk_at "rd"
        rw [ceil_floor (by omega) (by omega)]
        exact q
    · rename_i hlt
      rw [if_pos (by omega)] at q
      walk_at "rd"
      walk_at "two"
      · walk_at "rd"
        refine r_I (CDivW.of (by omega) b8 (by decide)) ?_
        exact q
      · rename_i h0
        walk_at "rd"
        refine r_I (CDivW.of (by omega) b8 (by decide)) ?_
        walk_at "rd"
        rw [ceil_floor (by omega) (by omega)]
        exact q
end
end L15
namespace L15
open PySem PySem.Spec PyProof.Rows L2 GB M15
section
variable {P : Program} {w : World} {K : PySem.W.Frag} {mg : Str → Option Value} {base : Heap}
/-! chains -/
def chainI (a b : Int) : List Int := if 0 ≤ b then cL a b.toNat else cL (-a) (-b).toNat
theorem chainI_neg (a b : Int) (h : b ≠ 0) : chainI (-a) (-b) = chainI a b := by
  unfold chainI
  by_cases hb : 0 ≤ b
  · rw [if_neg (by omega), if_pos hb, Int.neg_neg, Int.neg_neg]
  · rw [if_pos (by omega), if_neg hb]
theorem sdiv {x y s : Int} (hs : s = 1 ∨ s = -1) (hy : 0 ≤ y) : (s * x).fdiv (s * y) = x / y ∧ (s * x).fmod (s * y) = s * (x % y) := by
  rcases hs with rfl | rfl
  · rw [Int.one_mul, Int.one_mul, Int.one_mul]
    exact ⟨Int.fdiv_eq_ediv_of_nonneg x hy, Int.fmod_eq_emod_of_nonneg x hy⟩
  · rw [Int.neg_one_mul, Int.neg_one_mul, Int.neg_fdiv_neg, Int.neg_fmod_neg, Int.neg_one_mul, Int.fdiv_eq_ediv_of_nonneg x hy, Int.fmod_eq_emod_of_nonneg x hy]
    exact ⟨rfl, rfl⟩
theorem s_start (a b : Int) : ∃ (x s : Int) (y : Nat), (s = 1 ∨ s = -1) ∧ a = s * x ∧ b = s * (y : Int) ∧ chainI a b = cL x y ∧ x.natAbs = a.natAbs ∧ y = b.natAbs := by
  unfold chainI
  by_cases hb : 0 ≤ b
  · refine ⟨a, 1, b.toNat, .inl rfl, by omega, by omega, by rw [if_pos hb], rfl, by omega⟩
  · refine ⟨-a, -1, (-b).toNat, .inr rfl, by omega, by omega, by rw [if_neg hb], by omega, by omega⟩
/-- what a loop that makes a chain keeps -/
structure Ch (x0 : Int) (y0 : Nat) (A B : Int) (y : Nat) (done : List Int) (x s : Int) : Prop where
  hs : s = 1 ∨ s = -1
  eA : A = s * x
  eB : B = s * (y : Int)
  rest : done ++ cL x y = cL x0 y0
  bx : Bt 8000 x
  by_ : Bt 8000 (y : Int)
theorem Ch.next {x0 : Int} {y0 : Nat} {A B : Int} {y : Nat} {done : List Int} {x s : Int} (h : Ch x0 y0 A B y done x s) (hB : B ≠ 0) :
    y ≠ 0 ∧ A.fdiv B = x / (y : Int) ∧ Ch x0 y0 B (A.fmod B) (x % (y : Int)).toNat (done ++ [x / (y : Int)]) (y : Int) s ∧ (x % (y : Int)).toNat < y := by
  have hy : y ≠ 0 := fun z => hB (by rw [h.eB, z]; exact Int.mul_zero _)
  have m := mod_bd (a := x) hy
  have d := sdiv (x := x) (y := (y : Int)) h.hs (by omega)
  refine ⟨hy, by rw [h.eA, h.eB]; exact d.1, ⟨h.hs, h.eB, ?_, ?_, h.by_, ?_⟩, by omega⟩
  · rw [h.eA, h.eB, d.2]
    have : (((x % (y : Int)).toNat : Nat) : Int) = x % (y : Int) := by omega
    rw [this]
  · rw [← h.rest, cL_step hy, List.append_assoc]
    rfl
  · exact h.by_.le (by omega)
theorem Ch.few {x0 : Int} {y0 : Nat} {A B : Int} {y : Nat} {done : List Int} {x s : Int} (h : Ch x0 y0 A B y done x s) (hy : Bt 8000 (y0 : Int)) : done.length ≤ 16000 := by
  have h1 := cL_len 8000 x0 y0 (by
    have h2 : (y0 : Int).natAbs < 2 ^ 8000 := hy
    rw [Int.natAbs_natCast] at h2
    exact h2)
  have h2 := congrArg List.length h.rest
  rw [List.length_append] at h2
  omega
def spChain : Sp := fun vs H Q _ => ∃ a b : Int, vs = [.int a, .int b] ∧ Bt 8000 a ∧ Bt 8000 b ∧ ∀ v H', Same H H' → H' v = some (.tup ((chainI a b).map V.int)) → Q (.ref v) H'
theorem ok_chain {f : Addr} {fd : FuncData} (h : Has K mg "chain" s_chain ["a", "b"] f fd) (z_tuple : mg "tuple" = none) : FnOk P w K mg base CX0 1 f fd ["a", "b"] spChain := by
  refine h.fn.ok sc_chain (fun vs H Q E h => ?_) (fun cdv A outer s H vs Q E hr h => ?_)
  · obtain ⟨a, b, rfl, _⟩ := h
    rfl
  · obtain ⟨a, b, rfl, ba, bb, q⟩ := h
    obtain ⟨x0, s0, y0, hs, ea, eb, ec, nx, ny⟩ := s_start a b
    have by0 : Bt 8000 (y0 : Int) := bb.le (by omega)
    refine ⟨_, (pss_cons (ps_set (i := 2) sc_chain.nd rfl (.inl rfl) (pe_lst pa_nil))
      (pss_cons (ps_while PassesOwn.never (pt_cmpR op_ne (pv 1) pe_int (nomark _)) (pss_cons (ps_expr (pe_bm PySem.F.plainAttrs_list PySem.F.slot_list_append PySem.F.type_list_append mt_append (pv 2) (pa_cons (pe_op op_fdivZ (pv 0) (pv 1)) pa_nil)))
      (pss_one (ps_par (i := 0) (j := 1) (by rfl) sc_chain.nd rfl rfl (by decide) rfl rfl (pa_cons (pv 1) (pa_cons (pe_op op_modN (pv 0) (pv 1)) pa_nil)) (by rfl)))))
      (pss_one (ps_ret (pe_callTy call_tupB (by rfl) z_tuple (by decide +kernel) (pa_cons (pv 2) pa_nil)))))), ?_⟩
    walk_at "rd"
    refine r_newL (few_le rfl) fun l H1 sm1 nl atl => ?_
    walk_at "rd"
    refine r_while (fun m σ H2 => ∃ (A B : Int) (done : List Int) (x s : Int), σ = [some (.int A), some (.int B), some (.ref l)] ∧ Ch x0 y0 A B m done x s ∧ H2 l = some (.lst (done.map V.int)) ∧ Same H H2) y0
      ⟨a, b, [], x0, s0, rfl, ⟨hs, ea, eb, rfl, ba.le (by omega), by0⟩, atl, sm1⟩ (fun m σ H2 hp => ?_)
    obtain ⟨A, B, done, x, s, rfl, c, at2, sm2⟩ := hp
    walk_at "rd"
    walk_at "two"
    · rename_i hB
      have y0' : m = 0 := by
        rcases c.hs with z | z <;> have e := c.eB <;> rw [z, hB] at e <;> omega
      subst y0'
      have e := c.rest
      rw [cL_zero, List.append_nil] at e
      walk_at "rd"
      refine r_tupL (sql_of at2) fun v H3 sm3 nv atv => ?_
      rw [e, ← ec] at atv
      exact q v H3 (sm2.trans sm3) atv
    · rename_i hB
      obtain ⟨hy, ed, c2, lt⟩ := c.next hB
      refine r_wl ?_
      walk_at "rd"
      refine r_bmL (sql_of at2) ?_
      walk_at "rd"
      have bB : Bt (8000 + 1) B := (c.by_.mono (by decide)).le (by
        rcases c.hs with z | z <;> rw [c.eB, z] <;> omega)
      refine r_I (CDivZ.of hB bB (by decide)) ?_
      walk_at "rd"
      have few := c2.few by0
      rw [List.length_append, List.length_singleton] at few
      refine r_grow at2 (by rw [List.length_map]; omega) fun H3 k3 at3 => ?_
      walk_at "rd"
      refine ⟨_, lt, _, _, _, _, _, rfl, c2, ?_, Same.kp' sm2 nl k3⟩
      rw [at3, List.map_append, ed]
      rfl
theorem ok_lchain {f g : Addr} {fd gd : FuncData} (h : Has K mg "_law_chain" s_law_chain ["a", "b"] f fd) (z_tuple : mg "tuple" = none)
    (h_law_floor : Has K mg "_law_floor" s_law_floor ["a", "b"] g gd) (F_law_floor : FnOk P w K mg base CX0 1 g gd ["a", "b"] spFloor) : FnOk P w K mg base CX0 2 f fd ["a", "b"] spChain := by
  refine h.fn.ok sc_law_chain (fun vs H Q E h => ?_) (fun cdv A outer s H vs Q E hr h => ?_)
  · obtain ⟨a, b, rfl, _⟩ := h
    rfl
  · obtain ⟨a, b, rfl, ba, bb, q⟩ := h
    obtain ⟨x0, s0, y0, hs, ea, eb, ec, nx, ny⟩ := s_start a b
    have by0 : Bt 8000 (y0 : Int) := bb.le (by omega)
    refine ⟨_, (pss_cons (ps_set (i := 2) sc_law_chain.nd rfl (.inl rfl) (pe_lst pa_nil))
      (pss_cons (ps_while PassesOwn.never (pt_cmpR op_ne (pv 1) pe_int (nomark _)) (pss_cons (ps_set (i := 3) sc_law_chain.nd rfl (.inl rfl) (pe_call F_law_floor (hr.mono (by decide)) (by rfl) h_law_floor.gl h_law_floor.fn.kp h_law_floor.bd .nil pass0 (pa_cons (pv 0) (pa_cons (pv 1) pa_nil))))
      (pss_cons (ps_expr (pe_bm PySem.F.plainAttrs_list PySem.F.slot_list_append PySem.F.type_list_append mt_append (pv 2) (pa_cons (pv 3) pa_nil)))
      (pss_one (ps_par (i := 0) (j := 1) (by rfl) sc_law_chain.nd rfl rfl (by decide) rfl rfl (pa_cons (pv 1) (pa_cons (pe_op op_sub (pv 0) (pe_op op_mulB (pv 3) (pv 1))) pa_nil)) (by rfl))))))
      (pss_one (ps_ret (pe_callTy call_tupB (by rfl) z_tuple (by decide +kernel) (pa_cons (pv 2) pa_nil)))))), ?_⟩
    walk_at "rd"
    refine r_newL (few_le rfl) fun l H1 sm1 nl atl => ?_
    walk_at "rd"
    refine r_while (fun m σ H2 => ∃ (A B : Int) (done : List Int) (x s : Int) (y3 : Option V), σ = [some (.int A), some (.int B), some (.ref l), y3] ∧ Ch x0 y0 A B m done x s ∧ H2 l = some (.lst (done.map V.int)) ∧ Same H H2) y0
      ⟨a, b, [], x0, s0, none, rfl, ⟨hs, ea, eb, rfl, ba.le (by omega), by0⟩, atl, sm1⟩ (fun m σ H2 hp => ?_)
    obtain ⟨A, B, done, x, s, y3, rfl, c, at2, sm2⟩ := hp
    walk_at "rd"
    walk_at "two"
    · rename_i hB
      have y0' : m = 0 := by
        rcases c.hs with z | z <;> have e := c.eB <;> rw [z, hB] at e <;> omega
      subst y0'
      have e := c.rest
      rw [cL_zero, List.append_nil] at e
      walk_at "rd"
      refine r_tupL (sql_of at2) fun v H3 sm3 nv atv => ?_
      rw [e, ← ec] at atv
      exact q v H3 (sm2.trans sm3) atv
    · rename_i hB
      obtain ⟨hy, ed, c2, lt⟩ := c.next hB
      refine r_wl ?_
      walk_at "rd"
      have nB : B.natAbs = m := by
        rcases c.hs with z | z <;> rw [c.eB, z] <;> omega
      have bB : Bt 8000 B := c.by_.le (by omega)
      have ef : (if 0 < B then A / B else (-A) / (-B)) = x / (m : Int) := by
        by_cases p : 0 < B
        · rw [if_pos p, ← ed, Int.fdiv_eq_ediv_of_nonneg _ (by omega)]
        · rw [if_neg p, ← ed, ← Int.neg_fdiv_neg, Int.fdiv_eq_ediv_of_nonneg _ (by omega)]
      refine ⟨A, B, rfl, hB, bB, ?_⟩
      rw [ef]
      walk_at "rd"
      refine r_bmL (sql_of at2) ?_
      walk_at "rd"
      have few := c2.few by0
      rw [List.length_append, List.length_singleton] at few
      refine r_grow at2 (by rw [List.length_map]; omega) fun H3 k3 at3 => ?_
      walk_at "rd"
      have bq : Bt 8000 (x / (m : Int)) := c.bx.le (Int.natAbs_ediv_le_natAbs _ _)
      refine r_I ⟨7999, 7999, bq, bB, by decide⟩ ?_
      walk_at "rd"
      have er : A - x / (m : Int) * B = A.fmod B := by
        rw [Int.fmod_def, ed, Int.mul_comm]
      rw [er]
      refine ⟨_, lt, _, _, _, _, _, _, rfl, c2, ?_, Same.kp' sm2 nl k3⟩
      rw [at3, List.map_append]
      rfl
/-! rows of pairs -/
def pairD (p : Int × Int) : PyData := .tuple [.int p.1, .int p.2]
theorem dp_pair {H : Hp} {a : Addr} {p : Int × Int} (h : H a = some (.tup [.int p.1, .int p.2])) : Dp K H (.ref a) (pairD p) := .tup (sqt_of h) (.cons (.int _) (.cons (.int _) .nil))
theorem dpAll_snoc {H : Hp} {v : V} {d : PyData} (g : Dp K H v d) : ∀ {vs : List V} {ds : List PyData}, DpAll K H vs ds → DpAll K H (vs ++ [v]) (ds ++ [d])
  | _, _, .nil => .cons g .nil
  | _, _, .cons h t => .cons h (dpAll_snoc g t)
/-- one list may grow: what is no list stays; nests of tuples -/
def TupOnly : PyData → Prop
  | .tuple ds => ∀ d ∈ ds, ∃ i, d = .int i
  | _ => False
theorem pair_kl {H H' : Hp} {l a : Addr} {zs : List V} {p : Int × Int} (hl : H l = some (.lst zs)) (k : Kp l H H') (h : Dp K H (.ref a) (pairD p)) : Dp K H' (.ref a) (pairD p) := by
  cases h with
  | tup h1 h2 =>
    refine .tup (SqT.kl hl k h1) ?_
    cases h2 with
    | cons a b =>
      cases a
      cases b with
      | cons c d =>
        cases c
        cases d
        exact .cons (.int _) (.cons (.int _) .nil)
theorem pairs_kl {H H' : Hp} {l : Addr} {zs : List V} (hl : H l = some (.lst zs)) (k : Kp l H H') : ∀ {vs : List V} {ps : List (Int × Int)}, DpAll K H vs (ps.map pairD) → DpAll K H' vs (ps.map pairD)
  | [], [], _ => .nil
  | v :: vs, p :: ps, h => by
    rw [List.map_cons] at h ⊢
    cases h with
    | cons h1 h2 =>
      refine .cons ?_ (pairs_kl hl k h2)
      cases v with
      | ref a => exact pair_kl hl k h1
      | _ => cases h1
  | [], _ :: _, h => by
    rw [List.map_cons] at h
    cases h
  | _ :: _, [], h => by
    rw [List.map_nil] at h
    cases h
/-- the values of a row's beginnings -/
def heads (r : List Int) : List (Int × Int) := (List.range r.length).map fun i => fd (r.take (i + 1))
theorem heads_len (r : List Int) : (heads r).length = r.length := by
  unfold heads
  rw [List.length_map, List.length_range]
def part (r : List Int) (i : Nat) : List (Int × Int) := (List.range i).map fun i => fd (r.take (i + 1))
theorem part_succ (r : List Int) (i : Nat) : part r (i + 1) = part r i ++ [fd (r.take (i + 1))] := by
  unfold part
  rw [List.range_succ, List.map_append]
  rfl
theorem run_take {r : List Int} {i : Nat} {x : Int} (h : r[i]? = some x) : run4 s0 (r.take (i + 1)) = step4 (run4 s0 (r.take i)) x := by
  rw [List.take_add_one, h]
  exact run_snoc _ _ _
def spConv (K : PySem.W.Frag) : Sp := fun vs H Q _ => ∃ (a : Addr) (r : List Int) (c : Nat), vs = [.ref a] ∧ SqT K H a (r.map V.int) ∧ (∀ x ∈ r, x.natAbs + 1 ≤ 2 ^ c) ∧ c ≤ 1000 ∧ r.length ≤ 1000 ∧
  ∀ v H' vs, Same H H' → H' v = some (.tup vs) → DpAll K H' vs ((heads r).map pairD) → Q (.ref v) H'
theorem ok_conv {f : Addr} {fd_ : FuncData} (h : Has K mg "convergents" s_convergents ["row"] f fd_) (z_tuple : mg "tuple" = none) : FnOk P w K mg base CX0 1 f fd_ ["row"] (spConv K) := by
  refine h.fn.ok sc_convergents (fun vs H Q E h => ?_) (fun cdv A outer s H vs Q E hr h => ?_)
  · obtain ⟨a, r, c, rfl, _⟩ := h
    rfl
  · obtain ⟨a, r, c, rfl, hS, hc, c1, r1, q⟩ := h
    refine ⟨_, (pss_cons (ps_set (i := 1) sc_convergents.nd rfl (.inl rfl) (pe_lst pa_nil))
      (pss_cons (ps_asg (pe_tup (pa_cons pe_int (pa_cons pe_int pa_nil))) (pg_tup rfl (pgs_cons (pg_name (i := 2) sc_convergents.nd rfl (Or.inl rfl)) (pgs_cons (pg_name (i := 3) sc_convergents.nd rfl (Or.inl rfl)) pgs_nil))))
      (pss_cons (ps_asg (pe_tup (pa_cons pe_int (pa_cons pe_int pa_nil))) (pg_tup rfl (pgs_cons (pg_name (i := 4) sc_convergents.nd rfl (Or.inl rfl)) (pgs_cons (pg_name (i := 5) sc_convergents.nd rfl (Or.inl rfl)) pgs_nil))))
      (pss_cons (ps_for PassesOwn.never rfl (pi_tup (pv 0)) (pg_name (i := 6) sc_convergents.nd rfl (Or.inl rfl)) (pss_cons (ps_par (i := 2) (j := 4) (by rfl) sc_convergents.nd rfl rfl (by decide) rfl rfl (pa_cons (pe_op op_add (pe_op op_mulB (pv 6) (pv 2)) (pv 4)) (pa_cons (pv 2) pa_nil)) (by rfl))
      (pss_cons (ps_par (i := 3) (j := 5) (by rfl) sc_convergents.nd rfl rfl (by decide) rfl rfl (pa_cons (pe_op op_add (pe_op op_mulB (pv 6) (pv 3)) (pv 5)) (pa_cons (pv 3) pa_nil)) (by rfl))
      (pss_one (ps_expr (pe_bm PySem.F.plainAttrs_list PySem.F.slot_list_append PySem.F.type_list_append mt_append (pv 1) (pa_cons (pe_tup (pa_cons (pv 2) (pa_cons (pv 3) pa_nil))) pa_nil)))))))
      (pss_one (ps_ret (pe_callTy call_tupB (by rfl) z_tuple (by decide +kernel) (pa_cons (pv 1) pa_nil)))))))), ?_⟩
    walk_at "rd"
    refine r_newL (few_le rfl) fun l H1 sm1 nl atl => ?_
    walk_at "rd"
    rename_i p2 H2 sm2 np2 at2 p3 H3 sm3 np3 at3
    have sm23 := sm2.trans sm3
    have sm13 := sm1.trans sm23
    refine r_itt (SqT.same (sm13 _) hS) ?_
    refine fl_tup (xs := r.map V.int) (fun i σ H4 => ∃ (vs : List V) (y : Option V), σ = [some (.ref a), some (.ref l), some (.int (run4 s0 (r.take i)).p), some (.int (run4 s0 (r.take i)).q), some (.int (run4 s0 (r.take i)).pa), some (.int (run4 s0 (r.take i)).qa), y] ∧
        H4 l = some (.lst vs) ∧ vs.length = i ∧ DpAll K H4 vs ((part r i).map pairD) ∧ Same H H4)
      ⟨[], none, rfl, sm23 _ _ atl, rfl, .nil, sm13⟩ (fun i σ H4 _ hp => ?_) (fun i x σ H4 hi hp => ?_) (fun σ H4 hp => ?_)
    · obtain ⟨vs, y, rfl, _, _, _, sm⟩ := hp
      exact SqT.same (sm _) hS
    · obtain ⟨vs, y, rfl, at4, len4, dp4, sm4⟩ := hp
      rw [List.getElem?_map] at hi
      obtain ⟨z, hz, rfl⟩ := Option.map_eq_some_iff.mp hi
      have ir : i < r.length := (List.getElem?_eq_some_iff.mp hz).1
      have zr : z ∈ r := List.mem_of_getElem? hz
      have bz : Bt (c + 1) z := by
        have h1 := hc z zr
        exact Bt.mono (n := c) (show z.natAbs < 2 ^ c by omega) (by omega)
      have big := fd_big c (r.take i) fun x hx => hc x (List.mem_of_mem_take hx)
      have lt : (r.take i).length = i := by rw [List.length_take]; omega
      rw [lt] at big
      have p2 : 2 ^ (c * i + 1) = 2 * 2 ^ (c * i) := by rw [Nat.pow_succ]; omega
      have pos : 0 < 2 ^ (c * i) := Nat.two_pow_pos _
      have bp : Bt (c * i + 1) (run4 s0 (r.take i)).p := by
        rw [run_p]
        show _ < 2 ^ (c * i + 1)
        omega
      have bq : Bt (c * i + 1) (run4 s0 (r.take i)).q := by
        rw [run_q]
        show _ < 2 ^ (c * i + 1)
        omega
      have ci : c * i ≤ 1000 * 1000 := Nat.mul_le_mul c1 (by omega)
      walk_at "rd"
      refine r_I ⟨c, c * i, bz, bp, by omega⟩ ?_
      walk_at "rd"
      refine r_I ⟨c, c * i, bz, bq, by omega⟩ ?_
      walk_at "rd"
      refine r_bmL (sql_of at4) ?_
      walk_at "rd"
      rename_i t H5 sm5 nt att
      have st := run_take hz
      have ep : z * (run4 s0 (r.take i)).p + (run4 s0 (r.take i)).pa = (fd (r.take (i + 1))).1 := by
        rw [← run_p, st]
        rfl
      have eq_ : z * (run4 s0 (r.take i)).q + (run4 s0 (r.take i)).qa = (fd (r.take (i + 1))).2 := by
        rw [← run_q, st]
        rfl
      refine r_grow (sm5 _ _ at4) (by omega) fun H6 k6 at6 => ?_
      have at5 := sm5 _ _ at4
      have d5 : Dp K H5 (.ref t) (pairD (fd (r.take (i + 1)))) := by
        refine dp_pair ?_
        rw [att, ep, eq_]
      refine ⟨vs ++ [.ref t], some (.int z), ?_, at6, by rw [List.length_append, List.length_singleton]; omega, ?_, Same.kp' (sm4.trans sm5) nl k6⟩
      · rw [st]
        rfl
      · rw [part_succ, List.map_append]
        refine dpAll_snoc (pair_kl at5 k6 d5) ?_
        refine pairs_kl at5 k6 ?_
        exact DpAll.same sm5 dp4
    · obtain ⟨vs, y, rfl, at4, len4, dp4, sm4⟩ := hp
      rw [List.length_map] at dp4
      walk_at "rd"
      refine r_tupL (sql_of at4) fun v H5 sm5 nv atv => ?_
      exact q v H5 vs (sm4.trans sm5) atv (DpAll.same sm5 dp4)
/-! a row from its end -/
def spFold (K : PySem.W.Frag) : Sp := fun vs H Q _ => ∃ (a : Addr) (r : List Int) (c : Nat), vs = [.ref a] ∧ SqT K H a (r.map V.int) ∧ r ≠ [] ∧ (∀ x ∈ r, x.natAbs + 1 ≤ 2 ^ c) ∧ c ≤ 1000 ∧ r.length ≤ 1000 ∧
  ∀ v H', Same H H' → H' v = some (.tup [.int (fd r).1, .int (fd r).2]) → Q (.ref v) H'
theorem cut_last {r : List V} (h : r ≠ []) : cutV r none (some (-1)) = r.dropLast := by
  have h1 : 0 < r.length := List.length_pos_iff.mpr h
  unfold cutV
  rw [show HT.sIx r.length 0 none = 0 from rfl, List.drop_zero, Nat.sub_zero, List.dropLast_eq_take]
  have e : HT.sIx r.length r.length (some (-1)) = r.length - 1 := by
    have e2 := HT.clip_eq (-1) r.length r.length
    rw [if_pos (by decide)] at e2
    omega
  rw [e]
theorem ok_fold {f : Addr} {fd_ : FuncData} (h : Has K mg "_law_folded" s_law_folded ["row"] f fd_) : FnOk P w K mg base CX0 1 f fd_ ["row"] (spFold K) := by
  refine h.fn.ok sc_law_folded (fun vs H Q E h => ?_) (fun cdv A outer s H vs Q E hr h => ?_)
  · obtain ⟨a, r, c, rfl, _⟩ := h
    rfl
  · obtain ⟨a, r, c, rfl, hS, hne, hc, c1, r1, q⟩ := h
    have hr0 : r.map V.int ≠ [] := by
      cases r with
      | nil => exact absurd rfl hne
      | cons x t => simp
    obtain ⟨b, z, rfl⟩ : ∃ b z, r = b ++ [z] := ⟨r.dropLast, r.getLast hne, (List.dropLast_concat_getLast hne).symm⟩
    refine ⟨_, (pss_cons (ps_par (i := 1) (j := 2) (by rfl) sc_law_folded.nd rfl rfl (by decide) rfl rfl (pa_cons (pe_ix ix_tup (pv 0) (pe_un un_neg pe_int) (fun _ _ => rfl)) (pa_cons pe_int pa_nil)) (by rfl))
      (pss_cons (ps_for PassesOwn.never rfl (pi_tup (pe_backT (pe_slice sl_tupA (pv 0) po_none (po_some (pe_un un_neg pe_int))))) (pg_name (i := 3) sc_law_folded.nd rfl (Or.inl rfl)) (pss_one (ps_par (i := 1) (j := 2) (by rfl) sc_law_folded.nd rfl rfl (by decide) rfl rfl (pa_cons (pe_op op_add (pe_op op_mulB (pv 3) (pv 1)) (pv 2)) (pa_cons (pv 1) pa_nil)) (by rfl))))
      (pss_one (ps_ret (pe_tup (pa_cons (pv 1) (pa_cons (pv 2) pa_nil))))))), ?_⟩
    have lst : atI ((b ++ [z]).map V.int) (-1) = some (.int z) := by
      rw [List.map_append]
      exact atI_last _ _
    have cutb : cutV ((b ++ [z]).map V.int) none (some (-1)) = b.map V.int := by
      rw [cut_last hr0, List.map_append]
      exact List.dropLast_concat
    walk_at "rd"
    refine r_ixT hS lst ?_
    walk_at "rd"
    refine r_slT hS fun t H1 sm1 ht => ?_
    rw [cutb] at ht
    walk_at "rd"
    refine r_backT ht fun t2 H2 sm2 nt2 at2 => ?_
    walk_at "rd"
    refine r_itt (sqt_of at2) ?_
    refine fl_tup (xs := (b.map V.int).reverse) (fun i σ H3 => ∃ (y : Option V), σ = [some (.ref a), some (.int (fd ((b ++ [z]).drop (b.length - i))).1), some (.int (fd ((b ++ [z]).drop (b.length - i))).2), y] ∧ H3 = H2)
      ⟨none, ?_, rfl⟩ (fun i σ H3 _ hp => ?_) (fun i x σ H3 hi hp => ?_) (fun σ H3 hp => ?_)
    · rw [Nat.sub_zero, List.drop_left]
      have e : (fd [z]).1 = z := by
        show z * 1 + 0 = z
        omega
      have e2 : (fd [z]).2 = 1 := rfl
      rw [e, e2]
      rfl
    · obtain ⟨y, rfl, rfl⟩ := hp
      exact sqt_of at2
    · obtain ⟨y, rfl, rfl⟩ := hp
      have il : i < b.length := by
        have := (List.getElem?_eq_some_iff.mp hi).1
        rw [List.length_reverse, List.length_map] at this
        exact this
      rw [← List.map_reverse, List.getElem?_map] at hi
      obtain ⟨v, hv, rfl⟩ := Option.map_eq_some_iff.mp hi
      rw [List.getElem?_reverse il] at hv
      have ei : b.length - 1 - i = b.length - (i + 1) := by omega
      rw [ei] at hv
      have jl : b.length - (i + 1) < b.length := by omega
      have vb : v = b[b.length - (i + 1)] := by
        rw [List.getElem?_eq_getElem jl] at hv
        exact (Option.some.inj hv).symm
      have dr : (b ++ [z]).drop (b.length - (i + 1)) = v :: (b ++ [z]).drop (b.length - i) := by
        have jl2 : b.length - (i + 1) < (b ++ [z]).length := by rw [List.length_append]; omega
        rw [List.drop_eq_getElem_cons jl2, List.getElem_append_left jl, ← vb]
        have : b.length - (i + 1) + 1 = b.length - i := by omega
        rw [this]
      have vr : v ∈ b ++ [z] := List.mem_append_left _ (List.mem_of_getElem? hv)
      have bz : Bt (c + 1) v := by
        have h1 := hc v vr
        exact Bt.mono (n := c) (show v.natAbs < 2 ^ c by omega) (by omega)
      have big := fd_big c ((b ++ [z]).drop (b.length - i)) fun x hx => hc x (List.mem_of_mem_drop hx)
      have ll : ((b ++ [z]).drop (b.length - i)).length ≤ 1000 := by
        rw [List.length_drop]
        omega
      generalize hn : c * ((b ++ [z]).drop (b.length - i)).length = n at big
      have ci : n ≤ 1000 * 1000 := by
        rw [← hn]
        exact Nat.mul_le_mul c1 ll
      have p2 : 2 ^ (n + 1) = 2 * 2 ^ n := by rw [Nat.pow_succ]; omega
      have pos : 0 < 2 ^ n := Nat.two_pow_pos _
      have bp : Bt (n + 1) (fd ((b ++ [z]).drop (b.length - i))).1 := by
        show _ < 2 ^ (n + 1)
        omega
      walk_at "rd"
      refine r_I ⟨c, n, bz, bp, by omega⟩ ?_
      walk_at "rd"
      refine ⟨some (.int v), ?_, rfl⟩
      rw [dr]
      rfl
    · obtain ⟨y, rfl, rfl⟩ := hp
      have e : b.length - (b.map V.int).reverse.length = 0 := by
        rw [List.length_reverse, List.length_map, Nat.sub_self]
      rw [e, List.drop_zero]
      walk_at "rd"
      rename_i t3 H4 sm4 nt3 at3
      exact q t3 H4 (sm1.trans (sm2.trans sm4)) at3
end
end L15
namespace L15
open PySem PySem.Spec PyProof.Rows L2 GB M15
section
variable {P : Program} {w : World} {K : PySem.W.Frag} {mg : Str → Option Value} {base : Heap}
def rPar3 (vs : List V) (H : Hp) (Q : V → V → V → Hp → Prop) : Prop := ∃ u v w, vs = [u, v, w] ∧ Q u v w H
theorem r_par3 {σ : L2.St} {H : Hp} {D : Ends} {a b c : Nat} {ta : TA} (q : ta σ H fun vs H1 => rPar3 vs H1 fun u v w H2 => D.nx (((σ.set a (some u)).set b (some v)).set c (some w)) H2) : tPar3 a b c ta D σ H := q
theorem r_three {H : Hp} {u v w : V} {Q : V → V → V → Hp → Prop} (q : Q u v w H) : rPar3 [u, v, w] H Q := ⟨u, v, w, rfl, q⟩
def spCommon : Sp := fun vs H Q _ => ∃ a b : Int, vs = [.int a, .int b] ∧ Bt 8000 a ∧ Bt 8000 b ∧ Q (.int (Int.gcd a b : Nat)) H
theorem ok_common {f : Addr} {fd_ : FuncData} (h : Has K mg "_law_common" s_law_common ["a", "b"] f fd_) (z_abs : mg "abs" = none) : FnOk P w K mg base CX0 1 f fd_ ["a", "b"] spCommon := by
  refine h.fn.ok sc_law_common (fun vs H Q E h => ?_) (fun cdv A outer s H vs Q E hr h => ?_)
  · obtain ⟨a, b, rfl, _⟩ := h
    rfl
  · obtain ⟨a, b, rfl, ba, bb, q⟩ := h
    have eg : Int.gcd a b = Nat.gcd a.natAbs b.natAbs := rfl
    rw [eg] at q
    have ba' : a.natAbs < 2 ^ 8000 := ba
    have bb' : b.natAbs < 2 ^ 8000 := bb
    refine ⟨_, (pss_cons (ps_par3 (i := 0) (j := 1) (l := 2) (by rfl) sc_law_common.nd rfl rfl rfl (by decide) (by decide) (by decide) rfl rfl rfl (pa_cons (pe_callB call_absB (by rfl) z_abs (by decide +kernel) (pa_cons (pv 0) pa_nil)) (pa_cons (pe_callB call_absB (by rfl) z_abs (by decide +kernel) (pa_cons (pv 1) pa_nil)) (pa_cons pe_int pa_nil))) (by rfl))
      (pss_cons (ps_if (PW.pt (pw_or (pt_cmpR op_eq (pv 0) pe_int (nomark _)) (pw_or1 (pt_cmpR op_eq (pv 1) pe_int (nomark _))))) (pss_one (ps_ret (pe_op op_add (pv 0) (pv 1)))) pss_nil)
      (pss_cons (ps_while PassesOwn.never (PW.pt (pw_and (pt_cmpR op_eq (pe_op op_mod (pv 0) pe_int) pe_int (nomark _)) (pw_and1 (pt_cmpR op_eq (pe_op op_mod (pv 1) pe_int) pe_int (nomark _))))) (pss_one (ps_par3 (i := 0) (j := 1) (l := 2) (by rfl) sc_law_common.nd rfl rfl rfl (by decide) (by decide) (by decide) rfl rfl rfl (pa_cons (pe_op op_fdivW (pv 0) pe_int) (pa_cons (pe_op op_fdivW (pv 1) pe_int) (pa_cons (pe_op op_mulB (pv 2) pe_int) pa_nil))) (by rfl))))
      (pss_cons (ps_while PassesOwn.never (pt_cmpR op_ne (pv 0) (pv 1) (nomark _)) (pss_one (ps_if (pt_cmpR op_eq (pe_op op_mod (pv 0) pe_int) pe_int (nomark _)) (pss_one (ps_set (i := 0) sc_law_common.nd rfl (.inl rfl) (pe_op op_fdivW (pv 0) pe_int))) (pss_one (ps_if (pt_cmpR op_eq (pe_op op_mod (pv 1) pe_int) pe_int (nomark _)) (pss_one (ps_set (i := 1) sc_law_common.nd rfl (.inl rfl) (pe_op op_fdivW (pv 1) pe_int))) (pss_one (ps_if (pt_cmpR op_gt (pv 0) (pv 1) (nomark _)) (pss_one (ps_set (i := 0) sc_law_common.nd rfl (.inl rfl) (pe_op op_fdivW (pe_op op_sub (pv 0) (pv 1)) pe_int))) (pss_one (ps_set (i := 1) sc_law_common.nd rfl (.inl rfl) (pe_op op_fdivW (pe_op op_sub (pv 1) (pv 0)) pe_int))))))))))
      (pss_one (ps_ret (pe_op op_mulB (pv 0) (pv 2)))))))), ?_⟩
    walk_at "rd"
    refine r_par3 ?_
    walk_at "rd"
    refine r_three ?_
    generalize a.natAbs = X at q ba' ⊢
    generalize b.natAbs = Y at q bb' ⊢
    clear eg ba bb
    have bX : ∀ x : Nat, x ≤ X → Bt (8000 + 1) (x : Int) := fun x hx => by
      refine Bt.mono (n := 8000) ?_ (by decide)
      show (x : Int).natAbs < _
      rw [Int.natAbs_natCast]
      omega
    walk_at "all"
    · have e : Nat.gcd X Y = Y := by
        have : X = 0 := by omega
        rw [this, Nat.gcd_zero_left]
      rw [e] at q
      have e2 : (X : Int) + (Y : Int) = (Y : Int) := by omega
      rw [e2]
      exact q
    · have e : Nat.gcd X Y = X := by
        have : Y = 0 := by omega
        rw [this, Nat.gcd_zero_right]
      rw [e] at q
      have e2 : (X : Int) + (Y : Int) = (X : Int) := by omega
      rw [e2]
      exact q
    · have X0 : 0 < X := by omega
      have Y0 : 0 < Y := by omega
      refine r_while (fun m σ H2 => ∃ x y t : Nat, σ = [some (.int (x : Int)), some (.int (y : Int)), some (.int (t : Int))] ∧ m = x ∧ 0 < x ∧ 0 < y ∧ 0 < t ∧ t * x = X ∧ t * y = Y ∧ H2 = H) X
        ⟨X, Y, 1, rfl, rfl, X0, Y0, by decide, Nat.one_mul _, Nat.one_mul _, rfl⟩ (fun m σ H2 hp => ?_)
      obtain ⟨x, y, t, rfl, rfl, x0, y0, t0, ex, ey, rfl⟩ := hp
      have tX : t ≤ X := by
        rw [← ex]
        exact Nat.le_mul_of_pos_right _ x0
      have xX : m ≤ X := by
        rw [← ex]
        exact Nat.le_mul_of_pos_left _ t0
      have gG : t * Nat.gcd m y = Nat.gcd X Y := by rw [← ex, ← ey, Nat.gcd_mul_left]
      walk_at "all"
      · refine r_wl ?_
        walk_at "rd"
        refine r_par3 ?_
        walk_at "rd"
        refine r_I ⟨8000, 61, bX t tX, Bt.small (by decide) (by decide), by decide⟩ ?_
        walk_at "rd"
        refine r_three ?_
        refine ⟨m / 2, by omega, m / 2, y / 2, t * 2, ?_, rfl, by omega, by omega, by omega, ?_, ?_, rfl⟩
        · have e1 : ((m / 2 : Nat) : Int) = (m : Int) / 2 := by omega
          have e2 : ((y / 2 : Nat) : Int) = (y : Int) / 2 := by omega
          have e3 : ((t * 2 : Nat) : Int) = (t : Int) * 2 := by omega
          rw [e1, e2, e3]
        · rw [← ex, Nat.mul_assoc]
          have : 2 * (m / 2) = m := by omega
          rw [this]
        · rw [← ey, Nat.mul_assoc]
          have : 2 * (y / 2) = y := by omega
          rw [this]
      all_goals
        have od : ¬ (m % 2 = 0 ∧ y % 2 = 0) := by omega
        refine r_while (fun k σ H3 => ∃ u v : Nat, σ = [some (.int (u : Int)), some (.int (v : Int)), some (.int (t : Int))] ∧ k = u + v ∧ 0 < u ∧ 0 < v ∧ Nat.gcd u v = Nat.gcd m y ∧ ¬ (u % 2 = 0 ∧ v % 2 = 0) ∧ u ≤ m ∧ H3 = H2) (m + y)
          ⟨m, y, rfl, rfl, x0, y0, rfl, od, Nat.le_refl _, rfl⟩ (fun k σ H3 hp => ?_)
        obtain ⟨u, v, rfl, rfl, u0, v0, eg, ou, um, rfl⟩ := hp
        walk_at "rd"
        refine r_iteN (fun h => ?_) (fun h => ?_)
        · have e : u = v := by omega
          subst e
          rw [Nat.gcd_self] at eg
          walk_at "rd"
          refine r_I ⟨8000, 8000, bX u (by omega), bX t tX, by decide⟩ ?_
          rw [← gG, ← eg, Nat.mul_comm] at q
          have e2 : ((u * t : Nat) : Int) = (u : Int) * (t : Int) := Int.natCast_mul _ _
          rw [e2] at q
          exact q
        · refine r_wl ?_
          walk_at "all"
          · refine ⟨u / 2 + v, by omega, u / 2, v, ?_, rfl, by omega, v0, ?_, by omega, by omega, rfl⟩
            · have e1 : ((u / 2 : Nat) : Int) = (u : Int) / 2 := by omega
              rw [e1]
            · rw [← eg]
              exact half_left (by omega) (by omega)
          · refine ⟨u + v / 2, by omega, u, v / 2, ?_, rfl, u0, by omega, ?_, by omega, um, rfl⟩
            · have e1 : ((v / 2 : Nat) : Int) = (v : Int) / 2 := by omega
              rw [e1]
            · rw [← eg]
              exact half_right (by omega) (by omega)
          · refine ⟨(u - v) / 2 + v, by omega, (u - v) / 2, v, ?_, rfl, by omega, v0, ?_, by omega, by omega, rfl⟩
            · have e1 : (((u - v) / 2 : Nat) : Int) = ((u : Int) - (v : Int)) / 2 := by omega
              rw [e1]
            · rw [← eg]
              exact half_sub (by omega) (by omega) (by omega)
          · refine ⟨u + (v - u) / 2, by omega, u, (v - u) / 2, ?_, rfl, u0, by omega, ?_, by omega, um, rfl⟩
            · have e1 : (((v - u) / 2 : Nat) : Int) = ((v : Int) - (u : Int)) / 2 := by omega
              rw [e1]
            · rw [← eg]
              exact half_sub' (by omega) (by omega) (by omega)
end
end L15
namespace L15
open PySem PySem.Spec PyProof.Rows L2 GB M15
section
variable {P : Program} {w : World} {K : PySem.W.Frag} {mg : Str → Option Value} {base : Heap}
def spNear (K : PySem.W.Frag) : Sp := fun vs H Q _ => ∃ (a b : Addr) (X Y p q : Int), vs = [.ref a, .ref b] ∧ SqT K H a [.int X, .int Y] ∧ SqT K H b [.int p, .int q] ∧ 0 < Y ∧ q < 40 ∧ 0 < q ∧ Bt 7000 X ∧ Bt 7000 Y ∧ Bt 7000 p ∧
  (∀ d n : Int, 1 ≤ d → d < q → (((X * q - p * Y).natAbs : Nat) : Int) * d < (((X * d - n * Y).natAbs : Nat) : Int) * q) ∧ ∀ H', Same H H' → Q (.bl true) H'
theorem ok_near {f g : Addr} {fd_ gd : FuncData} (h : Has K mg "_law_is_nearest" s_law_is_nearest ["whole", "pair"] f fd_) (z_range : mg "range" = none) (z_abs : mg "abs" = none)
    (h_law_floor : Has K mg "_law_floor" s_law_floor ["a", "b"] g gd) (F_law_floor : FnOk P w K mg base CX0 1 g gd ["a", "b"] spFloor) : FnOk P w K mg base CX0 2 f fd_ ["whole", "pair"] (spNear K) := by
  refine h.fn.ok sc_law_is_nearest (fun vs H Q E h => ?_) (fun cdv A outer s H vs Q E hr h => ?_)
  · obtain ⟨a, b, X, Y, p, q, rfl, _⟩ := h
    rfl
  · obtain ⟨a, b, X, Y, p, q, rfl, hA, hB, Y0, q40, q0, bX, bY, bp, far, k⟩ := h
    refine ⟨_, (pss_cons (ps_asg (pv 1) (pg_tup rfl (pgs_cons (pg_name (i := 2) sc_law_is_nearest.nd rfl (Or.inl rfl)) (pgs_cons (pg_name (i := 3) sc_law_is_nearest.nd rfl (Or.inl rfl)) pgs_nil))))
      (pss_cons (ps_for PassesOwn.never rfl (pi_range2 rfl z_range (pa_cons pe_int (pa_cons (pv 3) pa_nil))) (pg_name (i := 4) sc_law_is_nearest.nd rfl (Or.inl rfl)) (pss_cons (ps_set (i := 5) sc_law_is_nearest.nd rfl (.inl rfl) (pe_call F_law_floor (hr.mono (by decide)) (by rfl) h_law_floor.gl h_law_floor.fn.kp h_law_floor.bd .nil pass0 (pa_cons (pe_op op_mulB (pe_ix ix_tup (pv 0) pe_int (fun _ _ => rfl)) (pv 4)) (pa_cons (pe_ix ix_tup (pv 0) pe_int (fun _ _ => rfl)) pa_nil))))
      (pss_one (ps_for PassesOwn.never rfl (pi_list (pe_lst (pa_cons (pv 5) (pa_cons (pe_op op_add (pv 5) pe_int) pa_nil)))) (pg_name (i := 6) sc_law_is_nearest.nd rfl (Or.inl rfl)) (pss_cons (ps_set (i := 7) sc_law_is_nearest.nd rfl (.inl rfl) (pe_op op_mulB (pe_callB call_absB (by rfl) z_abs (by decide +kernel) (pa_cons (pe_op op_sub (pe_op op_mulB (pe_ix ix_tup (pv 0) pe_int (fun _ _ => rfl)) (pv 3)) (pe_op op_mulB (pv 2) (pe_ix ix_tup (pv 0) pe_int (fun _ _ => rfl)))) pa_nil)) (pv 4)))
      (pss_one (ps_if (pt_cmpR op_ge (pv 7) (pe_op op_mulB (pe_callB call_absB (by rfl) z_abs (by decide +kernel) (pa_cons (pe_op op_sub (pe_op op_mulB (pe_ix ix_tup (pv 0) pe_int (fun _ _ => rfl)) (pv 4)) (pe_op op_mulB (pv 6) (pe_ix ix_tup (pv 0) pe_int (fun _ _ => rfl)))) pa_nil)) (pv 3)) (nomark _)) (pss_one (ps_ret pe_bl)) pss_nil)))))))
      (pss_one (ps_ret pe_bl)))), ?_⟩
    have i0 : ∀ {u v : Int}, atI [V.int u, V.int v] 0 = some (.int u) := fun {u v} => atI_nat (j := 0) rfl
    have i1 : ∀ {u v : Int}, atI [V.int u, V.int v] 1 = some (.int v) := fun {u v} => atI_nat (j := 1) rfl
    walk_at "rd"
    refine r_rngM (by decide) (by decide) (by omega) (by omega) ?_
    refine fl_range (fun i σ H1 => ∃ (y4 y5 y6 y7 : Option V), σ = [some (.ref a), some (.ref b), some (.int p), some (.int q), y4, y5, y6, y7] ∧ Same H H1)
      ⟨none, none, none, none, rfl, Same.refl H⟩ (fun i σ H1 hi hp => ?_) (fun σ H1 hp => ?_)
    · obtain ⟨y4, y5, y6, y7, rfl, sm1⟩ := hp
      have iq : 1 + (i : Int) < q := by omega
      have hA1 : SqT K H1 a [.int X, .int Y] := SqT.same (sm1 _) hA
      have sm62 : ∀ {z : Int}, 0 ≤ z → z < 40 → Bt (61 + 1) z := fun h1 h2 => Bt.small (by omega) (by omega)
      walk_at "rd"
      refine r_ixT hA1 i0 ?_
      walk_at "rd"
      refine r_I ⟨6999, 61, bX, sm62 (by omega) (by omega), by decide⟩ ?_
      walk_at "rd"
      refine r_ixT hA1 i1 ?_
      walk_at "rd"
      refine ⟨X * (1 + (i : Int)), Y, rfl, by omega, bY.mono (by decide), ?_⟩
      rw [if_pos Y0]
      have bl0 : Bt 7063 (X * (1 + (i : Int)) / Y) := by
        refine Bt.le ((bX.mul (sm62 (z := 1 + (i : Int)) (by omega) (by omega))).mono (by decide)) (Int.natAbs_ediv_le_natAbs _ _)
      generalize X * (1 + (i : Int)) / Y = low at bl0 ⊢
      have bl1 : Bt 7064 (low + 1) := (Bt.add (n := 7063) bl0 ((Bt.small (x := 1) (by decide) (by decide)).mono (by decide)))
      walk_at "rd"
      refine r_newL (few_le rfl) fun l H2 sm2 nl atl => ?_
      walk_at "rd"
      refine r_ill (sql_of atl) ?_
      refine fl_list (xs := [V.int low, V.int (low + 1)]) (fun j σ H3 => ∃ (y6 y7 : Option V), σ = [some (.ref a), some (.ref b), some (.int p), some (.int q), some (.int (1 + (i : Int))), some (.int low), y6, y7] ∧ H3 = H2)
        ⟨y6, y7, rfl, rfl⟩ (fun j σ H3 _ hp => ?_) (fun j x σ H3 hj hp => ?_) (fun σ H3 hp => ?_)
      · obtain ⟨y6, y7, rfl, rfl⟩ := hp
        exact sql_of atl
      · obtain ⟨y6, y7, rfl, rfl⟩ := hp
        have hx : ∃ n : Int, x = .int n ∧ Bt 7064 n := by
          match j, hj with
          | 0, hj => exact ⟨low, (Option.some.inj hj).symm, bl0.mono (by decide)⟩
          | 1, hj => exact ⟨low + 1, (Option.some.inj hj).symm, bl1⟩
          | j + 2, hj => simp at hj
        obtain ⟨n, rfl, bn⟩ := hx
        have hA2 : SqT K H3 a [.int X, .int Y] := SqT.same (sm2 _) hA1
        have fr := far (1 + (i : Int)) n (by omega) iq
        walk_at "rd"
        refine r_ixT hA2 i0 ?_
        walk_at "rd"
        refine r_I ⟨6999, 61, bX, sm62 (by omega) q40, by decide⟩ ?_
        walk_at "rd"
        refine r_ixT hA2 i1 ?_
        walk_at "rd"
        refine r_I ⟨6999, 6999, bp, bY, by decide⟩ ?_
        walk_at "rd"
        have b1 : Bt (14001 + 1) ((((X * q - p * Y).natAbs : Nat) : Int)) := by
          have h1 : Bt 14001 (X * q - p * Y) := Bt.sub ((bX.mul (sm62 (z := q) (by omega) q40)).mono (by decide)) ((bp.mul bY).mono (by decide))
          exact (h1.mono (by decide)).le (by omega)
        refine r_I ⟨14001, 61, b1, sm62 (by omega) (by omega), by decide⟩ ?_
        walk_at "rd"
        refine r_ixT hA2 i0 ?_
        walk_at "rd"
        refine r_I ⟨6999, 61, bX, sm62 (by omega) (by omega), by decide⟩ ?_
        walk_at "rd"
        refine r_ixT hA2 i1 ?_
        walk_at "rd"
        refine r_I ⟨7063, 6999, bn, bY, by decide⟩ ?_
        walk_at "rd"
        have b2 : Bt (14065 + 1) ((((X * (1 + (i : Int)) - n * Y).natAbs : Nat) : Int)) := by
          have h1 : Bt 14065 (X * (1 + (i : Int)) - n * Y) := Bt.sub ((bX.mul (sm62 (z := 1 + (i : Int)) (by omega) (by omega))).mono (by decide)) ((bn.mul bY).mono (by decide))
          exact (h1.mono (by decide)).le (by omega)
        refine r_I ⟨14065, 61, b2, sm62 (by omega) q40, by decide⟩ ?_
        walk_at "rd"
        refine r_ite (fun hge => ?_) (fun hge => ?_)
        · exact absurd fr (by omega)
        · walk_at "rd"
          exact ⟨_, _, rfl, rfl⟩
      · obtain ⟨y6, y7, rfl, rfl⟩ := hp
        exact ⟨_, _, _, _, rfl, sm1.trans sm2⟩
    · obtain ⟨y4, y5, y6, y7, rfl, sm1⟩ := hp
      walk_at "rd"
      exact k H1 sm1
end
end L15
namespace L15
open PySem PySem.Spec PyProof.Rows L2 GB M15
section
variable {P : Program} {w : World} {K : PySem.W.Frag} {mg : Str → Option Value} {base : Heap}
theorem CPowB.of {n : Nat} {i j : Int} (h : Bt (n + 1) i) (h0 : 0 ≤ j) (l : ((n : Int) + 2) * j ≤ 2 ^ 27) : CPowB i j := by
  refine ⟨h0, Int.le_trans (Int.mul_le_mul_of_nonneg_right ?_ h0) l⟩
  have b : Builtin.Int.intBits i ≤ i.natAbs.log2 + 1 := by
    unfold Builtin.Int.intBits
    split <;> omega
  have := h.log
  omega
theorem dp_at {H : Hp} : ∀ {vs : List V} {ps : List (Int × Int)} {i : Nat} {p : Int × Int}, DpAll K H vs (ps.map pairD) → ps[i]? = some p → ∃ a : Addr, vs[i]? = some (.ref a) ∧ SqT K H a [.int p.1, .int p.2] ∧ Dp K H (.ref a) (pairD p)
  | [], [], i, p, _, h => by simp at h
  | v :: vs, q :: ps, 0, p, hd, h => by
    have e : q = p := by simpa using h
    subst e
    rw [List.map_cons] at hd
    cases hd with
    | cons h1 h2 =>
      cases v with
      | ref a =>
        refine ⟨a, rfl, ?_, h1⟩
        cases h1 with
        | tup s g =>
          cases g with
          | cons g1 g2 =>
            cases g1
            cases g2 with
            | cons g3 g4 =>
              cases g3
              cases g4
              exact s
      | _ => cases h1
  | v :: vs, q :: ps, i + 1, p, hd, h => by
    rw [List.map_cons] at hd
    cases hd with
    | cons h1 h2 =>
      obtain ⟨a, h3, h4⟩ := dp_at (i := i) h2 (by simpa using h)
      exact ⟨a, by simpa using h3, h4⟩
  | [], _ :: _, _, _, hd, _ => by
    rw [List.map_cons] at hd
    cases hd
  | _ :: _, [], _, _, hd, _ => by
    rw [List.map_nil] at hd
    cases hd
theorem dp_len {H : Hp} : ∀ {vs : List V} {ds : List PyData}, DpAll K H vs ds → vs.length = ds.length
  | _, _, .nil => rfl
  | _, _, .cons _ t => congrArg (· + 1) (dp_len t)
theorem heads_at {r : List Int} {i : Nat} (h : i < r.length) : (heads r)[i]? = some (fd (r.take (i + 1))) := by
  unfold heads
  rw [List.getElem?_map, List.getElem?_range h]
  rfl
theorem heads_last {r : List Int} (h : r ≠ []) : (heads r)[r.length - 1]? = some (fd r) := by
  have l : 0 < r.length := List.length_pos_iff.mpr h
  rw [heads_at (by omega)]
  have e : r.length - 1 + 1 = r.length := by omega
  rw [e, List.take_length]
theorem cut_take {xs : List V} {k : Nat} {z : Int} (e : z = (k : Int)) (h : k ≤ xs.length) : cutV xs none (some z) = xs.take k := by
  subst e
  unfold cutV
  rw [show HT.sIx xs.length 0 none = 0 from rfl, List.drop_zero, Nat.sub_zero]
  have e : HT.sIx xs.length xs.length (some (k : Int)) = k := by
    have e2 := HT.clip_eq (k : Int) xs.length xs.length
    rw [if_neg (by omega)] at e2
    omega
  rw [e]
theorem cut_two {b : List V} {u v : V} : cutV (b ++ [u, v]) none (some (-2)) = b := by
  unfold cutV
  rw [show HT.sIx (b ++ [u, v]).length 0 none = 0 from rfl, List.drop_zero, Nat.sub_zero]
  have l : (b ++ [u, v]).length = b.length + 2 := by rw [List.length_append]; rfl
  have e : HT.sIx (b ++ [u, v]).length (b ++ [u, v]).length (some (-2)) = b.length := by
    have e2 := HT.clip_eq (-2) (b ++ [u, v]).length (b ++ [u, v]).length
    rw [if_pos (by decide)] at e2
    omega
  rw [e]
  exact List.take_left' rfl
/-- how great the values of a row's beginnings are -/
theorem head_bits {r : List Int} {c m : Nat} (hc : ∀ x ∈ r, x.natAbs + 1 ≤ 2 ^ c) (hm : c * r.length ≤ m) (j : Nat) : Bt (m + 1) (fd (r.take j)).1 ∧ Bt (m + 1) (fd (r.take j)).2 := by
  have big := fd_big c (r.take j) fun x hx => hc x (List.mem_of_mem_take hx)
  have l : c * (r.take j).length ≤ m := Nat.le_trans (Nat.mul_le_mul_left c (by rw [List.length_take]; omega)) hm
  have p : 2 ^ (c * (r.take j).length) ≤ 2 ^ m := Nat.pow_le_pow_right (by decide) l
  have p2 : 2 ^ (m + 1) = 2 * 2 ^ m := by rw [Nat.pow_succ]; omega
  have pos : 0 < 2 ^ m := Nat.two_pow_pos _
  unfold Bt
  omega
theorem heads_fine {r : List Int} {c : Nat} (hc : ∀ x ∈ r, x.natAbs + 1 ≤ 2 ^ c) (hm : c * r.length ≤ 1700) : Fine 1701 2 (r.length * 3) (.tuple ((heads r).map pairD)) := by
  have h : FineAll 1701 1 (((heads r).map pairD).length * (2 + 1)) ((heads r).map pairD) := FineAll.of fun d hd => by
    obtain ⟨p, hp, rfl⟩ := List.mem_map.mp hd
    unfold heads at hp
    obtain ⟨i, _, rfl⟩ := List.mem_map.mp hp
    have b := head_bits hc hm (i + 1)
    exact ((Fine.int b.1 (by decide)).two (Fine.int b.2 (by decide))).tuple
  rw [List.length_map, heads_len] at h
  exact h.tuple
theorem ints_fine {r : List Int} {b : Nat} (h : ∀ x ∈ r, Bt b x) (l : b ≤ 1900) : Fine b 1 r.length (.tuple (r.map PyData.int)) := (FineAll.ints h l).tuple
def spRow (K : PySem.W.Frag) : Sp := fun vs H Q _ => ∃ (a : Addr) (x0 : Int) (t : List Int) (c : Nat), vs = [.ref a] ∧ SqT K H a ((x0 :: t).map V.int) ∧ Ones t ∧ (∀ x ∈ x0 :: t, x.natAbs + 1 ≤ 2 ^ c) ∧ c ≤ 1000 ∧ (x0 :: t).length ≤ 1000 ∧ c * (x0 :: t).length ≤ 1700 ∧
  ∀ H', Same H H' → Q (.bl true) H'
theorem ok_row {f f1 f2 f3 f4 f5 f6 : Addr} {fd_ g1 g2 g3 g4 g5 g6 : FuncData} (h : Has K mg "_law_row_right" s_law_row_right ["row"] f fd_) (z_range : mg "range" = none) (z_len : mg "len" = none) (z_max : mg "max" = none) (z_tuple : mg "tuple" = none) (z_abs : mg "abs" = none)
    (h_convergents : Has K mg "convergents" s_convergents ["row"] f1 g1) (F_convergents : FnOk P w K mg base CX0 1 f1 g1 ["row"] (spConv K))
    (h_law_like : Has K mg "_law_like" s_law_like ["got", "due"] f2 g2) (F_law_like : GOk P w K mg base CX0 1 f2 g2 ["got", "due"] (spLike K))
    (h_law_folded : Has K mg "_law_folded" s_law_folded ["row"] f3 g3) (F_law_folded : FnOk P w K mg base CX0 1 f3 g3 ["row"] (spFold K))
    (h_law_common : Has K mg "_law_common" s_law_common ["a", "b"] f4 g4) (F_law_common : FnOk P w K mg base CX0 1 f4 g4 ["a", "b"] spCommon)
    (h_chain : Has K mg "chain" s_chain ["a", "b"] f5 g5) (F_chain : FnOk P w K mg base CX0 1 f5 g5 ["a", "b"] spChain)
    (h_law_is_nearest : Has K mg "_law_is_nearest" s_law_is_nearest ["whole", "pair"] f6 g6) (F_law_is_nearest : FnOk P w K mg base CX0 2 f6 g6 ["whole", "pair"] (spNear K)) :
    GOk P w K mg base CX0 3 f fd_ ["row"] (spRow K) := by
  refine fun_okG h.fn sc_law_row_right (fun vs H Q E h => ?_) (fun cdv A outer s H vs Q E ng hr h => ?_)
  · obtain ⟨a, x0, t, c, rfl, _⟩ := h
    rfl
  · obtain ⟨a, x0, t, c, rfl, hS, ht, hc, c1, r1, cr, q⟩ := h
    generalize hr0 : x0 :: t = r at hS hc r1 cr
    have hne : r ≠ [] := by rw [← hr0]; exact fun z => nomatch z
    have hlen : 0 < r.length := List.length_pos_iff.mpr hne
    refine ⟨_, (pss_cons (ps_setLc (i := 1) (own := [("k", 2)]) (g := gName 2) (tt := tYes) rfl sc_law_row_right.nd rfl rfl (sw_true rfl rfl rfl (by decide +kernel)) (pi_range2 rfl z_range (pa_cons pe_int (pa_cons (pe_op op_add (pe_callB call_lenB (by rfl) z_len (by decide +kernel) (pa_cons (pv 0) pa_nil)) pe_int) pa_nil))) (blkOk_by (own := [("k", 2)]) (N := ["row", "due", "k", "told", "sign", "p", "q", "r", "s", "least"]) (sc := defScope s_law_row_right) (by decide +kernel)) (fun _ _ _ _ _ => pg_name (i := 2) sc_law_row_right.nd rfl (Or.inl rfl)) (fun _ _ _ _ _ => pts_nil) (fun _ _ _ _ _ => (pe_call F_law_folded (hr.mono (by decide)) (by rfl) h_law_folded.gl h_law_folded.fn.kp h_law_folded.bd .nil pass0 (pa_cons (pe_slice (sl_tupAK (K := K) rfl) (pv 0) po_none (po_some (pv 2))) pa_nil))))
      (pss_cons (ps_set (i := 3) sc_law_row_right.nd rfl (.inl rfl) (pe_call F_convergents (hr.mono (by decide)) (by rfl) h_convergents.gl h_convergents.fn.kp h_convergents.bd .nil pass0 (pa_cons (pv 0) pa_nil)))
      (pss_cons (ps_if (pt_not (pt_val (pe_callG F_law_like ng (hr.mono (by decide)) (by rfl) h_law_like.gl h_law_like.fn.kp h_law_like.bd .nil pass0 (pa_cons (pv 3) (pa_cons (pe_callTy call_tupB (by rfl) z_tuple (by decide +kernel) (pa_cons (pv 1) pa_nil)) pa_nil))))) (pss_one (ps_ret pe_bl)) pss_nil)
      (pss_cons (ps_set (i := 4) sc_law_row_right.nd rfl (.inl rfl) pe_int)
      (pss_cons (ps_for PassesOwn.never rfl (pi_range2 rfl z_range (pa_cons pe_int (pa_cons (pe_callB call_lenB (by rfl) z_len (by decide +kernel) (pa_cons (pv 1) pa_nil)) pa_nil))) (pg_name (i := 2) sc_law_row_right.nd rfl (Or.inl rfl)) (pss_cons (ps_asg (pe_tup (pa_cons (pe_ix ix_tup (pv 3) (pe_op op_sub (pv 2) pe_int) (fun _ _ => rfl)) (pa_cons (pe_ix ix_tup (pv 3) (pv 2) (fun _ _ => rfl)) pa_nil))) (pg_tup rfl (pgs_cons (pg_tup rfl (pgs_cons (pg_name (i := 5) sc_law_row_right.nd rfl (Or.inl rfl)) (pgs_cons (pg_name (i := 6) sc_law_row_right.nd rfl (Or.inl rfl)) pgs_nil))) (pgs_cons (pg_tup rfl (pgs_cons (pg_name (i := 7) sc_law_row_right.nd rfl (Or.inl rfl)) (pgs_cons (pg_name (i := 8) sc_law_row_right.nd rfl (Or.inl rfl)) pgs_nil))) pgs_nil))))
      (pss_cons (ps_if (pt_cmpR op_ne (pe_op op_sub (pe_op op_mulB (pv 7) (pv 6)) (pe_op op_mulB (pv 5) (pv 8))) (pv 4) (nomark _)) (pss_one (ps_ret pe_bl)) pss_nil)
      (pss_cons (ps_set (i := 4) sc_law_row_right.nd rfl (.inl rfl) (pe_un un_neg (pv 4)))
      (pss_one (ps_if (PW.pt (pw_and (pt_cmpR op_lt (pv 8) pe_int (nomark _)) (pw_and1 (pt_not (pt_val (pe_call F_law_is_nearest (hr.mono (by decide)) (by rfl) h_law_is_nearest.gl h_law_is_nearest.fn.kp h_law_is_nearest.bd .nil pass0 (pa_cons (pe_ix ix_tup (pv 3) (pe_un un_neg pe_int) (fun _ _ => rfl)) (pa_cons (pe_ix ix_tup (pv 3) (pv 2) (fun _ _ => rfl)) pa_nil)))))))) (pss_one (ps_ret pe_bl)) pss_nil))))))
      (Evl.pss_cut (ps_set (i := 9) sc_law_row_right.nd rfl (.inl rfl) (pe_ifExp (PW.pt (pw_or (pt_cmpR op_eq (pe_callB call_lenB (by rfl) z_len (by decide +kernel) (pa_cons (pv 0) pa_nil)) pe_int (nomark _)) (pw_or1 (pt_cmpR op_gt (pe_ix ix_tup (pv 0) (pe_un un_neg pe_int) (fun _ _ => rfl)) pe_int (nomark _))))) (pv 0) (pe_op op_catA (pe_slice sl_tupA (pv 0) po_none (po_some (pe_un un_neg pe_int))) (pe_tup (pa_cons (pe_op op_add (pe_ix ix_tup (pv 0) (pe_un un_neg pe_int) (fun _ _ => rfl)) pe_int) pa_nil)))))
      (pss_cons (ps_asg (pe_ix ix_tup (pv 3) (pe_un un_neg pe_int) (fun _ _ => rfl)) (pg_tup rfl (pgs_cons (pg_name (i := 5) sc_law_row_right.nd rfl (Or.inl rfl)) (pgs_cons (pg_name (i := 6) sc_law_row_right.nd rfl (Or.inl rfl)) pgs_nil))))
      (pss_cons (ps_if (PW.pt (pw_or (pt_cmpR op_lt (pv 6) pe_int (nomark _)) (pw_or1 (pt_cmpR op_ne (pe_call F_law_common (hr.mono (by decide)) (by rfl) h_law_common.gl h_law_common.fn.kp h_law_common.bd .nil pass0 (pa_cons (pv 5) (pa_cons (pv 6) pa_nil))) pe_int (nomark _))))) (pss_one (ps_ret pe_bl)) pss_nil)
      (pss_cons (ps_if (pt_cmpR op_ge (pe_callB (call_maxB rfl) (by rfl) z_max (by decide +kernel) (pa_cons (pe_callB call_absB (by rfl) z_abs (by decide +kernel) (pa_cons (pv 5) pa_nil)) (pa_cons (pv 6) pa_nil))) (pe_op op_powB (pe_op op_pow pe_int pe_int) pe_int) (nomark _)) (pss_one (ps_ret pe_bl)) pss_nil)
      (pss_one (ps_ret (pe_callG F_law_like ng (hr.mono (by decide)) (by rfl) h_law_like.gl h_law_like.fn.kp h_law_like.bd .nil pass0 (pa_cons (pe_lst (pa_cons (pe_call F_chain (hr.mono (by decide)) (by rfl) h_chain.gl h_chain.fn.kp h_chain.bd .nil pass0 (pa_cons (pv 5) (pa_cons (pv 6) pa_nil))) (pa_cons (pe_call F_chain (hr.mono (by decide)) (by rfl) h_chain.gl h_chain.fn.kp h_chain.bd .nil pass0 (pa_cons (pe_un un_neg (pv 5)) (pa_cons (pe_un un_neg (pv 6)) pa_nil))) pa_nil))) (pa_cons (pe_lst (pa_cons (pv 9) (pa_cons (pv 9) pa_nil))) pa_nil)))))))))))))), ?_⟩
    walk_at "rd"
    refine r_lenT hS ?_
    rw [List.length_map]
    walk_at "rd"
    refine r_rngM (by decide) (by decide) (by omega) (by omega) ?_
    intro L nL
    have eN : ((r.length : Int) + 1 - 1).toNat = r.length := by omega
    rw [eN]
    refine cl_range (fun i H1 => ∃ vs : List V, H1 L = some (.lst vs) ∧ vs.length = i ∧ DpAll K H1 vs ((part r i).map pairD) ∧ Same H H1) ⟨[], upd_same, rfl, .nil, same_new nL⟩ (fun i H1 hi hp => ?_) (fun H1 hp => ?_)
    · obtain ⟨vs, at1, l1, dp1, sm1⟩ := hp
      walk_at "rd"
      refine ⟨rfl, ?_⟩
      walk_at "rd"
      refine r_slT (SqT.same (sm1 _) hS) fun b H2 sm2 hb => ?_
      rw [cut_take (k := i + 1) (by omega) (by rw [List.length_map]; omega), ← List.map_take] at hb
      walk_at "rd"
      refine ⟨b, r.take (i + 1), c, rfl, hb, ?_, fun x hx => hc x (List.mem_of_mem_take hx), c1, by rw [List.length_take]; omega, fun v H3 sm3 atv => ?_⟩
      · intro z
        have := congrArg List.length z
        rw [List.length_take, List.length_nil] at this
        omega
      have at3 : H3 L = some (.lst vs) := sm3 _ _ (sm2 _ _ at1)
      have dp3 := DpAll.same sm3 (DpAll.same sm2 dp1)
      have e : sizeLine = 16777216 := by decide
      refine ⟨vs, at3, by omega, vs ++ [.ref v], upd_same, by rw [List.length_append, List.length_singleton]; omega, ?_, same_mut ((sm1.trans sm2).trans sm3) nL⟩
      rw [part_succ, List.map_append]
      exact dpAll_snoc (pair_kl at3 Kp.put (dp_pair atv)) (pairs_kl at3 Kp.put dp3)
    obtain ⟨vd, at1, l1, dp1, sm1⟩ := hp
    have dp1 : DpAll K H1 vd ((heads r).map pairD) := dp1
    have hS1 := SqT.same (sm1 _) hS
    walk_at "rd"
    refine ⟨a, r, c, rfl, hS1, hc, c1, r1, fun T H2 vt sm2 atT dpT => ?_⟩
    have at2 := sm2 _ _ at1
    have dp2 := DpAll.same sm2 dp1
    walk_at "rd"
    refine r_tupL (sql_of at2) fun D H3 sm3 nD atD => ?_
    walk_at "rd"
    refine ⟨.ref T, .ref D, _, rfl, .tup (sqt_of (sm3 _ _ atT)) (DpAll.same sm3 dpT), .tup (sqt_of atD) (DpAll.same sm3 dp2), (heads_fine hc cr).shows (by decide) (by omega), ?_⟩
    have sm03 := sm1.trans (sm2.trans sm3)
    have at3 := sm3 _ _ at2
    have atT3 := sm3 _ _ atT
    have dpT3 := DpAll.same sm3 dpT
    have lT : vt.length = r.length := by rw [dp_len dpT, List.length_map, heads_len]
    clear at1 dp1 hS1 at2 dp2 atT dpT sm1 sm2 sm3 atD nD
    walk_at "rd"
    refine r_lenL (sql_of at3) ?_
    rw [l1]
    walk_at "rd"
    refine r_rngM (by decide) (by decide) (by omega) (by omega) ?_
    have last : ∀ {H' : Hp}, Same H3 H' → ∃ z : Addr, atI vt (-1) = some (.ref z) ∧ SqT K H' z [.int (fd r).1, .int (fd r).2] := fun sm => by
      obtain ⟨z, hz, sz, _⟩ := dp_at dpT3 (heads_last hne)
      rw [← lT] at hz
      exact ⟨z, at_neg1 hz, SqT.same (sm _) sz⟩
    have pos : ∀ {H' : Hp} {j : Nat} {z : Int}, Same H3 H' → j < r.length → z = (j : Int) → ∃ b : Addr, atI vt z = some (.ref b) ∧ SqT K H' b [.int (fd (r.take (j + 1))).1, .int (fd (r.take (j + 1))).2] := fun {H' j z} sm hj ez => by
      obtain ⟨b, hb, sb, _⟩ := dp_at dpT3 (heads_at hj)
      subst ez
      exact ⟨b, atI_nat hb, SqT.same (sm _) sb⟩
    have bR := head_bits hc cr
    have bW : Bt 1701 (fd r).1 ∧ Bt 1701 (fd r).2 := by
      have := bR r.length
      rw [List.take_length] at this
      exact this
    refine fl_range (fun i σ H4 => ∃ (s : Int) (y2 y5 y6 y7 y8 : Option V), s = sg i ∧ σ = [some (.ref a), some (.ref L), y2, some (.ref T), some (.int s), y5, y6, y7, y8, none] ∧ Same H3 H4)
      ⟨_, _, _, _, _, _, rfl, rfl, Same.refl H3⟩ (fun i σ H4 hi hp => ?_) (fun σ H4 hp => ?_)
    · obtain ⟨s, y2, y5, y6, y7, y8, rfl, rfl, sm4⟩ := hp
      have hi : i + 1 < r.length := by omega
      obtain ⟨b0, hb0, sb0⟩ := pos (j := i) (z := 1 + (i : Int) - 1) sm4 (by omega) (by omega)
      obtain ⟨b1, hb1, sb1⟩ := pos (j := i + 1) (z := 1 + (i : Int)) sm4 (by omega) (by omega)
      walk_at "rd"
      refine r_ixT (sqt_of (sm4 _ _ atT3)) hb0 ?_
      walk_at "rd"
      refine r_ixT (sqt_of (sm4 _ _ atT3)) hb1 ?_
      walk_at "rd"
      rename_i u H5 sm5 nu atu
      refine r_gtup (SqT.same (sm5 _) sb0) rfl ?_
      walk_at "rd"
      refine r_gtup (SqT.same (sm5 _) sb1) rfl ?_
      walk_at "rd"
      have g0 := bR (i + 1)
      have g1 := bR (i + 1 + 1)
      have det := det_heads hi
      have dpos := den_take (x0 := x0) ht (i + 1)
      have far := far_heads (x0 := x0) ht (i := i) (by rw [hr0]; exact hi)
      rw [hr0] at dpos far
      generalize (fd (r.take (i + 1))).1 = pa at g0 det ⊢
      generalize (fd (r.take (i + 1))).2 = qa at g0 det ⊢
      refine r_I ⟨1700, 1700, g1.1, g0.2, by decide⟩ ?_
      walk_at "rd"
      refine r_I ⟨1700, 1700, g0.1, g1.2, by decide⟩ ?_
      walk_at "rd"
      rw [det, sg_two]
      walk_at "rd"
      refine r_iteN (fun _ => ?_) (fun hne2 => absurd rfl hne2)
      walk_at "rd"
      walk_at "two"
      · rename_i hlt
        obtain ⟨b2, hb2, sb2⟩ := last (sm4.trans sm5)
        obtain ⟨b3, hb3, sb3⟩ := pos (j := i + 1) (z := 1 + (i : Int)) (sm4.trans sm5) (by omega) (by omega)
        walk_at "rd"
        refine r_ixT (sqt_of (sm5 _ _ (sm4 _ _ atT3))) hb2 ?_
        walk_at "rd"
        refine r_ixT (sqt_of (sm5 _ _ (sm4 _ _ atT3))) hb3 ?_
        walk_at "rd"
        have dp0 := den_pos (x0 := x0) ht
        rw [hr0] at dp0
        refine ⟨b2, b3, (fd r).1, (fd r).2, _, _, rfl, sb2, sb3, by omega, hlt, by omega, bW.1.mono (by decide), bW.2.mono (by decide), g1.1.mono (by decide), far, fun H6 sm6 => ?_⟩
        walk_at "rd"
        exact ⟨_, _, _, _, _, _, (sg_succ i).symm, rfl, (sm4.trans sm5).trans sm6⟩
      · walk_at "rd"
        exact ⟨_, _, _, _, _, _, (sg_succ i).symm, rfl, sm4.trans sm5⟩
    · obtain ⟨s, y2, y5, y6, y7, y8, rfl, rfl, sm4⟩ := hp
      walk_at "rd"
      have hS4 : SqT K H4 a (r.map V.int) := SqT.same ((sm03.trans sm4) _) hS
      refine r_cut (fun σ H5 => ∃ (z : Addr) (y2 y4 y5 y6 y7 y8 : Option V), σ = [some (.ref a), some (.ref L), y2, some (.ref T), y4, y5, y6, y7, y8, some (.ref z)] ∧ SqT K H5 z ((norm r).map V.int) ∧ Same H4 H5) ?_ (fun σ H5 hp => ?_)
      · walk_at "rd"
        refine r_lenT hS4 ?_
        rw [List.length_map]
        walk_at "rd"
        walk_at "two"
        · rename_i h1
          walk_at "rd"
          exact ⟨a, _, _, _, _, _, _, rfl, by rw [norm_short (by omega)]; exact hS4, Same.refl _⟩
        · rename_i h1
          obtain ⟨b, u, v, e⟩ := two_last (r := r) (by omega)
          have em : r.map V.int = b.map V.int ++ [.int u, .int v] := by rw [e, List.map_append]; rfl
          rw [em] at hS4
          have lst : atI (b.map V.int ++ [V.int u, V.int v]) (-1) = some (.int v) := by
            have := atI_last (b.map V.int ++ [V.int u]) (V.int v)
            rwa [List.append_assoc] at this
          walk_at "rd"
          refine r_ixT hS4 lst ?_
          walk_at "rd"
          have v1 : 1 ≤ v := by
            have hv : v ∈ t := by
              have hb : x0 :: t = b ++ [u, v] := hr0.trans e
              cases b with
              | nil =>
                cases hb
                exact List.mem_singleton.mpr rfl
              | cons b0 b' =>
                cases hb
                exact List.mem_append_right _ (by simp)
            exact ht v hv
          walk_at "two"
          · rename_i h2
            walk_at "rd"
            refine ⟨a, _, _, _, _, _, _, rfl, ?_, Same.refl _⟩
            rw [e, norm_snoc, if_neg (by omega), List.map_append]
            exact hS4
          · rename_i h2
            walk_at "rd"
            refine r_slT hS4 fun z H5 sm5 hz => ?_
            rw [cut_two] at hz
            walk_at "rd"
            refine r_ixT (SqT.same (sm5 _) hS4) at_neg2 ?_
            walk_at "rd"
            rename_i z2 H6 sm6 nz2 at2
            refine r_catT (SqT.same (sm6 _) hz) (sqt_of at2) ?_ fun z3 H7 sm7 hz3 => ?_
            · have l3 := congrArg List.length e
              rw [List.length_append] at l3
              have e : sizeLine = 16777216 := by decide
              rw [List.length_map, e]
              show b.length + 1 ≤ _
              omega
            · walk_at "rd"
              refine ⟨z3, _, _, _, _, _, _, rfl, ?_, (sm5.trans sm6).trans sm7⟩
              rw [e, norm_snoc, if_pos (by omega), List.map_append]
              exact hz3
      · obtain ⟨z, y2, y4, y5, y6, y7, y8, rfl, hz, sm5⟩ := hp
        obtain ⟨b2, hb2, sb2⟩ := last (sm4.trans sm5)
        have sm05 := (sm03.trans sm4).trans sm5
        walk_at "rd"
        refine r_ixT (sqt_of (sm5 _ _ (sm4 _ _ atT3))) hb2 ?_
        walk_at "rd"
        have dp0 := den_pos (x0 := x0) ht
        rw [hr0] at dp0
        refine r_ite (fun hlt => absurd hlt (by omega)) (fun _ => ?_)
        walk_at "rd"
        refine ⟨_, _, rfl, bW.1.mono (by decide), bW.2.mono (by decide), ?_⟩
        rw [fd_coprime]
        walk_at "rd"
        refine r_iteN (fun _ => ?_) (fun hne2 => absurd rfl hne2)
        walk_at "rd"
        refine r_I (CPowB.of (n := 200) (Bt.of (b := 10 ^ 50 + 1) (by decide +kernel) (by decide +kernel)) (by decide) (by decide)) ?_
        walk_at "rd"
        walk_at "two"
        · walk_at "rd"
          exact q _ sm05
        · walk_at "rd"
          refine ⟨_, _, rfl, bW.1.mono (by decide), bW.2.mono (by decide), fun c5 H6 sm6 at6 => ?_⟩
          walk_at "rd"
          refine ⟨_, _, rfl, (bW.1.mono (by decide)).le (by omega), (bW.2.mono (by decide)).le (by omega), fun c6 H7 sm7 at7 => ?_⟩
          have ec : chainI (fd r).1 (fd r).2 = norm r := by
            unfold chainI
            rw [if_pos (by omega), ← hr0]
            exact cL_fd t x0 ht
          rw [chainI_neg _ _ (by omega), ec] at at7
          rw [ec] at at6
          walk_at "rd"
          refine r_newL (few_le rfl) fun l1 H8 sm8 nl1 atl1 => ?_
          walk_at "rd"
          refine r_newL (few_le rfl) fun l2 H9 sm9 nl2 atl2 => ?_
          walk_at "rd"
          have t6 : Dp K H9 (.ref c5) (.tuple ((norm r).map PyData.int)) := Dp.intsT (sqt_of (sm9 _ _ (sm8 _ _ (sm7 _ _ at6))))
          have t7 : Dp K H9 (.ref c6) (.tuple ((norm r).map PyData.int)) := Dp.intsT (sqt_of (sm9 _ _ (sm8 _ _ at7)))
          have tz : Dp K H9 (.ref z) (.tuple ((norm r).map PyData.int)) := Dp.intsT (SqT.same (sm9 _) (SqT.same (sm8 _) (SqT.same (sm7 _) (SqT.same (sm6 _) hz))))
          have fin : Fine 1001 1 (norm r).length (.tuple ((norm r).map PyData.int)) := ints_fine (fun x hx => by
            have h1 := norm_big hc x hx
            have h2 : 2 ^ c ≤ 2 ^ 1000 := Nat.pow_le_pow_right (by decide) c1
            have h3 : 2 ^ 1001 = 2 * 2 ^ 1000 := by rw [Nat.pow_succ]; omega
            have h4 : 0 < 2 ^ 1000 := Nat.two_pow_pos _
            show x.natAbs < 2 ^ 1001
            generalize 2 ^ 1000 = big at h2 h3 h4
            omega) (by decide)
          have nl := norm_len r
          refine ⟨.ref l1, .ref l2, _, rfl, .lst (sql_of (sm9 _ _ atl1)) (.cons t6 (.cons t7 .nil)), .lst (sql_of atl2) (.cons tz (.cons tz .nil)), (fin.two fin).list.shows (by decide) (by omega), ?_⟩
          exact q _ ((sm05.trans (sm6.trans sm7)).trans (sm8.trans sm9))
end
end L15
namespace L15
open PySem PySem.Spec PyProof.Rows L2 GB M15
section
variable {P : Program} {w : World} {K : PySem.W.Frag} {mg : Str → Option Value} {base : Heap}
theorem chainI_big {a b : Int} {n : Nat} (ha : Bt n a) (hb : Bt n b) : ∀ z ∈ chainI a b, Bt n z := by
  obtain ⟨x, s, y, hs, ea, eb, ec, nx, ny⟩ := s_start a b
  intro z hz
  rw [ec] at hz
  have p : 0 < 2 ^ n := Nat.two_pow_pos _
  have h1 : a.natAbs < 2 ^ n := ha
  have h2 : b.natAbs < 2 ^ n := hb
  have h := cL_big y y x (2 ^ n - 1) (Nat.le_refl _) (by omega) (by omega) z hz
  show z.natAbs < 2 ^ n
  omega
theorem chainI_len {a b : Int} {n : Nat} (hb : Bt n b) : (chainI a b).length ≤ 2 * n := by
  obtain ⟨x, s, y, hs, ea, eb, ec, nx, ny⟩ := s_start a b
  rw [ec]
  have h2 : b.natAbs < 2 ^ n := hb
  exact cL_len n x y (by omega)
theorem chainI_ne {a b : Int} (h : b ≠ 0) : chainI a b ≠ [] := by
  obtain ⟨x, s, y, hs, ea, eb, ec, nx, ny⟩ := s_start a b
  rw [ec]
  exact cL_ne (by omega)
/-- the value of a chain: the ratio in lowest terms -/
theorem chainI_val {a b : Int} (h : b ≠ 0) : a.fdiv (((Int.gcd a b : Nat) : Int) * (if 0 < b then 1 else -1)) = (fd (chainI a b)).1 ∧ b.fdiv (((Int.gcd a b : Nat) : Int) * (if 0 < b then 1 else -1)) = (fd (chainI a b)).2 ∧
    (fd (chainI a b)).1.natAbs ≤ a.natAbs ∧ (fd (chainI a b)).2.natAbs ≤ b.natAbs ∧ 0 < Int.gcd a b ∧ Int.gcd a b ≤ b.natAbs := by
  obtain ⟨x, s, y, hs, ea, eb, ec, nx, ny⟩ := s_start a b
  rw [ec]
  have y0 : 0 < y := by omega
  have f := fd_cL y y x (Nat.le_refl _) (.inl y0)
  have eg : Int.gcd a b = Int.gcd x y := by
    show Nat.gcd a.natAbs b.natAbs = Nat.gcd x.natAbs (y : Int).natAbs
    rw [nx, ny, Int.natAbs_natCast]
  have es : (if 0 < b then (1 : Int) else -1) = s := by
    rcases hs with z | z
    · rw [if_pos (by rw [eb, z]; omega), z]
    · rw [if_neg (by rw [eb, z]; omega), z]
  have g0 : 0 < Int.gcd x y := Int.gcd_pos_of_ne_zero_right _ (by omega)
  have gle : Int.gcd x y ≤ y := by
    have := Nat.gcd_le_right x.natAbs y0
    exact this
  rw [es, eg]
  generalize Int.gcd x (y : Int) = G at f g0 gle
  generalize (fd (cL x y)).1 = u at f
  generalize (fd (cL x y)).2 = v at f
  have d1 := (sdiv (x := x) (y := (G : Int)) hs (by omega)).1
  have d2 := (sdiv (x := (y : Int)) (y := (G : Int)) hs (by omega)).1
  rw [← ea, Int.mul_comm] at d1
  rw [← eb, Int.mul_comm] at d2
  have q1 : x / (G : Int) = u := by
    rw [← f.1]
    exact Int.mul_ediv_cancel _ (by omega)
  have q2 : (y : Int) / (G : Int) = v := by
    rw [← f.2]
    exact Int.mul_ediv_cancel _ (by omega)
  refine ⟨d1.trans q1, d2.trans q2, ?_, ?_, g0, by omega⟩
  · rw [← nx, ← q1]
    exact Int.natAbs_ediv_le_natAbs _ _
  · rw [← ny, ← q2]
    have := Int.natAbs_ediv_le_natAbs (y : Int) (G : Int)
    rwa [Int.natAbs_natCast] at this
def spRatio : Sp := fun vs H Q _ => ∃ a b : Int, vs = [.int a, .int b] ∧ b ≠ 0 ∧ Bt 1600 a ∧ Bt 1600 b ∧ ∀ H', Same H H' → Q (.bl true) H'
theorem hundred : (10 : Nat) ^ 100 + 1 ≤ 2 ^ 400 := by decide +kernel
theorem ok_ratio {f f1 f2 f3 f4 f5 : Addr} {fd_ g1 g2 g3 g4 g5 : FuncData} (h : Has K mg "_law_ratio_right" s_law_ratio_right ["a", "b"] f fd_) (z_len : mg "len" = none) (z_abs : mg "abs" = none)
    (h_law_chain : Has K mg "_law_chain" s_law_chain ["a", "b"] f1 g1) (F_law_chain : FnOk P w K mg base CX0 2 f1 g1 ["a", "b"] spChain)
    (h_law_like : Has K mg "_law_like" s_law_like ["got", "due"] f2 g2) (F_law_like : GOk P w K mg base CX0 1 f2 g2 ["got", "due"] (spLike K))
    (h_law_common : Has K mg "_law_common" s_law_common ["a", "b"] f3 g3) (F_law_common : FnOk P w K mg base CX0 1 f3 g3 ["a", "b"] spCommon)
    (h_convergents : Has K mg "convergents" s_convergents ["row"] f4 g4) (F_convergents : FnOk P w K mg base CX0 1 f4 g4 ["row"] (spConv K))
    (h_chain : Has K mg "chain" s_chain ["a", "b"] f5 g5) (F_chain : FnOk P w K mg base CX0 1 f5 g5 ["a", "b"] spChain) :
    GOk P w K mg base CX0 3 f fd_ ["a", "b"] spRatio := by
  refine fun_okG h.fn sc_law_ratio_right (fun vs H Q E h => ?_) (fun cdv A outer s H vs Q E ng hr h => ?_)
  · obtain ⟨a, b, rfl, _⟩ := h
    rfl
  · obtain ⟨a, b, rfl, b0, ba, bb, q⟩ := h
    have big := chainI_big ba bb
    have few := chainI_len (a := a) bb
    have ne := chainI_ne (a := a) b0
    have val := chainI_val (a := a) b0
    have neg := chainI_neg a b b0
    refine ⟨_, (pss_cons (ps_set (i := 2) sc_law_ratio_right.nd rfl (.inl rfl) (pe_call F_law_chain (hr.mono (by decide)) (by rfl) h_law_chain.gl h_law_chain.fn.kp h_law_chain.bd .nil pass0 (pa_cons (pv 0) (pa_cons (pv 1) pa_nil))))
      (pss_cons (ps_if (pt_not (pt_val (pe_callG F_law_like ng (hr.mono (by decide)) (by rfl) h_law_like.gl h_law_like.fn.kp h_law_like.bd .nil pass0 (pa_cons (pe_lst (pa_cons (pe_call F_chain (hr.mono (by decide)) (by rfl) h_chain.gl h_chain.fn.kp h_chain.bd .nil pass0 (pa_cons (pv 0) (pa_cons (pv 1) pa_nil))) (pa_cons (pe_call F_chain (hr.mono (by decide)) (by rfl) h_chain.gl h_chain.fn.kp h_chain.bd .nil pass0 (pa_cons (pe_un un_neg (pv 0)) (pa_cons (pe_un un_neg (pv 1)) pa_nil))) pa_nil))) (pa_cons (pe_lst (pa_cons (pv 2) (pa_cons (pv 2) pa_nil))) pa_nil))))) (pss_one (ps_ret pe_bl)) pss_nil)
      (Evl.pss_cut (ps_set (i := 3) sc_law_ratio_right.nd rfl (.inl rfl) (pe_op op_mulB (pe_call F_law_common (hr.mono (by decide)) (by rfl) h_law_common.gl h_law_common.fn.kp h_law_common.bd .nil pass0 (pa_cons (pv 0) (pa_cons (pv 1) pa_nil))) (pe_ifExp (pt_cmpR op_gt (pv 1) pe_int (nomark _)) pe_int (pe_un un_neg pe_int))))
      (pss_cons (ps_if (PW.pt (pw_or (pt_cmpR op_gt (pe_callB call_lenB (by rfl) z_len (by decide +kernel) (pa_cons (pv 2) pa_nil)) pe_int (nomark _)) (pw_or1 (pt_cmpR (op_neD hr.units) (pe_lc (own := [("q", 4)]) (g := gName 4) (tt := _) rfl sc_law_ratio_right.nd (pi_tup (pv 2)) (blkOk_by (own := [("q", 4)]) (N := ["a", "b", "due", "g", "q"]) (sc := defScope s_law_ratio_right) (by decide +kernel)) (fun _ _ _ _ _ => pg_name (i := 4) sc_law_ratio_right.nd rfl (Or.inl rfl)) (fun _ _ _ _ _ => pts_one (pt_cmpR op_ge (pe_callB call_absB (by rfl) z_abs (by decide +kernel) (pa_cons (pv 4) pa_nil)) (pe_op op_powB (pe_op op_pow pe_int pe_int) pe_int) (nomark _))) (fun _ _ _ _ _ => (pv 4))) (pe_lst pa_nil) (nomark _))))) (pss_one (ps_ret pe_bl)) pss_nil)
      (pss_one (ps_ret (pe_callG F_law_like ng (hr.mono (by decide)) (by rfl) h_law_like.gl h_law_like.fn.kp h_law_like.bd .nil pass0 (pa_cons (pe_ix ix_tup (pe_call F_convergents (hr.mono (by decide)) (by rfl) h_convergents.gl h_convergents.fn.kp h_convergents.bd .nil pass0 (pa_cons (pv 2) pa_nil)) (pe_un un_neg pe_int) (fun _ _ => rfl)) (pa_cons (pe_tup (pa_cons (pe_op op_fdivZ (pv 0) (pv 3)) (pa_cons (pe_op op_fdivZ (pv 1) (pv 3)) pa_nil))) pa_nil))))))))), ?_⟩
    generalize hc : chainI a b = r at big few ne val neg
    have fin : Fine 1600 1 r.length (.tuple (r.map PyData.int)) := ints_fine big (by decide)
    walk_at "rd"
    refine ⟨a, b, rfl, ba.mono (by decide), bb.mono (by decide), fun d H1 sm1 atd => ?_⟩
    rw [hc] at atd
    walk_at "rd"
    refine ⟨a, b, rfl, ba.mono (by decide), bb.mono (by decide), fun c5 H2 sm2 at2 => ?_⟩
    rw [hc] at at2
    walk_at "rd"
    refine ⟨-a, -b, rfl, (ba.mono (by decide)).le (by omega), (bb.mono (by decide)).le (by omega), fun c6 H3 sm3 at3 => ?_⟩
    rw [neg] at at3
    walk_at "rd"
    refine r_newL (few_le rfl) fun l1 H4 sm4 nl1 atl1 => ?_
    walk_at "rd"
    refine r_newL (few_le rfl) fun l2 H5 sm5 nl2 atl2 => ?_
    have sm15 := (sm2.trans sm3).trans (sm4.trans sm5)
    have sm05 := sm1.trans sm15
    have t5 : Dp K H5 (.ref c5) (.tuple (r.map PyData.int)) := Dp.intsT (sqt_of (sm5 _ _ (sm4 _ _ (sm3 _ _ at2))))
    have t6 : Dp K H5 (.ref c6) (.tuple (r.map PyData.int)) := Dp.intsT (sqt_of (sm5 _ _ (sm4 _ _ at3)))
    have atd5 := sm15 _ _ atd
    have td : Dp K H5 (.ref d) (.tuple (r.map PyData.int)) := Dp.intsT (sqt_of atd5)
    have l1' := sm5 _ _ atl1
    walk_at "rd"
    refine ⟨.ref l1, .ref l2, _, rfl, .lst (sql_of l1') (.cons t5 (.cons t6 .nil)), .lst (sql_of atl2) (.cons td (.cons td .nil)), (fin.two fin).list.shows (by decide) (by omega), ?_⟩
    clear at2 at3 t5 t6 td l1' atl1 atl2 atd sm2 sm3 sm4 sm5
    walk_at "rd"
    refine r_cut (fun σ H6 => σ = [some (.int a), some (.int b), some (.ref d), some (.int (((Int.gcd a b : Nat) : Int) * (if 0 < b then 1 else -1))), none] ∧ H6 = H5) ?_ (fun σ H6 hp => ?_)
    · have bg : Bt (1600 + 1) (((Int.gcd a b : Nat) : Int)) := (bb.mono (by decide)).le (by rw [Int.natAbs_natCast]; exact val.2.2.2.2.2)
      walk_at "rd"
      refine ⟨a, b, rfl, ba.mono (by decide), bb.mono (by decide), ?_⟩
      walk_at "rd"
      refine r_ite (fun hb => ?_) (fun hb => ?_)
      · rw [if_pos (by omega)]
        walk_at "rd"
        refine r_I ⟨1600, 61, bg, Bt.small (by decide) (by decide), by decide⟩ ?_
        exact ⟨rfl, rfl⟩
      · rw [if_neg (by omega)]
        walk_at "rd"
        refine r_I ⟨1600, 61, bg, Bt.small (by decide) (by decide), by decide⟩ ?_
        exact ⟨rfl, rfl⟩
    · obtain ⟨rfl, rfl⟩ := hp
      walk_at "rd"
      refine r_lenT (sqt_of atd5) ?_
      rw [List.length_map]
      walk_at "rd"
      refine r_ite (fun hgt => ?_) (fun hgt => ?_)
      · walk_at "rd"
        exact q _ sm05
      walk_at "rd"
      refine r_itt (sqt_of atd5) ?_
      intro L nL
      refine cl_tup (xs := r.map V.int) (fun i H7 => ∃ gs : List Int, (∀ x ∈ gs, Bt 1600 x) ∧ gs.length ≤ i ∧ H7 L = some (.lst (gs.map V.int)) ∧ Same H6 H7 ∧ (gs = [] → ∀ (j : Nat) (z : Int), j < i → r[j]? = some z → z.natAbs < 10 ^ 100))
        ⟨[], fun x hx => (List.not_mem_nil hx).elim, Nat.le_refl _, upd_same, same_new nL, fun _ j z hj _ => absurd hj (Nat.not_lt_zero _)⟩ (fun i H7 _ hp => ?_) (fun i x H7 hi hp => ?_) (fun H7 hp => ?_)
      · obtain ⟨gs, _, _, _, sm, _⟩ := hp
        exact sqt_of (sm _ _ atd5)
      · obtain ⟨gs, hg, lg, at7, sm7, small⟩ := hp
        rw [List.getElem?_map] at hi
        obtain ⟨z, hz, rfl⟩ := Option.map_eq_some_iff.mp hi
        have hzr : z ∈ r := List.mem_of_getElem? hz
        have il : i < r.length := (List.getElem?_eq_some_iff.mp hz).1
        have e : sizeLine = 16777216 := by decide
        walk_at "rd"
        refine ⟨rfl, ?_⟩
        walk_at "rd"
        refine r_I (CPowB.of (n := 200) (Bt.of (b := 10 ^ 50 + 1) (by decide +kernel) (by decide +kernel)) (by decide) (by decide)) ?_
        walk_at "rd"
        have e100 : ((10 : Int) ^ Int.toNat 50) ^ Int.toNat 2 = ((10 ^ 100 : Nat) : Int) := by decide +kernel
        rw [e100]
        walk_at "two"
        · walk_at "rd"
          refine ⟨gs.map V.int, at7, by rw [List.length_map]; omega, gs ++ [z], fun x hx => ?_, by rw [List.length_append, List.length_singleton]; omega, ?_, same_mut sm7 nL, fun z => ?_⟩
          · rcases List.mem_append.mp hx with y | y
            · exact hg x y
            · rw [List.mem_singleton.mp y]
              exact big z hzr
          · rw [upd_same, List.map_append]
            rfl
          · exact absurd z (by simp)
        · rename_i hlt
          refine ⟨gs, hg, by omega, at7, sm7, fun ge j y hj hy => ?_⟩
          by_cases ej : j = i
          · subst ej
            rw [hz] at hy
            have ez := Option.some.inj hy
            subst ez
            generalize (10 ^ 100 : Nat) = hun at hlt ⊢
            omega
          · exact small ge j y (by omega) hy
      · obtain ⟨gs, hg, lg, at7, sm7, small⟩ := hp
        rw [List.length_map] at lg small
        walk_at "rd"
        refine r_newL (few_le rfl) fun l3 H8 sm8 nl3 atl3 => ?_
        walk_at "rd"
        have dg : Fine 1600 1 0 (.list (([] : List Int).map PyData.int)) := (FineAll.ints (ns := []) (fun x hx => (List.not_mem_nil hx).elim) (by decide)).list
        have hgd : SeqAt.shaped (.list (gs.map PyData.int)) = true := (FineAll.ints hg (by decide)).list.shaped (by decide)
        refine r_neD (Dp.ints (sql_of (sm8 _ _ at7))) (Dp.ints (ns := []) (sql_of atl3)) hgd (dg.shaped (by decide)) ?_
        walk_at "rd"
        cases gs with
        | cons z rs =>
          have e0 : PyData.eqv (.list ((z :: rs).map PyData.int)) (.list (([] : List Int).map PyData.int)) = false := by
            simp only [List.map_cons, List.map_nil, PyData.eqv, PyData.eqvAll]
          rw [e0]
          walk_at "rd"
          exact q _ (sm05.trans (sm7.trans sm8))
        | nil =>
          have e0 : PyData.eqv (.list (([] : List Int).map PyData.int)) (.list (([] : List Int).map PyData.int)) = true := dg.eqv
          rw [e0]
          walk_at "rd"
          have small : ∀ x ∈ r, x.natAbs + 1 ≤ 2 ^ 400 := fun x hx => by
            obtain ⟨j, hj, e⟩ := List.getElem_of_mem hx
            have h1 := small rfl j x hj (by rw [List.getElem?_eq_getElem hj, e])
            have h2 := hundred
            generalize 2 ^ 400 = big4 at h2 ⊢
            generalize 10 ^ 100 = hun at h1 h2
            omega
          have sm68 := sm7.trans sm8
          refine ⟨d, r, 400, rfl, sqt_of (sm68 _ _ atd5), small, by decide, by omega, fun v H9 vs sm9 atv dpv => ?_⟩
          obtain ⟨z, hz, sz, dz⟩ := dp_at dpv (heads_last ne)
          have lv : vs.length = r.length := by rw [dp_len dpv, List.length_map, heads_len]
          rw [← lv] at hz
          walk_at "rd"
          refine r_ixT (sqt_of atv) (at_neg1 hz) ?_
          have g1 : Bt (1600 + 1) (((Int.gcd a b : Nat) : Int) * (if 0 < b then 1 else -1)) := by
            refine (bb.mono (by decide)).le ?_
            rw [Int.natAbs_mul, Int.natAbs_natCast]
            have : (if 0 < b then (1 : Int) else -1).natAbs = 1 := by split <;> rfl
            rw [this, Nat.mul_one]
            exact val.2.2.2.2.2
          have g0 : ((Int.gcd a b : Nat) : Int) * (if 0 < b then 1 else -1) ≠ 0 := by
            have := val.2.2.2.2.1
            split <;> omega
          walk_at "rd"
          refine r_I (CDivZ.of g0 g1 (by decide)) ?_
          walk_at "rd"
          refine r_I (CDivZ.of g0 g1 (by decide)) ?_
          rw [val.1, val.2.1]
          walk_at "rd"
          rename_i tz H10 sm10 ntz attz
          have b1 : Bt 1600 (fd r).1 := ba.le val.2.2.1
          have b2 : Bt 1600 (fd r).2 := bb.le val.2.2.2.1
          refine ⟨.ref z, .ref tz, pairD (fd r), rfl, Dp.same sm10 dz, dp_pair attz, ((Fine.int b1 (by decide)).two (Fine.int b2 (by decide))).tuple.shows (by decide) (by decide), ?_⟩
          exact q _ (sm05.trans ((sm68.trans sm9).trans sm10))
end
end L15
namespace L15
open PySem PySem.Spec PyProof.Rows L2 GB M15
section
variable {P : Program} {w : World} {K : PySem.W.Frag} {mg : Str → Option Value} {base : Heap}
theorem ten16 : ∀ {k : Nat}, 1 ≤ k → 10 ^ k + 1 ≤ 2 ^ (4 * k)
  | 1, _ => by decide
  | k + 2, _ => by
    have h := ten16 (k := k + 1) (by omega)
    have e1 : 10 ^ (k + 2) = 10 * 10 ^ (k + 1) := by rw [Nat.pow_succ]; omega
    have e2 : 2 ^ (4 * (k + 2)) = 16 * 2 ^ (4 * (k + 1)) := by
      rw [show 4 * (k + 2) = 4 * (k + 1) + 4 by omega, Nat.pow_add]
      omega
    omega
theorem ints_at {ns : List Int} {i : Nat} {v : V} (h : (ns.map V.int)[i]? = some v) : ∃ z ∈ ns, v = .int z := by
  rw [List.getElem?_map] at h
  obtain ⟨z, hz, rfl⟩ := Option.map_eq_some_iff.mp h
  exact ⟨z, List.mem_of_getElem? hz, rfl⟩
theorem dp_pairT {H : Hp} {a : Addr} {x y : Int} (h : SqT K H a [.int x, .int y]) : Dp K H (.ref a) (pairD (x, y)) := .tup h (.cons (.int _) (.cons (.int _) .nil))
def spLaw (K : PySem.W.Frag) : Sp := fun vs H Q _ => ∃ (a : Addr) (ns : List Int), vs = [.ref a] ∧ SqL K H a (ns.map V.int) ∧ ns.length ≤ 63 ∧ (∀ x ∈ ns, Bt 1048576 x) ∧ ∀ H', Q (.bl true) H'
theorem c1 : chainI 0 5 = [0] := by
  unfold chainI
  rw [if_pos (by decide)]
  show cL 0 5 = [0]
  rw [cL_step (by decide)]
  show 0 :: cL 5 0 = [0]
  rw [cL_zero]
theorem c2 : chainI (-7) 2 = [-4, 2] := by
  unfold chainI
  rw [if_pos (by decide)]
  show cL (-7) 2 = [-4, 2]
  rw [cL_step (by decide)]
  show -4 :: cL 2 1 = [-4, 2]
  rw [cL_one]
theorem c3 : chainI 7 (-2) = [-4, 2] := by
  rw [← c2]
  exact chainI_neg (-7) 2 (by decide)
theorem c4 : chainI 3 1 = [3] := by
  unfold chainI
  rw [if_pos (by decide)]
  exact cL_one 3
theorem ok_law {f f1 f2 f3 f4 f5 f6 f7 f8 f9 f10 : Addr} {fd_ g1 g2 g3 g4 g5 g6 g7 g8 g9 g10 : FuncData} (h : Has K mg "law" s_law ["script"] f fd_) (z_range : mg "range" = none) (z_max : mg "max" = none) (z_min : mg "min" = none) (z_len : mg "len" = none) (z_tuple : mg "tuple" = none)
    (h_chain : Has K mg "chain" s_chain ["a", "b"] f1 g1) (F_chain : FnOk P w K mg base CX0 1 f1 g1 ["a", "b"] spChain)
    (h_convergents : Has K mg "convergents" s_convergents ["row"] f2 g2) (F_convergents : FnOk P w K mg base CX0 1 f2 g2 ["row"] (spConv K))
    (h_law_like : Has K mg "_law_like" s_law_like ["got", "due"] f3 g3) (F_law_like : GOk P w K mg base CX0 1 f3 g3 ["got", "due"] (spLike K))
    (h_law_begun : Has K mg "_law_begun" s_law_begun ["script", "k"] f4 g4) (F_law_begun : FnOk P w K mg base CX0 1 f4 g4 ["script", "k"] (spBegun K))
    (h_law_of : Has K mg "_law_of" s_law_of ["m", "some"] f5 g5) (F_law_of : FnOk P w K mg base CX0 2 f5 g5 ["m", "some"] (spOfD K))
    (h_law_signed : Has K mg "_law_signed" s_law_signed ["m", "most"] f6 g6) (F_law_signed : FnOk P w K mg base CX0 3 f6 g6 ["m", "most"] (spSigned K))
    (h_law_ratio_right : Has K mg "_law_ratio_right" s_law_ratio_right ["a", "b"] f7 g7) (F_law_ratio_right : GOk P w K mg base CX0 3 f7 g7 ["a", "b"] spRatio)
    (h_law_draw : Has K mg "_law_draw" s_law_draw ["m", "bound"] f8 g8) (F_law_draw : FnOk P w K mg base CX0 1 f8 g8 ["m", "bound"] (spDrawD K))
    (h_law_row_right : Has K mg "_law_row_right" s_law_row_right ["row"] f9 g9) (F_law_row_right : GOk P w K mg base CX0 3 f9 g9 ["row"] (spRow K))
    (h_law_sized : Has K mg "_law_sized" s_law_sized ["m", "most"] f10 g10) (F_law_sized : FnOk P w K mg base CX0 2 f10 g10 ["m", "most"] (spSized K)) :
    GOk P w K mg base CX0 4 f fd_ ["script"] (spLaw K) := by
  refine fun_okG h.fn sc_law (fun vs H Q E h => ?_) (fun cdv A outer s H vs Q E ng hr h => ?_)
  · obtain ⟨a, ns, rfl, _⟩ := h
    rfl
  · obtain ⟨a, ns, rfl, hS, hl, hbits, q⟩ := h
    refine ⟨_, (pss_cons (ps_set (i := 1) sc_law.nd rfl (.inl rfl) (pe_lst (pa_cons (pe_call F_chain (hr.mono (by decide)) (by rfl) h_chain.gl h_chain.fn.kp h_chain.bd .nil pass0 (pa_cons pe_int (pa_cons pe_int pa_nil))) (pa_cons (pe_call F_chain (hr.mono (by decide)) (by rfl) h_chain.gl h_chain.fn.kp h_chain.bd .nil pass0 (pa_cons (pe_un un_neg pe_int) (pa_cons pe_int pa_nil))) (pa_cons (pe_call F_chain (hr.mono (by decide)) (by rfl) h_chain.gl h_chain.fn.kp h_chain.bd .nil pass0 (pa_cons pe_int (pa_cons (pe_un un_neg pe_int) pa_nil))) (pa_cons (pe_call F_chain (hr.mono (by decide)) (by rfl) h_chain.gl h_chain.fn.kp h_chain.bd .nil pass0 (pa_cons pe_int (pa_cons pe_int pa_nil))) (pa_cons (pe_call F_convergents (hr.mono (by decide)) (by rfl) h_convergents.gl h_convergents.fn.kp h_convergents.bd .nil pass0 (pa_cons (pe_tup (pa_cons pe_int (pa_cons pe_int (pa_cons pe_int pa_nil)))) pa_nil)) (pa_cons (pe_call F_convergents (hr.mono (by decide)) (by rfl) h_convergents.gl h_convergents.fn.kp h_convergents.bd .nil pass0 (pa_cons (pe_tup (pa_cons (pe_un un_neg pe_int) pa_nil)) pa_nil)) pa_nil))))))))
      (pss_cons (ps_set (i := 2) sc_law.nd rfl (.inl rfl) (pe_lst (pa_cons (pe_tup (pa_cons pe_int pa_nil)) (pa_cons (pe_tup (pa_cons (pe_un un_neg pe_int) (pa_cons pe_int pa_nil))) (pa_cons (pe_tup (pa_cons (pe_un un_neg pe_int) (pa_cons pe_int pa_nil))) (pa_cons (pe_tup (pa_cons pe_int pa_nil)) (pa_cons (pe_tup (pa_cons (pe_tup (pa_cons pe_int (pa_cons pe_int pa_nil))) (pa_cons (pe_tup (pa_cons pe_int (pa_cons pe_int pa_nil))) (pa_cons (pe_tup (pa_cons pe_int (pa_cons pe_int pa_nil))) pa_nil)))) (pa_cons (pe_tup (pa_cons (pe_tup (pa_cons (pe_un un_neg pe_int) (pa_cons pe_int pa_nil))) pa_nil)) pa_nil))))))))
      (pss_cons (ps_if (pt_not (pt_val (pe_callG F_law_like ng (hr.mono (by decide)) (by rfl) h_law_like.gl h_law_like.fn.kp h_law_like.bd .nil pass0 (pa_cons (pv 1) (pa_cons (pv 2) pa_nil))))) (pss_one (ps_ret pe_bl)) pss_nil)
      (pss_cons (ps_for PassesOwn.never rfl (pi_range1 rfl z_range (pa_cons (pe_callB (call_maxB rfl) (by rfl) z_max (by decide +kernel) (pa_cons pe_int (pa_cons (pe_callB (call_minB rfl) (by rfl) z_min (by decide +kernel) (pa_cons (pe_callB call_lenB (by rfl) z_len (by decide +kernel) (pa_cons (pv 0) pa_nil)) (pa_cons pe_int pa_nil))) pa_nil))) pa_nil)) (pg_name (i := 3) sc_law.nd rfl (Or.inl rfl)) (pss_cons (ps_set (i := 4) sc_law.nd rfl (.inr rfl) (pe_call F_law_begun (hr.mono (by decide)) (by rfl) h_law_begun.gl h_law_begun.fn.kp h_law_begun.bd .nil pass0 (pa_cons (pv 0) (pa_cons (pv 3) pa_nil))))
      (pss_cons (ps_for PassesOwn.never rfl (pi_range1 rfl z_range (pa_cons pe_int pa_nil)) (pg_name (i := 5) sc_law.nd rfl (Or.inl rfl)) (pss_cons (ps_set (i := 6) sc_law.nd rfl (.inl rfl) (pe_call F_law_of (hr.mono (by decide)) (by rfl) h_law_of.gl h_law_of.fn.kp h_law_of.bd .nil pass0 (pa_cons (pv 4) (pa_cons (pe_lst (pa_cons pe_int (pa_cons pe_int (pa_cons pe_int (pa_cons pe_int (pa_cons pe_int (pa_cons pe_int (pa_cons pe_int pa_nil)))))))) pa_nil))))
      (pss_cons (ps_set (i := 7) sc_law.nd rfl (.inl rfl) (pe_call F_law_signed (hr.mono (by decide)) (by rfl) h_law_signed.gl h_law_signed.fn.kp h_law_signed.bd .nil pass0 (pa_cons (pv 4) (pa_cons (pv 6) pa_nil))))
      (pss_one (ps_if (pt_not (pt_val (pe_callG F_law_ratio_right ng (hr.mono (by decide)) (by rfl) h_law_ratio_right.gl h_law_ratio_right.fn.kp h_law_ratio_right.bd .nil pass0 (pa_cons (pe_call F_law_signed (hr.mono (by decide)) (by rfl) h_law_signed.gl h_law_signed.fn.kp h_law_signed.bd .nil pass0 (pa_cons (pv 4) (pa_cons (pv 6) pa_nil))) (pa_cons (pe_ifExp (pt_cmpR op_ne (pv 7) pe_int (nomark _)) (pv 7) pe_int) pa_nil))))) (pss_one (ps_ret pe_bl)) pss_nil)))))
      (pss_one (ps_for PassesOwn.never rfl (pi_range1 rfl z_range (pa_cons pe_int pa_nil)) (pg_name (i := 5) sc_law.nd rfl (Or.inl rfl)) (pss_cons (ps_asg (pe_tup (pa_cons (pe_call F_law_of (hr.mono (by decide)) (by rfl) h_law_of.gl h_law_of.fn.kp h_law_of.bd .nil pass0 (pa_cons (pv 4) (pa_cons (pe_lst (pa_cons pe_int (pa_cons pe_int (pa_cons pe_int (pa_cons pe_int (pa_cons pe_int pa_nil)))))) pa_nil))) (pa_cons (pe_call F_law_draw (hr.mono (by decide)) (by rfl) h_law_draw.gl h_law_draw.fn.kp h_law_draw.bd .nil pass0 (pa_cons (pv 4) (pa_cons pe_int pa_nil))) pa_nil))) (pg_tup rfl (pgs_cons (pg_name (i := 8) sc_law.nd rfl (Or.inr rfl)) (pgs_cons (pg_name (i := 9) sc_law.nd rfl (Or.inl rfl)) pgs_nil))))
      (Evl.pss_cut (ps_if (PW.pt (pw_and (pt_cmpR op_eq (pv 8) pe_int (nomark _)) (pw_and1 (pt_cmpR op_eq (pe_call F_law_draw (hr.mono (by decide)) (by rfl) h_law_draw.gl h_law_draw.fn.kp h_law_draw.bd .nil pass0 (pa_cons (pv 4) (pa_cons pe_int pa_nil))) pe_int (nomark _))))) (pss_one (ps_set (i := 9) sc_law.nd rfl (.inl rfl) (pe_call F_law_draw (hr.mono (by decide)) (by rfl) h_law_draw.gl h_law_draw.fn.kp h_law_draw.bd .nil pass0 (pa_cons (pv 4) (pa_cons pe_int pa_nil))))) pss_nil)
      (pss_cons (ps_set (i := 10) sc_law.nd rfl (.inl rfl) (pe_op op_cat (pe_lst (pa_cons (pe_call F_law_signed (hr.mono (by decide)) (by rfl) h_law_signed.gl h_law_signed.fn.kp h_law_signed.bd .nil pass0 (pa_cons (pv 4) (pa_cons (pv 8) pa_nil))) pa_nil)) (pe_lc (own := [("entry", 11)]) (g := gName 11) (tt := tYes) rfl sc_law.nd (pi_range1 rfl z_range (pa_cons (pv 9) pa_nil)) (blkOk_by (own := [("entry", 11)]) (N := ["script", "told", "due", "turn", "m", "step", "most", "b", "wide", "many", "row", "entry"]) (sc := defScope s_law) (by decide +kernel)) (fun _ _ _ _ _ => pg_name (i := 11) sc_law.nd rfl (Or.inl rfl)) (fun _ _ _ _ _ => pts_nil) (fun _ _ _ _ _ => (pe_op op_add pe_int (pe_call F_law_sized (hr.mono (by decide)) (by rfl) h_law_sized.gl h_law_sized.fn.kp h_law_sized.bd .nil pass0 (pa_cons (pv 4) (pa_cons (pv 8) pa_nil))))))))
      (Evl.pss_cut (ps_if (pt_cmpR op_eq (pe_call F_law_draw (hr.mono (by decide)) (by rfl) h_law_draw.gl h_law_draw.fn.kp h_law_draw.bd .nil pass0 (pa_cons (pv 4) (pa_cons pe_int pa_nil))) pe_int (nomark _)) (pss_one (ps_expr (pe_bm PySem.F.plainAttrs_list PySem.F.slot_list_append PySem.F.type_list_append mt_append (pv 10) (pa_cons pe_int pa_nil)))) pss_nil)
      (pss_one (ps_if (pt_not (pt_val (pe_callG F_law_row_right ng (hr.mono (by decide)) (by rfl) h_law_row_right.gl h_law_row_right.fn.kp h_law_row_right.bd .nil pass0 (pa_cons (pe_callTy call_tupB (by rfl) z_tuple (by decide +kernel) (pa_cons (pv 10) pa_nil)) pa_nil)))) (pss_one (ps_ret pe_bl)) pss_nil)))))))))))
      (pss_one (ps_ret pe_bl)))))), ?_⟩
    have sb : ∀ {x : Int}, -(2 ^ 62) < x → x < 2 ^ 62 → Bt 8000 x := fun h1 h2 => (Bt.small h1 h2).mono (by decide)
    walk_at "rd"
    refine ⟨0, 5, rfl, sb (by decide) (by decide), sb (by decide) (by decide), fun t1 H1 sm1 at1 => ?_⟩
    rw [c1] at at1
    walk_at "rd"
    refine ⟨-7, 2, rfl, sb (by decide) (by decide), sb (by decide) (by decide), fun t2 H2 sm2 at2 => ?_⟩
    rw [c2] at at2
    walk_at "rd"
    refine ⟨7, -2, rfl, sb (by decide) (by decide), sb (by decide) (by decide), fun t3 H3 sm3 at3 => ?_⟩
    rw [c3] at at3
    walk_at "rd"
    refine ⟨3, 1, rfl, sb (by decide) (by decide), sb (by decide) (by decide), fun t4 H4 sm4 at4 => ?_⟩
    rw [c4] at at4
    walk_at "rd"
    rename_i b5 H5 sm5 nb5 atb5
    refine ⟨b5, [0, 2, 1], 2, rfl, sqt_of atb5, by decide, by decide, by decide, fun t5 H6 vs5 sm6 at5 dp5 => ?_⟩
    walk_at "rd"
    rename_i b6 H7 sm7 nb6 atb6
    refine ⟨b6, [-3], 2, rfl, sqt_of atb6, by decide, by decide, by decide, fun t6 H8 vs6 sm8 at6 dp6 => ?_⟩
    have s48 := (sm5.trans sm6).trans (sm7.trans sm8)
    have s68 := sm7.trans sm8
    have d4 : Dp K H8 (.ref t4) (.tuple [.int 3]) := .tup (sqt_of (s48 _ _ at4)) (.cons (.int _) .nil)
    have d3 : Dp K H8 (.ref t3) (.tuple [.int (-4), .int 2]) := .tup (sqt_of (s48 _ _ (sm4 _ _ at3))) (.cons (.int _) (.cons (.int _) .nil))
    have d2 : Dp K H8 (.ref t2) (.tuple [.int (-4), .int 2]) := .tup (sqt_of (s48 _ _ (sm4 _ _ (sm3 _ _ at2)))) (.cons (.int _) (.cons (.int _) .nil))
    have d1 : Dp K H8 (.ref t1) (.tuple [.int 0]) := .tup (sqt_of (s48 _ _ (sm4 _ _ (sm3 _ _ (sm2 _ _ at1))))) (.cons (.int _) .nil)
    have d5 : Dp K H8 (.ref t5) (.tuple [pairD (0, 1), pairD (1, 2), pairD (1, 3)]) := .tup (sqt_of (s68 _ _ at5)) (DpAll.same s68 dp5)
    have d6 : Dp K H8 (.ref t6) (.tuple [pairD (-3, 1)]) := .tup (sqt_of at6) dp6
    have hS8 : SqL K H8 a (ns.map V.int) := s48.seq (sm4.seq (sm3.seq (sm2.seq (sm1.seq hS))))
    clear dp5 dp6 at5 at6 at1 at2 at3 at4 atb5 atb6 nb5 nb6 sm1 sm2 sm3 sm4 sm5 sm6 sm7 sm8 s48 s68
    walk_at "rd"
    refine r_newL (few_le rfl) fun la H9 sm9 nla atla => ?_
    have dA : Dp K H9 (.ref la) (.list [.tuple [.int 0], .tuple [.int (-4), .int 2], .tuple [.int (-4), .int 2], .tuple [.int 3], .tuple [pairD (0, 1), pairD (1, 2), pairD (1, 3)], .tuple [pairD (-3, 1)]]) :=
      .lst (sql_of atla) (DpAll.same sm9 (.cons d1 (.cons d2 (.cons d3 (.cons d4 (.cons d5 (.cons d6 .nil)))))))
    have hS9 := sm9.seq hS8
    clear d1 d2 d3 d4 d5 d6 atla hS8
    walk_at "rd"
    rename_i e1 G1 r1 n1 y1 e2 G2 r2 n2 y2 e3 G3 r3 n3 y3 e4 G4 r4 n4 y4 e5 G5 r5 n5 y5 e6 G6 r6 n6 y6 e7 G7 r7 n7 y7 e8 G8 r8 n8 y8 e9 G9 r9 n9 y9 e10 G10 r10 n10 y10
    refine r_newL (few_le rfl) fun lb H10 sm10 nlb atlb => ?_
    have a9 := sqt_of (K := K) y9
    have p5 : DpAll K G7 [.ref e5, .ref e6, .ref e7] [pairD (0, 1), pairD (1, 2), pairD (1, 3)] := .cons (dp_pair (r7 _ _ (r6 _ _ y5))) (.cons (dp_pair (r7 _ _ y6)) (.cons (dp_pair y7) .nil))
    have z8 : Dp K G8 (.ref e8) (.tuple [pairD (0, 1), pairD (1, 2), pairD (1, 3)]) := .tup (sqt_of y8) (DpAll.same r8 p5)
    have z10 : Dp K G10 (.ref e10) (.tuple [pairD (-3, 1)]) := .tup (sqt_of y10) (.cons (Dp.same r10 (dp_pair y9)) .nil)
    have w8 : Dp K G10 (.ref e8) (.tuple [pairD (0, 1), pairD (1, 2), pairD (1, 3)]) := Dp.same r10 (Dp.same r9 z8)
    have s410 := ((r5.trans r6).trans (r7.trans r8)).trans (r9.trans r10)
    have w4 : Dp K G10 (.ref e4) (.tuple [.int 3]) := .tup (sqt_of (s410 _ _ y4)) (.cons (.int _) .nil)
    have w3 : Dp K G10 (.ref e3) (.tuple [.int (-4), .int 2]) := .tup (sqt_of (s410 _ _ (r4 _ _ y3))) (.cons (.int _) (.cons (.int _) .nil))
    have w2 : Dp K G10 (.ref e2) (.tuple [.int (-4), .int 2]) := .tup (sqt_of (s410 _ _ (r4 _ _ (r3 _ _ y2)))) (.cons (.int _) (.cons (.int _) .nil))
    have w1 : Dp K G10 (.ref e1) (.tuple [.int 0]) := .tup (sqt_of (s410 _ _ (r4 _ _ (r3 _ _ (r2 _ _ y1))))) (.cons (.int _) .nil)
    have dB : Dp K H10 (.ref lb) (.list [.tuple [.int 0], .tuple [.int (-4), .int 2], .tuple [.int (-4), .int 2], .tuple [.int 3], .tuple [pairD (0, 1), pairD (1, 2), pairD (1, 3)], .tuple [pairD (-3, 1)]]) :=
      .lst (sql_of atlb) (DpAll.same sm10 (.cons w1 (.cons w2 (.cons w3 (.cons w4 (.cons w8 (.cons z10 .nil)))))))
    have s910 := ((((r1.trans r2).trans (r3.trans r4)).trans s410).trans sm10)
    have hS10 := s910.seq hS9
    have dA10 := Dp.same s910 dA
    clear a9 p5 z8 z10 w8 w4 w3 w2 w1 atlb hS9 dA y1 y2 y3 y4 y5 y6 y7 y8 y9 y10 n1 n2 n3 n4 n5 n6 n7 n8 n9 n10 r1 r2 r3 r4 r5 r6 r7 r8 r9 r10 s410 s910 sm10 sm9
    walk_at "rd"
    have F : ∀ {i : Int}, -(2 ^ 62) < i → i < 2 ^ 62 → Fine 62 0 0 (.int i) := fun h1 h2 => Fine.int (Bt.small h1 h2) (by decide)
    have F1 : ∀ {i : Int}, -(2 ^ 62) < i → i < 2 ^ 62 → Fine 62 2 20 (.tuple [.int i]) := fun h1 h2 => ((F h1 h2).one).tuple.mono (by decide) (by decide)
    have F2 : ∀ {i j : Int}, -(2 ^ 62) < i → i < 2 ^ 62 → -(2 ^ 62) < j → j < 2 ^ 62 → Fine 62 1 5 (.tuple [.int i, .int j]) := fun h1 h2 h3 h4 => ((F h1 h2).two (F h3 h4)).tuple.mono (by decide) (by decide)
    have F3 : Fine 62 2 20 (.tuple [pairD (0, 1), pairD (1, 2), pairD (1, 3)]) := ((F2 (by decide) (by decide) (by decide) (by decide)).cons' ((F2 (by decide) (by decide) (by decide) (by decide)).cons' (F2 (by decide) (by decide) (by decide) (by decide)).one)).tuple.mono (by decide) (by decide)
    have F4 : Fine 62 2 20 (.tuple [pairD (-3, 1)]) := (F2 (by decide) (by decide) (by decide) (by decide)).one.tuple.mono (by decide) (by decide)
    have F5 : Fine 62 2 20 (.tuple [.int (-4), .int 2]) := (F2 (by decide) (by decide) (by decide) (by decide)).mono (by decide) (by decide)
    refine ⟨_, _, _, rfl, dA10, dB, ((F1 (by decide) (by decide)).cons' (F5.cons' (F5.cons' ((F1 (by decide) (by decide)).cons' (F3.cons' F4.one))))).list.shows (by decide) (by decide), ?_⟩
    clear dA10 dB F F1 F2 F3 F4 F5
    walk_at "rd"
    refine r_lenL hS10 ?_
    rw [List.length_map]
    walk_at "rd"
    refine r_rngN (by omega) (by omega) ?_
    refine fl_range (fun i σ H1 => ∃ (y3 y4 y5 y6 y7 y8 y9 y10 y11 : Option V), σ = [some (.ref a), some (.ref la), some (.ref lb), y3, y4, y5, y6, y7, y8, y9, y10, y11] ∧ SqL K H1 a (ns.map V.int))
      ⟨none, none, none, none, none, none, none, none, none, rfl, hS10⟩ (fun i σ H1 hi hp => ?_) (fun σ H1 hp => ?_)
    · obtain ⟨y3, y4, y5, y6, y7, y8, y9, y10, y11, rfl, hS1⟩ := hp
      have i4 : i < 4 := by omega
      clear hi hS10 hS
      walk_at "rd"
      refine ⟨a, 0 + (i : Int), ns, rfl, hS1, hl, hbits, by omega, by omega, fun p H2 np sm2 dr2 => ?_⟩
      have hS2 := sm2.seq hS1
      clear hS1 sm2 np
      walk_at "rd"
      refine fl_range (fun j σ H3 => ∃ (y5 y6 y7 y8 y9 y10 y11 : Option V), σ = [some (.ref a), some (.ref la), some (.ref lb), some (.int (0 + (i : Int))), some (.ref p), y5, y6, y7, y8, y9, y10, y11] ∧ SqL K H3 a (ns.map V.int) ∧ Draws K p (j * 1000) H3)
        ⟨_, _, _, _, _, _, _, rfl, hS2, dr2⟩ (fun j σ H3 hj hp => ?_) (fun σ H3 hp => ?_)
      · obtain ⟨y5, y6, y7, y8, y9, y10, y11, rfl, hS3, dr3⟩ := hp
        have j4 : j < 4 := hj
        walk_at "rd"
        refine r_newL (few_le rfl) fun l H4 sm4 nl4 atl4 => ?_
        walk_at "rd"
        refine ⟨p, l, j * 1000, [1, 2, 3, 12, 40, 40, 400].map V.int, rfl, dr3.same sm4, by omega, sql_of atl4, by simp, few_le rfl, fun i7 v H5 hv k5 dr5 => ?_⟩
        obtain ⟨z, hz, rfl⟩ := ints_at hv
        have hb : ∀ z ∈ ([1, 2, 3, 12, 40, 40, 400] : List Int), 1 ≤ z ∧ z ≤ 400 := by decide
        have hb := hb z hz
        obtain ⟨k, rfl⟩ := Int.eq_ofNat_of_zero_le (show 0 ≤ z by omega)
        obtain ⟨kv4, at4⟩ := (dr3.same sm4).at_
        have hS5 := SqL.kp at4 k5.1 (sm4.seq hS3)
        obtain ⟨kv5, at5⟩ := dr5.at_
        clear hv hz atl4 nl4 hS3 dr3 sm4 at4 k5
        walk_at "rd"
        refine ⟨p, k, _, rfl, dr5, by omega, by omega, fun x H6 hx k6 dr6 => ?_⟩
        have hS6 := SqL.kp at5 k6.1 hS5
        obtain ⟨kv6, at6⟩ := dr6.at_
        walk_at "rd"
        refine ⟨p, k, _, rfl, dr6, by omega, by omega, fun y H7 hy k7 dr7 => ?_⟩
        have hS7 := SqL.kp at6 k7.1 hS6
        have bits : ∀ {x : Int}, x.natAbs < 10 ^ k → Bt 1600 x := fun {x} hx => by
          have h1 := ten_bits k
          have h2 : 2 ^ (4 * k) ≤ 2 ^ 1600 := Nat.pow_le_pow_right (by decide) (by omega)
          show x.natAbs < _
          omega
        have bx := bits hx
        have by_ := bits hy
        clear bits hx hy hS5 hS6 at5 at6 dr5 dr6 k6 k7
        walk_at "rd"
        walk_at "two"
        all_goals
          walk_at "rd"
          refine ⟨y, _, rfl, by first | assumption | decide, by_, by first | exact bx | exact (Bt.small (by decide) (by decide)).mono (by decide), fun H8 sm8 => ?_⟩
          walk_at "rd"
          refine ⟨_, _, _, _, _, _, _, rfl, sm8.seq hS7, (dr7.same sm8).mono (by omega)⟩
      · obtain ⟨y5, y6, y7, y8, y9, y10, y11, rfl, hS3, dr3⟩ := hp
        have dr3 : Draws K p 4000 H3 := dr3
        walk_at "rd"
        refine fl_range (fun j σ H4 => ∃ (y5 y6 y7 y8 y9 y10 y11 : Option V), σ = [some (.ref a), some (.ref la), some (.ref lb), some (.int (0 + (i : Int))), some (.ref p), y5, y6, y7, y8, y9, y10, y11] ∧ SqL K H4 a (ns.map V.int) ∧ Draws K p (4000 + j * 20000) H4)
          ⟨_, _, _, _, _, _, _, rfl, hS3, dr3⟩ (fun j σ H4 hj hp => ?_) (fun σ H4 hp => ?_)
        · obtain ⟨y5, y6, y7, y8, y9, y10, y11, rfl, hS4, dr4⟩ := hp
          have j3 : j < 3 := hj
          clear dr3 hS3 hS2 dr2
          walk_at "rd"
          refine r_newL (few_le rfl) fun l H5 sm5 nl5 atl5 => ?_
          walk_at "rd"
          refine ⟨p, l, 4000 + j * 20000, [1, 1, 1, 2, 25].map V.int, rfl, dr4.same sm5, by omega, sql_of atl5, by simp, few_le rfl, fun i5 v H6 hv k6 dr6 => ?_⟩
          obtain ⟨z, hz, rfl⟩ := ints_at hv
          have hb : ∀ z ∈ ([1, 1, 1, 2, 25] : List Int), 1 ≤ z ∧ z ≤ 25 := by decide
          have hb := hb z hz
          obtain ⟨k, rfl⟩ := Int.eq_ofNat_of_zero_le (show 0 ≤ z by omega)
          obtain ⟨kv5, at5⟩ := (dr4.same sm5).at_
          have hS6 := SqL.kp at5 k6.1 (sm5.seq hS4)
          obtain ⟨kv6, at6⟩ := dr6.at_
          clear hv hz atl5 nl5 hS4 dr4 sm5 at5 k6
          walk_at "rd"
          refine ⟨p, 9, _, rfl, dr6, by omega, by decide, (Bt.small (by decide) (by decide)).mono (by decide), fun m0 H7 v0 v1 k7 dr7 => ?_⟩
          have hS7 := SqL.kp at6 k7.1 hS6
          clear hS6 dr6 at6 k7
          walk_at "rd"
          rename_i tp H7b sm7 ntp attp
          have hS7 := sm7.seq hS7
          have dr7 := dr7.same sm7
          obtain ⟨kv7, at7⟩ := dr7.at_
          refine r_cut (fun σ H8 => ∃ (n : Nat) (y5 y6 y7 y10 y11 : Option V), σ = [some (.ref a), some (.ref la), some (.ref lb), some (.int (0 + (i : Int))), some (.ref p), y5, y6, y7, some (.int (k : Int)), some (.int (n : Int)), y10, y11] ∧ (n ≤ 8 ∨ (k = 1 ∧ n ≤ 398)) ∧
              SqL K H8 a (ns.map V.int) ∧ Draws K p (4000 + j * 20000 + 4) H8) ?_ (fun σ H8 hp => ?_)
          · obtain ⟨m, rfl⟩ := Int.eq_ofNat_of_zero_le v0
            walk_at "rd"
            walk_at "two"
            · rename_i hk
              walk_at "rd"
              refine ⟨p, 9, _, rfl, dr7, by omega, by decide, (Bt.small (by decide) (by decide)).mono (by decide), fun w1 H8 _ _ k8 dr8 => ?_⟩
              have hS8 := SqL.kp at7 k8.1 hS7
              obtain ⟨kv8, at8⟩ := dr8.at_
              walk_at "rd"
              walk_at "two"
              · walk_at "rd"
                refine ⟨p, 399, _, rfl, dr8, by omega, by decide, (Bt.small (by decide) (by decide)).mono (by decide), fun w2 H9 u0 u1 k9 dr9 => ?_⟩
                obtain ⟨n, rfl⟩ := Int.eq_ofNat_of_zero_le u0
                walk_at "rd"
                exact ⟨n, _, _, _, _, _, rfl, .inr ⟨by omega, by omega⟩, SqL.kp at8 k9.1 hS8, dr9.mono (by omega)⟩
              · walk_at "rd"
                exact ⟨m, _, _, _, _, _, rfl, .inl (by omega), hS8, dr8.mono (by omega)⟩
            · walk_at "rd"
              exact ⟨m, _, _, _, _, _, rfl, .inl (by omega), hS7, dr7.mono (by omega)⟩
          · obtain ⟨n, y5, y6, y7, y10, y11, rfl, hn, hS8, dr8⟩ := hp
            clear hS7 dr7 at7
            obtain ⟨kv8, at8⟩ := dr8.at_
            walk_at "rd"
            refine ⟨p, k, _, rfl, dr8, by omega, by omega, fun x0 H9 hx k9 dr9 => ?_⟩
            have hS9 := SqL.kp at8 k9.1 hS8
            walk_at "rd"
            refine r_newL (few_le rfl) fun l0 H10 sm10 nl0 atl0 => ?_
            have hS10 := sm10.seq hS9
            have dr10 := dr9.same sm10
            clear hS8 dr8 at8 k9 hS9 dr9 sm10 nl0
            walk_at "rd"
            refine r_rngN (by omega) (by omega) ?_
            intro L nL
            have eN : ((n : Int)).toNat = n := by omega
            rw [eN]
            obtain ⟨c, dl, dsd, dsp, dns, dat⟩ := dr10
            have apc := Apart.of dat.cells nL
            have apa := Apart.of hS10 nL
            have pL : p ≠ L := ne_of_none dat.at_ nL
            have l0L : l0 ≠ L := ne_of_none atl0 nL
            have t16 := ten16 (k := k) (by omega)
            refine cl_range (fun i6 H11 => ∃ (t : List Int) (dl dsd dsp : Int), H11 L = some (.lst (t.map V.int)) ∧ t.length = i6 ∧ Ones t ∧ (∀ x ∈ t, x.natAbs + 1 ≤ 2 ^ (4 * k)) ∧ DrawsAt K p (4000 + j * 20000 + 4 + k + 2 + i6 * (k + 1)) H11 c dl dsd dsp dns ∧ SqL K H11 a (ns.map V.int) ∧ H11 l0 = some (.lst [.int x0]))
              ⟨[], dl, dsd, dsp, upd_same, rfl, fun x hx => (List.not_mem_nil hx).elim, fun x hx => (List.not_mem_nil hx).elim, (dat.put apc pL).mono (by omega), apa.put hS10, by rw [upd_ne l0L]; exact atl0⟩ (fun i6 H11 hi6 hp => ?_) (fun H11 hp => ?_)
            · obtain ⟨t, dl, dsd, dsp, at11, lt, ot, bt, da11, hS11, al0⟩ := hp
              walk_at "rd"
              refine ⟨rfl, ?_⟩
              have i6k : i6 * (k + 1) ≤ 398 * 26 := Nat.mul_le_mul (by omega) (by omega)
              walk_at "rd"
              refine ⟨p, k, _, rfl, da11.all, by omega, by omega, fun v H12 hv k12 dr12 => ?_⟩
              obtain ⟨dl2, dsd2, dsp2, da12⟩ := da11.keep k12 dr12
              have hS12 := SqL.kp da11.at_ k12.1 hS11
              have at12 : H12 L = some (.lst (t.map V.int)) := k12.1 _ _ pL.symm at11
              have al12 : H12 l0 = some (.lst [.int x0]) := k12.1 _ _ (ne_of al0 da11.at_ (fun z => by cases z)) al0
              walk_at "rd"
              have e : sizeLine = 16777216 := by decide
              refine ⟨t.map V.int, at12, by rw [List.length_map]; omega, t ++ [1 + (v : Int)], dl2, dsd2, dsp2, ?_, by rw [List.length_append, List.length_singleton]; omega, fun x hx => ?_, fun x hx => ?_, (da12.put apc pL).mono ?_, apa.put hS12, by rw [upd_ne l0L]; exact al12⟩
              · rw [upd_same, List.map_append]
                rfl
              · rcases List.mem_append.mp hx with y | y
                · exact ot x y
                · rw [List.mem_singleton.mp y]
                  omega
              · rcases List.mem_append.mp hx with y | y
                · exact bt x y
                · rw [List.mem_singleton.mp y]
                  omega
              · rw [Nat.add_mul, Nat.one_mul]
                omega
            · obtain ⟨t, dl, dsd, dsp, at11, lt, ot, bt, da11, hS11, al0⟩ := hp
              have nk : n * (k + 1) ≤ 398 * 26 := Nat.mul_le_mul (by omega) (by omega)
              refine r_cat al0 at11 (by
                have e : sizeLine = 16777216 := by decide
                rw [List.length_map]
                show 1 + t.length ≤ _
                omega) fun R nR => ?_
              have sm12 := same_new (o := .lst ([V.int x0] ++ t.map V.int)) nR
              have da12 := da11.same sm12
              have hS12 := sm12.seq hS11
              have at12 : (upd H11 R (.lst ([V.int x0] ++ t.map V.int))) R = some (.lst ((x0 :: t).map V.int)) := upd_same
              have apR := Apart.of da11.cells nR
              have apaR := Apart.of hS11 nR
              generalize upd H11 R (.lst ([V.int x0] ++ t.map V.int)) = H12 at da12 hS12 at12 ⊢
              clear da11 hS11 sm12 al0 at11 nR
              have hx0 : x0.natAbs + 1 ≤ 2 ^ (4 * k) := by omega
              walk_at "rd"
              refine r_cut (fun σ H13 => ∃ (t : List Int) (y5 y6 y7 y8 y9 y11 : Option V), σ = [some (.ref a), some (.ref la), some (.ref lb), some (.int (0 + (i : Int))), some (.ref p), y5, y6, y7, y8, y9, some (.ref R), y11] ∧ H13 R = some (.lst ((x0 :: t).map V.int)) ∧ t.length ≤ n + 1 ∧ Ones t ∧ (∀ x ∈ t, x.natAbs + 1 ≤ 2 ^ (4 * k)) ∧
                  SqL K H13 a (ns.map V.int) ∧ Draws K p (4000 + j * 20000 + 4 + k + 2 + n * (k + 1) + 1) H13) ?_ (fun σ H13 hp => ?_)
              · walk_at "rd"
                refine ⟨p, 3, _, rfl, da12.all, by omega, by decide, (Bt.small (by decide) (by decide)).mono (by decide), fun w3 H13 _ _ k13 dr13 => ?_⟩
                obtain ⟨dl2, dsd2, dsp2, da13⟩ := da12.keep k13 dr13
                have hS13 := SqL.kp da12.at_ k13.1 hS12
                have at13 : H13 R = some (.lst ((x0 :: t).map V.int)) := k13.1 _ _ (ne_of at12 da12.at_ (fun z => by cases z)) at12
                walk_at "rd"
                walk_at "two"
                · walk_at "rd"
                  refine r_bmL (sql_of at13) ?_
                  walk_at "rd"
                  refine r_grow at13 (by rw [List.length_map]; show t.length + 1 < _; omega) fun H14 k14 at14 => ?_
                  walk_at "rd"
                  refine ⟨t ++ [1], _, _, _, _, _, _, rfl, ?_, by rw [List.length_append, List.length_singleton]; omega, fun x hx => ?_, fun x hx => ?_, ?_, (da13.kl apR at13 k14).all⟩
                  · rw [at14, ← List.cons_append, List.map_append]
                    rfl
                  · rcases List.mem_append.mp hx with y | y
                    · exact ot x y
                    · rw [List.mem_singleton.mp y]
                      decide
                  · rcases List.mem_append.mp hx with y | y
                    · exact bt x y
                    · rw [List.mem_singleton.mp y]
                      have := Nat.one_lt_two_pow (n := 4 * k) (by omega)
                      exact this
                  · rcases apaR with z | z
                    · exact SqL.same (fun u hu => k14 _ _ z hu) hS13
                    · exact z _
                · walk_at "rd"
                  exact ⟨t, _, _, _, _, _, _, rfl, at13, by omega, ot, bt, hS13, da13.all⟩
              · obtain ⟨t, y5, y6, y7, y8, y9, y11, rfl, at13, lt, ot, bt, hS13, dr13⟩ := hp
                walk_at "rd"
                refine r_tupL (sql_of at13) fun T H14 sm14 nT atT => ?_
                walk_at "rd"
                refine ⟨T, x0, t, 4 * k, rfl, sqt_of atT, ot, fun x hx => ?_, by omega, by show t.length + 1 ≤ 1000; omega, ?_, fun H15 sm15 => ?_⟩
                · rcases List.mem_cons.mp hx with y | y
                  · rw [y]
                    exact hx0
                  · exact bt x y
                · show 4 * k * (t.length + 1) ≤ 1700
                  rcases hn with z | ⟨z, z2⟩
                  · have : 4 * k * (t.length + 1) ≤ 100 * 10 := Nat.mul_le_mul (by omega) (by omega)
                    omega
                  · subst z
                    omega
                walk_at "rd"
                refine ⟨_, _, _, _, _, _, _, rfl, sm15.seq (sm14.seq hS13), ((dr13.same sm14).same sm15).mono (by omega)⟩
        · obtain ⟨y5, y6, y7, y8, y9, y10, y11, rfl, hS4, dr4⟩ := hp
          walk_at "rd"
          exact ⟨_, _, _, _, _, _, _, _, _, rfl, hS4⟩
    · obtain ⟨y3, y4, y5, y6, y7, y8, y9, y10, y11, rfl, hS1⟩ := hp
      walk_at "rd"
      exact q _
end
end L15
namespace L15
open PySem PySem.Spec PyProof.Rows L2 GB
theorem all_mk {l : PySem.W.OpenLaw} {w : World} {K : PySem.W.Frag} {h : Heap} {mg : Str → Option Value} {fa f0 f1 f2 f3 f4 f5 f6 f7 f8 f9 f10 f11 f12 f13 f14 f15 f16 : Addr} (X : K.In h) (G : h.Ns mainGlobals mg) (hfa : mg "law" = some (.ref fa))
    {od0 an0 od1 an1 od2 an2 od3 an3 od4 an4 od5 an5 od6 an6 od7 an7 od8 an8 od9 an9 od10 an10 od11 an11 od12 an12 od13 an13 od14 an14 od15 an15 od16 an16 : Option Addr} {sl0 sl1 sl2 sl3 sl4 sl5 sl6 sl7 sl8 sl9 sl10 sl11 sl12 sl13 sl14 sl15 sl16 : Array (Option Value)} {oc0 kV0 dc0 pm0 cd0 ct0 oc1 kV1 dc1 pm1 cd1 ct1 oc2 kV2 dc2 pm2 cd2 ct2 oc3 kV3 dc3 pm3 cd3 ct3 oc4 kV4 dc4 pm4 cd4 ct4 oc5 kV5 dc5 pm5 cd5 ct5 oc6 kV6 dc6 pm6 cd6 ct6 oc7 kV7 dc7 pm7 cd7 ct7 oc8 kV8 dc8 pm8 cd8 ct8 oc9 kV9 dc9 pm9 cd9 ct9 oc10 kV10 dc10 pm10 cd10 ct10 oc11 kV11 dc11 pm11 cd11 ct11 oc12 kV12 dc12 pm12 cd12 ct12 oc13 kV13 dc13 pm13 cd13 ct13 oc14 kV14 dc14 pm14 cd14 ct14 oc15 kV15 dc15 pm15 cd15 ct15 oc16 kV16 dc16 pm16 cd16 ct16 : Value}
    (a0 : PySem.W.nsIn K mainGlobals "chain" = some (some (.ref f0))) (l0 : K.lookup f0 = some ⟨oc0, od0, .func (PySem.W.fnOf "chain" "chain" (defArgs s_chain) (defBody s_chain) (defScope s_chain) .none kV0 dc0 pm0 an0 cd0 ct0), sl0⟩) (c0 : PySem.W.codeIn K cd0 "chain" = true) (k0 : PySem.W.keepIn K (.ref f0) = true)
    (a1 : PySem.W.nsIn K mainGlobals "convergents" = some (some (.ref f1))) (l1 : K.lookup f1 = some ⟨oc1, od1, .func (PySem.W.fnOf "convergents" "convergents" (defArgs s_convergents) (defBody s_convergents) (defScope s_convergents) .none kV1 dc1 pm1 an1 cd1 ct1), sl1⟩) (c1 : PySem.W.codeIn K cd1 "convergents" = true) (k1 : PySem.W.keepIn K (.ref f1) = true)
    (a2 : PySem.W.nsIn K mainGlobals "_law_begun" = some (some (.ref f2))) (l2 : K.lookup f2 = some ⟨oc2, od2, .func (PySem.W.fnOf "_law_begun" "_law_begun" (defArgs s_law_begun) (defBody s_law_begun) (defScope s_law_begun) .none kV2 dc2 pm2 an2 cd2 ct2), sl2⟩) (c2 : PySem.W.codeIn K cd2 "_law_begun" = true) (k2 : PySem.W.keepIn K (.ref f2) = true)
    (a3 : PySem.W.nsIn K mainGlobals "_law_draw" = some (some (.ref f3))) (l3 : K.lookup f3 = some ⟨oc3, od3, .func (PySem.W.fnOf "_law_draw" "_law_draw" (defArgs s_law_draw) (defBody s_law_draw) (defScope s_law_draw) .none kV3 dc3 pm3 an3 cd3 ct3), sl3⟩) (c3 : PySem.W.codeIn K cd3 "_law_draw" = true) (k3 : PySem.W.keepIn K (.ref f3) = true)
    (a4 : PySem.W.nsIn K mainGlobals "_law_of" = some (some (.ref f4))) (l4 : K.lookup f4 = some ⟨oc4, od4, .func (PySem.W.fnOf "_law_of" "_law_of" (defArgs s_law_of) (defBody s_law_of) (defScope s_law_of) .none kV4 dc4 pm4 an4 cd4 ct4), sl4⟩) (c4 : PySem.W.codeIn K cd4 "_law_of" = true) (k4 : PySem.W.keepIn K (.ref f4) = true)
    (a5 : PySem.W.nsIn K mainGlobals "_law_like" = some (some (.ref f5))) (l5 : K.lookup f5 = some ⟨oc5, od5, .func (PySem.W.fnOf "_law_like" "_law_like" (defArgs s_law_like) (defBody s_law_like) (defScope s_law_like) .none kV5 dc5 pm5 an5 cd5 ct5), sl5⟩) (c5 : PySem.W.codeIn K cd5 "_law_like" = true) (k5 : PySem.W.keepIn K (.ref f5) = true)
    (a6 : PySem.W.nsIn K mainGlobals "_law_sized" = some (some (.ref f6))) (l6 : K.lookup f6 = some ⟨oc6, od6, .func (PySem.W.fnOf "_law_sized" "_law_sized" (defArgs s_law_sized) (defBody s_law_sized) (defScope s_law_sized) .none kV6 dc6 pm6 an6 cd6 ct6), sl6⟩) (c6 : PySem.W.codeIn K cd6 "_law_sized" = true) (k6 : PySem.W.keepIn K (.ref f6) = true)
    (a7 : PySem.W.nsIn K mainGlobals "_law_signed" = some (some (.ref f7))) (l7 : K.lookup f7 = some ⟨oc7, od7, .func (PySem.W.fnOf "_law_signed" "_law_signed" (defArgs s_law_signed) (defBody s_law_signed) (defScope s_law_signed) .none kV7 dc7 pm7 an7 cd7 ct7), sl7⟩) (c7 : PySem.W.codeIn K cd7 "_law_signed" = true) (k7 : PySem.W.keepIn K (.ref f7) = true)
    (a8 : PySem.W.nsIn K mainGlobals "_law_common" = some (some (.ref f8))) (l8 : K.lookup f8 = some ⟨oc8, od8, .func (PySem.W.fnOf "_law_common" "_law_common" (defArgs s_law_common) (defBody s_law_common) (defScope s_law_common) .none kV8 dc8 pm8 an8 cd8 ct8), sl8⟩) (c8 : PySem.W.codeIn K cd8 "_law_common" = true) (k8 : PySem.W.keepIn K (.ref f8) = true)
    (a9 : PySem.W.nsIn K mainGlobals "_law_turned" = some (some (.ref f9))) (l9 : K.lookup f9 = some ⟨oc9, od9, .func (PySem.W.fnOf "_law_turned" "_law_turned" (defArgs s_law_turned) (defBody s_law_turned) (defScope s_law_turned) .none kV9 dc9 pm9 an9 cd9 ct9), sl9⟩) (c9 : PySem.W.codeIn K cd9 "_law_turned" = true) (k9 : PySem.W.keepIn K (.ref f9) = true)
    (a10 : PySem.W.nsIn K mainGlobals "_law_floor" = some (some (.ref f10))) (l10 : K.lookup f10 = some ⟨oc10, od10, .func (PySem.W.fnOf "_law_floor" "_law_floor" (defArgs s_law_floor) (defBody s_law_floor) (defScope s_law_floor) .none kV10 dc10 pm10 an10 cd10 ct10), sl10⟩) (c10 : PySem.W.codeIn K cd10 "_law_floor" = true) (k10 : PySem.W.keepIn K (.ref f10) = true)
    (a11 : PySem.W.nsIn K mainGlobals "_law_chain" = some (some (.ref f11))) (l11 : K.lookup f11 = some ⟨oc11, od11, .func (PySem.W.fnOf "_law_chain" "_law_chain" (defArgs s_law_chain) (defBody s_law_chain) (defScope s_law_chain) .none kV11 dc11 pm11 an11 cd11 ct11), sl11⟩) (c11 : PySem.W.codeIn K cd11 "_law_chain" = true) (k11 : PySem.W.keepIn K (.ref f11) = true)
    (a12 : PySem.W.nsIn K mainGlobals "_law_folded" = some (some (.ref f12))) (l12 : K.lookup f12 = some ⟨oc12, od12, .func (PySem.W.fnOf "_law_folded" "_law_folded" (defArgs s_law_folded) (defBody s_law_folded) (defScope s_law_folded) .none kV12 dc12 pm12 an12 cd12 ct12), sl12⟩) (c12 : PySem.W.codeIn K cd12 "_law_folded" = true) (k12 : PySem.W.keepIn K (.ref f12) = true)
    (a13 : PySem.W.nsIn K mainGlobals "_law_is_nearest" = some (some (.ref f13))) (l13 : K.lookup f13 = some ⟨oc13, od13, .func (PySem.W.fnOf "_law_is_nearest" "_law_is_nearest" (defArgs s_law_is_nearest) (defBody s_law_is_nearest) (defScope s_law_is_nearest) .none kV13 dc13 pm13 an13 cd13 ct13), sl13⟩) (c13 : PySem.W.codeIn K cd13 "_law_is_nearest" = true) (k13 : PySem.W.keepIn K (.ref f13) = true)
    (a14 : PySem.W.nsIn K mainGlobals "_law_row_right" = some (some (.ref f14))) (l14 : K.lookup f14 = some ⟨oc14, od14, .func (PySem.W.fnOf "_law_row_right" "_law_row_right" (defArgs s_law_row_right) (defBody s_law_row_right) (defScope s_law_row_right) .none kV14 dc14 pm14 an14 cd14 ct14), sl14⟩) (c14 : PySem.W.codeIn K cd14 "_law_row_right" = true) (k14 : PySem.W.keepIn K (.ref f14) = true)
    (a15 : PySem.W.nsIn K mainGlobals "_law_ratio_right" = some (some (.ref f15))) (l15 : K.lookup f15 = some ⟨oc15, od15, .func (PySem.W.fnOf "_law_ratio_right" "_law_ratio_right" (defArgs s_law_ratio_right) (defBody s_law_ratio_right) (defScope s_law_ratio_right) .none kV15 dc15 pm15 an15 cd15 ct15), sl15⟩) (c15 : PySem.W.codeIn K cd15 "_law_ratio_right" = true) (k15 : PySem.W.keepIn K (.ref f15) = true)
    (a16 : PySem.W.nsIn K mainGlobals "law" = some (some (.ref f16))) (l16 : K.lookup f16 = some ⟨oc16, od16, .func (PySem.W.fnOf "law" "law" (defArgs s_law) (defBody s_law) (defScope s_law) .none kV16 dc16 pm16 an16 cd16 ct16), sl16⟩) (c16 : PySem.W.codeIn K cd16 "law" = true) (k16 : PySem.W.keepIn K (.ref f16) = true)
    (y_tuple : PySem.W.nsIn K mainGlobals "tuple" = some none) (y_int : PySem.W.nsIn K mainGlobals "int" = some none) (y_len : PySem.W.nsIn K mainGlobals "len" = some none) (y_repr : PySem.W.nsIn K mainGlobals "repr" = some none) (y_range : PySem.W.nsIn K mainGlobals "range" = some none) (y_abs : PySem.W.nsIn K mainGlobals "abs" = some none) (y_max : PySem.W.nsIn K mainGlobals "max" = some none) (y_min : PySem.W.nsIn K mainGlobals "min" = some none) :
    ∃ fd : FuncData, (∀ (s : Shared) (v : Value), BindsTo s fd ⟨[v], []⟩ [("script", v)]) ∧ ∀ base : Heap, K.In base → base.Ns mainGlobals mg → GOk l.prog w K mg base CX0 4 fa fd ["script"] (spLaw K) := by
  have e := hfa.symm.trans (PySem.W.mg_of X G a16)
  cases e
  have F0 := fun_mk (st := s_chain) l0 c0 k0
  have h_chain : Has K mg "chain" s_chain ["a", "b"] f0 _ := ⟨F0, PySem.W.mg_of X G a0, F0.binds fun _ _ _ _ _ _ us hl => match us, hl with | [_, _], _ => rfl⟩
  have F1 := fun_mk (st := s_convergents) l1 c1 k1
  have h_convergents : Has K mg "convergents" s_convergents ["row"] f1 _ := ⟨F1, PySem.W.mg_of X G a1, F1.binds fun _ _ _ _ _ _ us hl => match us, hl with | [_], _ => rfl⟩
  have F2 := fun_mk (st := s_law_begun) l2 c2 k2
  have h_law_begun : Has K mg "_law_begun" s_law_begun ["script", "k"] f2 _ := ⟨F2, PySem.W.mg_of X G a2, F2.binds fun _ _ _ _ _ _ us hl => match us, hl with | [_, _], _ => rfl⟩
  have F3 := fun_mk (st := s_law_draw) l3 c3 k3
  have h_law_draw : Has K mg "_law_draw" s_law_draw ["m", "bound"] f3 _ := ⟨F3, PySem.W.mg_of X G a3, F3.binds fun _ _ _ _ _ _ us hl => match us, hl with | [_, _], _ => rfl⟩
  have F4 := fun_mk (st := s_law_of) l4 c4 k4
  have h_law_of : Has K mg "_law_of" s_law_of ["m", "some"] f4 _ := ⟨F4, PySem.W.mg_of X G a4, F4.binds fun _ _ _ _ _ _ us hl => match us, hl with | [_, _], _ => rfl⟩
  have F5 := fun_mk (st := s_law_like) l5 c5 k5
  have h_law_like : Has K mg "_law_like" s_law_like ["got", "due"] f5 _ := ⟨F5, PySem.W.mg_of X G a5, F5.binds fun _ _ _ _ _ _ us hl => match us, hl with | [_, _], _ => rfl⟩
  have F6 := fun_mk (st := s_law_sized) l6 c6 k6
  have h_law_sized : Has K mg "_law_sized" s_law_sized ["m", "most"] f6 _ := ⟨F6, PySem.W.mg_of X G a6, F6.binds fun _ _ _ _ _ _ us hl => match us, hl with | [_, _], _ => rfl⟩
  have F7 := fun_mk (st := s_law_signed) l7 c7 k7
  have h_law_signed : Has K mg "_law_signed" s_law_signed ["m", "most"] f7 _ := ⟨F7, PySem.W.mg_of X G a7, F7.binds fun _ _ _ _ _ _ us hl => match us, hl with | [_, _], _ => rfl⟩
  have F8 := fun_mk (st := s_law_common) l8 c8 k8
  have h_law_common : Has K mg "_law_common" s_law_common ["a", "b"] f8 _ := ⟨F8, PySem.W.mg_of X G a8, F8.binds fun _ _ _ _ _ _ us hl => match us, hl with | [_, _], _ => rfl⟩
  have F9 := fun_mk (st := s_law_turned) l9 c9 k9
  have h_law_turned : Has K mg "_law_turned" s_law_turned ["a", "m"] f9 _ := ⟨F9, PySem.W.mg_of X G a9, F9.binds fun _ _ _ _ _ _ us hl => match us, hl with | [_, _], _ => rfl⟩
  have F10 := fun_mk (st := s_law_floor) l10 c10 k10
  have h_law_floor : Has K mg "_law_floor" s_law_floor ["a", "b"] f10 _ := ⟨F10, PySem.W.mg_of X G a10, F10.binds fun _ _ _ _ _ _ us hl => match us, hl with | [_, _], _ => rfl⟩
  have F11 := fun_mk (st := s_law_chain) l11 c11 k11
  have h_law_chain : Has K mg "_law_chain" s_law_chain ["a", "b"] f11 _ := ⟨F11, PySem.W.mg_of X G a11, F11.binds fun _ _ _ _ _ _ us hl => match us, hl with | [_, _], _ => rfl⟩
  have F12 := fun_mk (st := s_law_folded) l12 c12 k12
  have h_law_folded : Has K mg "_law_folded" s_law_folded ["row"] f12 _ := ⟨F12, PySem.W.mg_of X G a12, F12.binds fun _ _ _ _ _ _ us hl => match us, hl with | [_], _ => rfl⟩
  have F13 := fun_mk (st := s_law_is_nearest) l13 c13 k13
  have h_law_is_nearest : Has K mg "_law_is_nearest" s_law_is_nearest ["whole", "pair"] f13 _ := ⟨F13, PySem.W.mg_of X G a13, F13.binds fun _ _ _ _ _ _ us hl => match us, hl with | [_, _], _ => rfl⟩
  have F14 := fun_mk (st := s_law_row_right) l14 c14 k14
  have h_law_row_right : Has K mg "_law_row_right" s_law_row_right ["row"] f14 _ := ⟨F14, PySem.W.mg_of X G a14, F14.binds fun _ _ _ _ _ _ us hl => match us, hl with | [_], _ => rfl⟩
  have F15 := fun_mk (st := s_law_ratio_right) l15 c15 k15
  have h_law_ratio_right : Has K mg "_law_ratio_right" s_law_ratio_right ["a", "b"] f15 _ := ⟨F15, PySem.W.mg_of X G a15, F15.binds fun _ _ _ _ _ _ us hl => match us, hl with | [_, _], _ => rfl⟩
  have F16 := fun_mk (st := s_law) l16 c16 k16
  have h_law : Has K mg "law" s_law ["script"] fa _ := ⟨F16, PySem.W.mg_of X G a16, F16.binds fun _ _ _ _ _ _ us hl => match us, hl with | [_], _ => rfl⟩
  have z_tuple := PySem.W.mg_none_of X G y_tuple
  have z_int := PySem.W.mg_none_of X G y_int
  have z_len := PySem.W.mg_none_of X G y_len
  have z_repr := PySem.W.mg_none_of X G y_repr
  have z_range := PySem.W.mg_none_of X G y_range
  have z_abs := PySem.W.mg_none_of X G y_abs
  have z_max := PySem.W.mg_none_of X G y_max
  have z_min := PySem.W.mg_none_of X G y_min
  refine ⟨PySem.W.fnOf "law" "law" (defArgs s_law) (defBody s_law) (defScope s_law) .none kV16 dc16 pm16 an16 cd16 ct16, fun s v => .of_eq rfl, fun base _ _ => ?_⟩
  have ch := ok_chain (P := l.prog) (w := w) (base := base) h_chain z_tuple
  have cv := ok_conv (P := l.prog) (w := w) (base := base) h_convergents z_tuple
  have lk := ok_like (P := l.prog) (w := w) (base := base) h_law_like z_repr
  have dw := ok_draw (P := l.prog) (w := w) (base := base) h_law_draw z_int z_len
  have of_ := ok_of (P := l.prog) (w := w) (base := base) h_law_of h_law_draw dw z_len
  have bg := ok_begun (P := l.prog) (w := w) (base := base) h_law_begun z_int
  have sz := ok_sized (P := l.prog) (w := w) (base := base) h_law_sized z_range h_law_draw dw
  have sn := ok_signed (P := l.prog) (w := w) (base := base) h_law_signed h_law_sized sz h_law_of of_
  have cm := ok_common (P := l.prog) (w := w) (base := base) h_law_common z_abs
  have fl := ok_floor (P := l.prog) (w := w) (base := base) h_law_floor
  have lc := ok_lchain (P := l.prog) (w := w) (base := base) h_law_chain z_tuple h_law_floor fl
  have fo := ok_fold (P := l.prog) (w := w) (base := base) h_law_folded
  have ne := ok_near (P := l.prog) (w := w) (base := base) h_law_is_nearest z_range z_abs h_law_floor fl
  have rw_ := ok_row (P := l.prog) (w := w) (base := base) h_law_row_right z_range z_len z_max z_tuple z_abs h_convergents cv h_law_like lk h_law_folded fo h_law_common cm h_chain ch h_law_is_nearest ne
  have rt := ok_ratio (P := l.prog) (w := w) (base := base) h_law_ratio_right z_len z_abs h_law_chain lc h_law_like lk h_law_common cm h_convergents cv h_chain ch
  exact ok_law h_law z_range z_max z_min z_len z_tuple h_chain ch h_convergents cv h_law_like lk h_law_begun bg h_law_of of_ h_law_signed sn h_law_ratio_right rt h_law_draw dw h_law_row_right rw_ h_law_sized sz
end L15
open PySem PySem.W PyProof.Rows
set_option maxHeartbeats 0 in
theorem PySem.Challenge.cw_numberpapers_k15_whole_chains_holds : PySem.Challenge.rw_numberpapers_k15_whole_chains.Holds := by
  w_on; o_law; k_head; (case hw => w_witness2)
  k_fill
  refine GB.walk_ofG (l := PySem.Challenge.rw_numberpapers_k15_whole_chains) (n := 63) (lev := 4) (par := "script") (say := L15.spLaw) rfl (by decide) rfl ⟨rfl, by decide, by decide⟩ (fun w h Y => PySem.W.kIn_of Y) ?F (fun K T a ns hl hb _ seq => ⟨a, ns, rfl, seq, hl, fun x hx => GB.Bt.of_bits (hb x hx), fun _ => rfl⟩)
  case F =>
    intro w mg fa h KX G hmg
    refine' L15.all_mk KX G hmg ?a0 ?l0 ?c0 ?k0 ?a1 ?l1 ?c1 ?k1 ?a2 ?l2 ?c2 ?k2 ?a3 ?l3 ?c3 ?k3 ?a4 ?l4 ?c4 ?k4 ?a5 ?l5 ?c5 ?k5 ?a6 ?l6 ?c6 ?k6 ?a7 ?l7 ?c7 ?k7 ?a8 ?l8 ?c8 ?k8 ?a9 ?l9 ?c9 ?k9 ?a10 ?l10 ?c10 ?k10 ?a11 ?l11 ?c11 ?k11 ?a12 ?l12 ?c12 ?k12 ?a13 ?l13 ?c13 ?k13 ?a14 ?l14 ?c14 ?k14 ?a15 ?l15 ?c15 ?k15 ?a16 ?l16 ?c16 ?k16 ?y_tuple ?y_int ?y_len ?y_repr ?y_range ?y_abs ?y_max ?y_min
    (case a0 => k_is)
    (case l0 => k_is)
    (case c0 => k_is)
    (case k0 => k_is)
    (case a1 => k_is)
    (case l1 => k_is)
    (case c1 => k_is)
    (case k1 => k_is)
    (case a2 => k_is)
    (case l2 => k_is)
    (case c2 => k_is)
    (case k2 => k_is)
    (case a3 => k_is)
    (case l3 => k_is)
    (case c3 => k_is)
    (case k3 => k_is)
    (case a4 => k_is)
    (case l4 => k_is)
    (case c4 => k_is)
    (case k4 => k_is)
    (case a5 => k_is)
    (case l5 => k_is)
    (case c5 => k_is)
    (case k5 => k_is)
    (case a6 => k_is)
    (case l6 => k_is)
    (case c6 => k_is)
    (case k6 => k_is)
    (case a7 => k_is)
    (case l7 => k_is)
    (case c7 => k_is)
    (case k7 => k_is)
    (case a8 => k_is)
    (case l8 => k_is)
    (case c8 => k_is)
    (case k8 => k_is)
    (case a9 => k_is)
    (case l9 => k_is)
    (case c9 => k_is)
    (case k9 => k_is)
    (case a10 => k_is)
    (case l10 => k_is)
    (case c10 => k_is)
    (case k10 => k_is)
    (case a11 => k_is)
    (case l11 => k_is)
    (case c11 => k_is)
    (case k11 => k_is)
    (case a12 => k_is)
    (case l12 => k_is)
    (case c12 => k_is)
    (case k12 => k_is)
    (case a13 => k_is)
    (case l13 => k_is)
    (case c13 => k_is)
    (case k13 => k_is)
    (case a14 => k_is)
    (case l14 => k_is)
    (case c14 => k_is)
    (case k14 => k_is)
    (case a15 => k_is)
    (case l15 => k_is)
    (case c15 => k_is)
    (case k15 => k_is)
    (case a16 => k_is)
    (case l16 => k_is)
    (case c16 => k_is)
    (case k16 => k_is)
    (case y_tuple => k_is)
    (case y_int => k_is)
    (case y_len => k_is)
    (case y_repr => k_is)
    (case y_range => k_is)
    (case y_abs => k_is)
    (case y_max => k_is)
    (case y_min => k_is)
