import PyProof.Rows.All
import Wide.All
import OpenK.AllK
import Wide.FinOn
import HandS.ForMost
import PyProof.ReprRoads
import PyProof.ReprBulk
import HandS.EndBits
import HandS.Wide
import HandS.Style
import HandS.TupAny
import HandS.Evl
import HandS.WideBits
import HandS.RevRange
import HandS.Steps
import HandS.Rev
import HandS.IsInst
import HandS.Zip
import HandS.TupLe
import PySem.Challenge.RW_numberpapers_k16_whole_neighbours
set_option Elab.async false
set_option linter.all false
set_option maxRecDepth 100000
set_option maxHeartbeats 4000000
set_option exponentiation.threshold 20000
/-! promises of defs that are called with no text of an object under way, and what shows data as texts -/
namespace GB
open PySem PySem.Spec PyProof.Rows L2

/-- as FnOk, where no text of an object is under way -/
structure GOk (pr : Program) (wd : World) (fr : PySem.W.Frag) (mod : Str → Option Value) (bh : Heap) (cx : CXT) (lev : Nat) (at_ : Addr) (fun_ : FuncData) (pars : List Str) (say : Sp) : Prop where
  arity : ∀ us T Q E, say us T Q E → us.length = pars.length
  go : ∀ (B : Around) (callers : List Env) (st : Shared) (T : Hp) (given : Args) (ws : List Value) (us : List V) (Q : VK) (E : XK), B.guards = some [] → Room lev B →
    Env0 pr wd fr mod bh B callers st T → BindsTo st fun_ given (pars.zip ws) → Vals us ws → say us T Q E →
    codeAny (model pr wd) B (.call (.ref at_) given) (CR cx callers pr wd T st Q E) st

section
variable {pr : Program} {wd : World} {fr : PySem.W.Frag} {mod : Str → Option Value} {bh : Heap} {cx : CXT} {lev : Nat} {at_ : Addr} {fun_ : FuncData} {pars : List Str} {say : Sp}
theorem GOk.of (z : FnOk pr wd fr mod bh cx lev at_ fun_ pars say) : GOk pr wd fr mod bh cx lev at_ fun_ pars say :=
  ⟨z.len, fun B cs st T g ws us Q E _ room env bs vs hs => z.run B cs st T g ws us Q E room env bs vs hs⟩
theorem GOk.mono {lev' : Nat} (z : GOk pr wd fr mod bh cx lev at_ fun_ pars say) (le : lev ≤ lev') : GOk pr wd fr mod bh cx lev' at_ fun_ pars say :=
  ⟨z.arity, fun B cs st T g ws us Q E hg room => z.go B cs st T g ws us Q E hg (room.mono le)⟩
end

/-- a def by its body, where no text is under way -/
theorem fun_okG {pr : Program} {wd : World} {fr : PySem.W.Frag} {mod : Str → Option Value} {bh : Heap} {nm qn : Str} {st : Stmt} {at_ : Addr} {fun_ : FuncData} {names pars : List Str} {lev : Nat} {say : Sp}
    (Z : Fun fr nm qn st at_ fun_) (S : FnScope names pars (defScope st)) (arity : ∀ us T Q E, say us T Q E → us.length = pars.length)
    (body : ∀ (cv : Value) (B : Around) (callers : List Env) (s : Shared) (T : Hp) (us : List V) (Q : VK) (E : XK), (B.deeper (envOfC qn (defScope st) s.heap.objs.size at_ cv)).guards = some [] →
      Room lev (B.deeper (envOfC qn (defScope st) s.heap.objs.size at_ cv)) → say us T Q E →
      ∃ t, PSs (cxOf CX0 pr wd fr mod bh names qn (defScope st) at_ cv B callers s T E).nox (defBody st) t ∧ t { nx := fun _ T' => Q .non T', rt := Q } (start names us) T) :
    GOk pr wd fr mod bh CX0 (lev + 1) at_ fun_ pars say := by
  obtain ⟨oc, od, kV, doc, pm, an, cv, ct, osl, rfl, found, hcode⟩ := Z.ex
  refine ⟨arity, fun B callers s T given ws us Q E noguard room env bnd vals hsay => ?_⟩
  have many := arity _ _ _ _ hsay
  have below : ∀ {b : Addr} {o : Obj}, bh.get? b = some o → s.heap.get? b = some o := fun q => (env.bs _ _ q).1
  have frIn : fr.In s.heap := env.mod.kin.keeps fun _ _ q => below q
  have nolim : s.heap.NoLimit := env.mod.nolimit.keeps fun _ _ q => below q
  have kinds : ∀ y ∈ pars.zip ws, (defScope st).names.lookup y.1 = some .local ∨ ((defScope st).names.lookup y.1 = some .cell ∧ ((cellsFrom (s.heap.objs.size + 1) (defScope st).names []).lookup y.1).isSome = true) := by
    intro y hy
    obtain ⟨n, v⟩ := y
    have hn : n ∈ pars := (List.of_mem_zip hy).1
    exact (S.par n hn).elim Or.inl fun q => Or.inr ⟨q, PySem.W.cellsFrom_some _ _ _ (.inl q)⟩
  have entry := codeAny_call_function (prog := pr) (w := wd) (A := B) (args := given) (R := CR CX0 callers pr wd T s Q E) (s := s) room.depth (frIn _ _ found) rfl S.co S.gen rfl (PySem.W.codeRec_of frIn hcode)
  refine entry (bnd _ _ _ _ ?_)
  refine wpAny_newFunctionEnv_cells S.kind kinds fun env' henv s1 hs1 => ?_
  subst henv
  refine ⟨nolim.keeps hs1.toInCall.keep, codeAny_func ?_⟩
  obtain ⟨t, hder, hread⟩ := body cv B callers s T us Q E (by exact noguard) (room.deeper _) hsay
  have inv0 := inv_start (CX := CX0) (P := pr) (w := wd) (mg := mod) (E := E) (cd := cv) S room.hd env many vals hs1
  have finish : ∀ {σ' : L2.St} {T' : Hp} {v : V} {u : Value} {s' : Shared}, Inv (cxOf CX0 pr wd fr mod bh names qn (defScope st) at_ cv B callers s T E) [] σ' T' s' → RelV v u → Q v T' → CE callers pr wd T s Q u s' :=
    fun J rv q => ⟨_, _, J.os, J.bare, J.base, J.hok, rv, q⟩
  have ran := hder.nox.run [] s1 (start names us) T _ inv0 hread
  refine wpAny_mono ran (fun fl s' got => ?_) fun _ _ got => got
  match fl, got with
  | .ret u, ⟨_, _, _, J, rv, q⟩ => exact finish J rv q
  | .next, ⟨_, _, J, q⟩ => exact finish (v := V.non) (u := Value.none) J rfl q
  | .brk, ⟨_, _, _, q⟩ => exact q.elim
  | .cont, ⟨_, _, _, q⟩ => exact q.elim

section
variable {X : Cx} {cx : CXT} {lev : Nat} {at_ : Addr} {fun_ : FuncData} {pars : List Str} {say : Sp} {more : List V} {dfl : List Value} {E : XK} {x : Str} {p pos : Pos} {e : Expr} {es : List Expr} {t : TA}
theorem run_G {pins : List (Addr × Obj)} {σ : L2.St} {T : Hp} {s : Shared} {Q : VK} {ws : List Value} {us : List V} (Z : GOk X.prog X.w X.K X.mg X.base cx lev at_ fun_ pars say) (noguard : X.A.guards = some []) (room : Room lev X.A)
    (bnd : Binds X.K fun_ pars dfl) (dv : Vals more dfl) (pass : Passes cx X E) (J : Inv X pins σ T s) (vs : Vals us ws) (hs : say (us ++ more) T Q E) : wpAny (model X.prog X.w) X.A (call (.ref at_) ws) (EP X pins σ Q) X.xe s := by
  have both : Vals (us ++ more) (ws ++ dfl) := vs.append dv
  have many : (ws ++ dfl).length = pars.length := both.length.symm.trans (Z.arity _ _ _ _ hs)
  have ran := Z.go X.A X.stack s T ⟨ws, []⟩ (ws ++ dfl) (us ++ more) Q E noguard room J.env0 (bnd s ws J.kIn many) both hs
  refine wpAny_call (codeAny_mono ran fun r s' got => ?_)
  match r, got with
  | .error er, got => exact pass pins σ T s er s' J got
  | .ok (.ret u), got => exact J.after got
  | .ok .next, got => exact got.elim
  | .ok .brk, got => exact got.elim
  | .ok .cont, got => exact got.elim
/-- f(e, ..) of a def that shows texts -/
theorem pe_callG (Z : GOk X.prog X.w X.K X.mg X.base cx lev at_ fun_ pars say) (noguard : X.A.guards = some []) (room : Room lev X.A) (hg : Gl X x) (hm : X.mg x = some (.ref at_)) (hk : PySem.W.keepIn X.K (.ref at_) = true)
    (bnd : Binds X.K fun_ pars dfl) (dv : Vals more dfl) (pass : Passes cx X E) (ha : PA X (e :: es) t) (nodb : (x == ("__debug__" : Str)) = false := by decide)
    (hstar : starEach (e :: es) X.env = (false, eval e X.env) :: starEach es X.env := by rfl) (nostar : (backTo pos (starEach es X.env)).any (·.1) = false := by rfl) :
    PE X (.Call (.Name x p) (e :: es) [] pos) (tCall say more E t) := by
  constructor
  intro pins s σ T Q J got
  refine wpAny_Call_Name_kw (ld_glob J hg hm ?_ nodb)
  have args := ha.run pos pins s σ T _ J got
  refine PySem.W.callWith_K (h₀ := X.base) J.ok.mod.kin hk (thn args fun ws s1 ⟨us, T1, J1, rel, q⟩ => ?_) hstar nostar
  exact ⟨J1.kIn, run_G Z noguard room bnd dv pass J1 rel q⟩
end

/-! ### texts of data -/
theorem repr_leaf {pr : Program} {wd : World} {A : Around} {E : Value → Shared → Prop} {s : Shared} {Q : Value → Shared → Prop} {u : Value} {d : PyData} {as : List Addr} (r : Reads s.heap u d as) (sh : d.showable = true) (nd : d.hasDict = false)
    (hz : d.shown.length ≤ sizeLine) (ng : A.guards = some []) (hu : A.units + (d.depth + 1) < cLine)
    (hQ : ∀ h' t tk, (∀ b o, s.heap.get? b = some o → h'.get? b = some o) → Q (.str d.shown t) { s with heap := h', toks := tk }) : wpAny (model pr wd) A (call (.builtin "repr") [u]) Q E s := by
  cases u with
  | ref a => exact repr_of_reads' r sh (fun z => absurd z (by rw [nd]; decide)) ng hu (fun _ _ q => q) hQ hz
  | none => cases r; exact PySem.P.repr_of_none (hQ s.heap _ _ fun _ _ q => q)
  | bool b => cases r; exact PySem.P.repr_of_bool (hQ s.heap _ _ fun _ _ q => q)
  | int i t =>
    cases r
    refine PySem.P.repr_of_int ?_ (hQ s.heap _ _ fun _ _ q => q)
    simpa [PyData.showable] using sh
  | str x t => cases r; exact PySem.P.repr_of_str (hQ s.heap _ _ fun _ _ q => q) hz
  | _ => cases r

/-- data that repr shows in the model's bounds -/
structure Shows (d : PyData) : Prop where
  able : d.showable = true
  nodict : d.hasDict = false
  size : d.shown.length ≤ sizeLine
  deep : d.depth ≤ 50
theorem call_repr {X : Cx} (ng : X.A.guards = some []) (hu : X.A.units + 64 < cLine) : CallR X (.builtin "repr") (fun xs T Q => ∃ v d, xs = [v] ∧ Dp X.K T v d ∧ Shows d ∧ Q (.str d.shown) T) := by
  intro pins s σ T xs us Q J rel got
  obtain ⟨v, d, rfl, hd, sh, q⟩ := got
  obtain ⟨u, rfl, rv⟩ := vals1 rel
  obtain ⟨as, reads⟩ := Dp.reads J d v u hd rv
  refine repr_leaf reads sh.able sh.nodict sh.size ng (by have := sh.deep; omega) fun h' t tk keep => ?_
  exact ⟨.str d.shown, T, J.kept keep, ⟨t, rfl⟩, q⟩
end GB
namespace GB
open PySem PySem.Spec PyProof.Rows L2
/-! the law's own call, where no text is under way -/
section
variable {pr : Program} {wd : World} {fr : PySem.W.Frag} {mod bi : Str → Option Value} {lev : Nat} {law sc : Addr} {fun_ : FuncData} {par : Str} {say : Sp} {s : Shared} {vs : List Value} {ns : List Int}
/-- the heap behind the top, its script tracked as locked (or not at all, where the written part has it) -/
theorem enter_law (frIn : fr.In s.heap) (gl : s.heap.Ns mainGlobals mod) (bn : s.heap.Ns builtinsNs bi) (bv : ∀ y : Str, y ≠ "__name__" → bi y = bootBuiltins y) (nolim : s.heap.NoLimit) (gens : s.gens = #[])
    (obj : s.heap.get? sc = some { cls := .type "list", data := .seq vs.toArray }) (room : Room lev callerA)
    (Z : ∀ bh : Heap, fr.In bh → bh.Ns mainGlobals mod → GOk pr wd fr mod bh CX0 lev law fun_ [par] say) (bnd : ∀ (t : Shared) (u : Value), BindsTo t fun_ ⟨[u], []⟩ [(par, u)])
    (T : Hp) (only : Only T) (ok : HOk pr wd T s.heap) (at_ : ∀ b, T b ≠ none → b = sc ∧ fr.lookup sc = none) (hs : say [.ref sc] T (fun v _ => v = .bl true) E0) :
    codeAny (model pr wd) callerA (.call (.ref law) ⟨[.ref sc], []⟩) (fun r t => r = .ok (.ret (.bool true)) ∧ OldK s.heap t.heap ∧ t.os = s.os ∧ AllBare t.gens) s := by
  have some_of : ∀ {b : Addr} {u : HO}, T b = some u → b = sc ∧ fr.lookup sc = none := fun q => at_ _ (fun z => by rw [z] at q; cases q)
  -- a dict is not the script
  have dicts : ∀ {b : Addr} {m : Str → Option Value}, s.heap.Ns b m → (hidT s.heap T).Ns b m := by
    rintro b m ⟨o, es, n, h1, h2, h3⟩
    refine ⟨o, es, n, hidT_get h1 ?_, h2, h3⟩
    cases q : T b with
    | none => rfl
    | some u =>
      obtain ⟨rfl, _⟩ := some_of q
      rw [obj] at h1
      cases h1
      exact nomatch h2
  have frIn' : fr.In (hidT s.heap T) := by
    intro b o q
    refine hidT_get (frIn b o q) ?_
    cases z : T b with
    | none => rfl
    | some u =>
      obtain ⟨rfl, z2⟩ := some_of z
      rw [z2] at q
      cases q
  obtain ⟨ml, l1, l2⟩ := nolim
  have modOk : Mod fr mod (hidT s.heap T) := { kin := frIn', glob := dicts gl, blt := ⟨bi, dicts bn, bv⟩, nolimit := ⟨ml, dicts l1, l2⟩ }
  have env : Env0 pr wd fr mod (hidT s.heap T) callerA [] s T :=
    { frames := rfl, mod := modOk, bs := fun _ _ q => of_hidT q, bsz := Nat.le_of_eq (hidT_size s.heap T), funs := trivial, frf := fun b hb => (List.not_mem_nil hb).elim, hok := ok, bare := AllBare.of_eq gens }
  have ran := (Z _ frIn' (dicts gl)).go callerA [] s T ⟨[.ref sc], []⟩ [.ref sc] [.ref sc] (fun v _ => v = .bl true) E0 rfl room env (bnd s (.ref sc)) (.cons rfl .nil) hs
  refine codeAny_mono ran fun r t got => ?_
  match r, got with
  | .error _, got => exact False.elim got
  | .ok .next, got => exact False.elim got
  | .ok .brk, got => exact False.elim got
  | .ok .cont, got => exact False.elim got
  | .ok (.ret u), ⟨v, T', os, bare, un, ok', rel, val⟩ =>
    have ev : v = .bl true := val
    subst ev
    have eu : u = Value.bool true := rel
    subst eu
    refine ⟨rfl, OldK.of_keep fun b o q => ?_, os, bare⟩
    rcases only b with z | ⟨ob, xs, z⟩
    · exact un.keep b o q z (fun y => (List.not_mem_nil y).elim) (fun y => (List.not_mem_nil y).elim)
    · have e1 : s.heap.get? b = some ob := (ok b _ z).1
      have e2 : t.heap.get? b = some ob := (ok' b _ (un.frzs b ob _ z)).1
      rw [q] at e1
      rw [e2, ← e1]
theorem law_callG (frIn : fr.In s.heap) (gl : s.heap.Ns mainGlobals mod) (bn : s.heap.Ns builtinsNs bi) (bv : ∀ y : Str, y ≠ "__name__" → bi y = bootBuiltins y) (nolim : s.heap.NoLimit) (gens : s.gens = #[])
    (obj : s.heap.get? sc = some { cls := .type "list", data := .seq vs.toArray }) (hints : IntsAre vs ns) (few : ns.length ≤ sizeLine) (room : Room lev callerA)
    (Z : ∀ bh : Heap, fr.In bh → bh.Ns mainGlobals mod → GOk pr wd fr mod bh CX0 lev law fun_ [par] say) (bnd : ∀ (t : Shared) (u : Value), BindsTo t fun_ ⟨[u], []⟩ [(par, u)])
    (hs : ∀ T : Hp, Only T → SqL fr T sc (ns.map V.int) → say [.ref sc] T (fun v _ => v = .bl true) E0) :
    codeAny (model pr wd) callerA (.call (.ref law) ⟨[.ref sc], []⟩) (fun r t => r = .ok (.ret (.bool true)) ∧ OldK s.heap t.heap ∧ t.os = s.os ∧ AllBare t.gens) s := by
  have vals := vals_ints hints
  cases known : fr.lookup sc with
  | some o =>
    have e := frIn sc o known
    rw [obj] at e
    cases e
    have none_ : ∀ b : Addr, (fun _ => none : Hp) b = none := fun _ => rfl
    refine enter_law frIn gl bn bv nolim gens obj room Z bnd (fun _ => none) (fun b => .inl rfl) (fun b u q => nomatch q) (fun b q => absurd rfl q) (hs _ (fun b => .inl rfl) (.inr ⟨_, vs.toArray, _, known, rfl, rfl, rfl, ?_, ?_⟩))
    · rw [List.size_toArray, hints.length]; exact few
    · simpa using vals
  | none =>
    have here : ∀ b, (fun b => if b = sc then some (HO.frz { cls := .type "list", data := .seq vs.toArray } (.lst (ns.map V.int))) else none : Hp) b = if b = sc then some (HO.frz { cls := .type "list", data := .seq vs.toArray } (.lst (ns.map V.int))) else none := fun _ => rfl
    have only : Only (fun b => if b = sc then some (HO.frz { cls := .type "list", data := .seq vs.toArray } (.lst (ns.map V.int))) else none) := fun b => by
      by_cases e : b = sc
      · exact .inr ⟨_, _, if_pos e⟩
      · exact .inl (if_neg e)
    refine enter_law frIn gl bn bv nolim gens obj room Z bnd _ only (fun b u q => ?_) (fun b q => ?_) (hs _ only (.inl (.inr ⟨_, if_pos rfl⟩)))
    · by_cases e : b = sc
      · subst e
        have q' := (if_pos rfl).symm.trans q
        cases q'
        exact ⟨obj, by rw [List.length_map]; exact few, vs, _, vals, obj⟩
      · exact nomatch (if_neg e).symm.trans q
    · by_cases e : b = sc
      · exact ⟨e, known⟩
      · exact absurd (if_neg e) q
end
/-- the end of a law's proof, as walk_ofK, over a def that shows texts -/
theorem walk_ofG {l : PySem.W.OpenLaw} {n lev : Nat} {q : Program} {loose : List Str} {XP : (Str → Option Value) → Heap → Prop} {YP : World → Heap → Prop} {d : DefRec} {fr : Params → PySem.W.Frag} {say : PySem.W.Frag → Sp} {par : Str}
    (hmost : l.most = some n) (hsmall : n ≤ sizeLine) (hnodef : d.params.defaults = []) (room : Room lev callerA) (hin : ∀ (wd : World) (h : Heap), YP wd h → (fr wd.params).In h)
    (Z : ∀ (wd : World) (mod : Str → Option Value) (fa : Addr) (h : Heap), (fr wd.params).In h → h.Ns mainGlobals mod → mod d.name = some (.ref fa) →
      ∃ fun_ : FuncData, (∀ (t : Shared) (u : Value), BindsTo t fun_ ⟨[u], []⟩ [(par, u)]) ∧ ∀ bh : Heap, (fr wd.params).In bh → bh.Ns mainGlobals mod → GOk l.prog wd (fr wd.params) mod bh CX0 lev fa fun_ [par] (say (fr wd.params)))
    (hs : ∀ (K : PySem.W.Frag) (T : Hp) (a : Addr) (ns : List Int), ns.length ≤ n → (∀ z ∈ ns, Builtin.Int.intBits z ≤ 1048576) → Only T → SqL K T a (ns.map V.int) → say K [.ref a] T (fun v _ => v = .bl true) E0) :
    PySem.W.WalkO q loose XP YP l.row.toRowW d [] (fun f vs => PySem.call f vs) := by
  refine Att.attach_callB hmost hnodef ?_
  intro wd s₀ s mod mb fa o pm cd doc a vs ns G Y _ _ _ hmod hobj hints hlen hbits hgens
  have frIn := hin wd _ Y
  obtain ⟨fun_, bnd, body⟩ := Z wd mod fa _ frIn G.T.g hmod
  exact law_callG frIn G.T.g G.T.b G.T.builtins G.T.nolimit hgens hobj hints (Nat.le_trans hlen hsmall) room body bnd fun T only seq => hs _ T a ns hlen hbits only seq
end GB
namespace GB
open PySem PySem.Spec PyProof.Rows L2
/-! readings, a step at a time -/
section
variable {X : Cx} {K : PySem.W.Frag} {σ : L2.St} {H : Hp} {Q : VK} {D : Ends} {t u : TS} {ta tb te tx : TE} {c d : TT} {v w : V} {i j n m : Int} {k : Nat}
theorem r_var (h : σ[k]? = some (some v)) (q : Q v H) : tVar k σ H Q := ⟨v, h, q⟩
theorem r_c (q : Q v H) : tC v σ H Q := q
theorem r_op {r : R2} (q : ta σ H fun x H1 => tb σ H1 fun y H2 => r x y H2 Q) : tOp r ta tb σ H Q := q
theorem r_I0 {g : Int → Int → V} (q : Q (g i j) H) : rI0 g (.int i) (.int j) H Q := ⟨i, j, rfl, rfl, q⟩
theorem r_I {C : Int → Int → Prop} {g : Int → Int → V} (h : C i j) (q : Q (g i j) H) : rI C g (.int i) (.int j) H Q := ⟨i, j, rfl, rfl, h, q⟩
theorem r_un {r : V → Hp → VK → Prop} (q : ta σ H fun x H1 => r x H1 Q) : tUn r ta σ H Q := q
theorem r_U {g : Int → V} (q : Q (g i) H) : rU g (.int i) H Q := ⟨i, rfl, q⟩
theorem r_eqI (q : Q (.bl (decide (i = j))) H) : rEq (.int i) (.int j) H Q := by
  refine ⟨rfl, ?_⟩
  have e : decide ((V.int i) = (V.int j)) = decide (i = j) := decide_eq_decide.mpr ⟨fun z => V.int.inj z, fun z => by rw [z]⟩
  rw [e]; exact q
theorem r_neI (q : Q (.bl (!decide (i = j))) H) : rNe (.int i) (.int j) H Q := by
  refine ⟨rfl, ?_⟩
  have e : decide ((V.int i) = (V.int j)) = decide (i = j) := decide_eq_decide.mpr ⟨fun z => V.int.inj z, fun z => by rw [z]⟩
  rw [e]; exact q
theorem r_eqS {x y : Str} (q : Q (.bl (decide (x = y))) H) : rEq (.str x) (.str y) H Q := by
  refine ⟨rfl, ?_⟩
  have e : decide ((V.str x) = (V.str y)) = decide (x = y) := decide_eq_decide.mpr ⟨fun z => V.str.inj z, fun z => by rw [z]⟩
  rw [e]; exact q
def Bl (x : V) (H : Hp) (Q : Bool → Hp → Prop) : Prop := ∃ k, x = .bl k ∧ Q k H
theorem r_test {Q : Bool → Hp → Prop} (q : te σ H fun x H' => Bl x H' Q) : tTest te σ H Q := q
theorem r_B {Q : Bool → Hp → Prop} (q : te σ H fun x H' => Bl x H' Q) : tB te σ H Q := q
theorem r_bl {b : Bool} {Q : Bool → Hp → Prop} (q : Q b H) : Bl (.bl b) H Q := ⟨b, rfl, q⟩
theorem r_and {Q : Bool → Hp → Prop} (q : c σ H fun b H1 => if b = true then d σ H1 Q else Q false H1) : tAnd c d σ H Q := q
theorem r_or {Q : Bool → Hp → Prop} (q : c σ H fun b H1 => if b = true then Q true H1 else d σ H1 Q) : tOr c d σ H Q := q
theorem r_not {Q : Bool → Hp → Prop} (q : c σ H fun b H1 => Q (!b) H1) : tNot c σ H Q := q
theorem r_if (q : c σ H fun b H1 => if b = true then ta σ H1 Q else tb σ H1 Q) : tIf c ta tb σ H Q := q
theorem r_ite {p A B : Prop} [Decidable p] (h1 : p → A) (h2 : ¬ p → B) : if decide p = true then A else B := by
  by_cases h : p
  · rw [if_pos (decide_eq_true h)]; exact h1 h
  · rw [if_neg (by rw [decide_eq_false h]; decide)]; exact h2 h
theorem r_iteN {p A B : Prop} [Decidable p] (h1 : p → B) (h2 : ¬ p → A) : if (!decide p) = true then A else B := by
  by_cases h : p
  · rw [if_neg (by rw [decide_eq_true h]; decide)]; exact h1 h
  · rw [if_pos (by rw [decide_eq_false h]; rfl)]; exact h2 h
theorem r_iteB {b : Bool} {A B : Prop} (h1 : b = true → A) (h2 : b = false → B) : if b = true then A else B := by
  cases b with
  | true => exact h1 rfl
  | false => exact h2 rfl
theorem r_nT {A B : Prop} (q : B) : if (!true) = true then A else B := q
theorem r_nF {A B : Prop} (q : A) : if (!false) = true then A else B := q
theorem r_nil {Q : List V → Hp → Prop} (q : Q [] H) : tNil σ H Q := q
theorem r_cons {tr : TA} {Q : List V → Hp → Prop} (q : ta σ H fun x H1 => tr σ H1 fun xs H2 => Q (x :: xs) H2) : tCons ta tr σ H Q := q
theorem r_CB {r : List V → Hp → VK → Prop} {a : TA} (q : a σ H fun vs H1 => r vs H1 Q) : tCB r a σ H Q := q
theorem r_call {sp : Sp} {dvs : List V} {E : XK} {a : TA} (q : a σ H fun vs H1 => sp (vs ++ dvs) H1 Q E) : tCall sp dvs E a σ H Q := q
theorem r_seq (q : t { D with nx := u D } σ H) : tSeq t u D σ H := q
theorem r_asg {g : TG} (q : te σ H fun x H1 => g x σ H1 D.nx) : tAsg te g D σ H := q
theorem r_gname {Q : L2.St → Hp → Prop} (q : Q (σ.set k (some v)) H) : gName k v σ H Q := q
theorem r_ifs {c : TT} (q : c σ H fun b H1 => if b = true then t D σ H1 else u D σ H1) : tIfS c t u D σ H := q
theorem r_ret (q : te σ H D.rt) : tRet te D σ H := q
theorem r_retN (q : D.rt .non H) : tRetN D σ H := q
theorem r_drop (q : te σ H fun _ H1 => D.nx σ H1) : tDrop te D σ H := q
theorem r_next (q : D.nx σ H) : tNext D σ H := q
def Two (vs : List V) (H : Hp) (Q : V → V → Hp → Prop) : Prop := ∃ v w, vs = [v, w] ∧ Q v w H
theorem r_par {a b : Nat} {ta : TA} (q : ta σ H fun vs H1 => Two vs H1 fun v w H2 => D.nx ((σ.set a (some v)).set b (some w)) H2) : tPar a b ta D σ H := q
theorem r_two {Q : V → V → Hp → Prop} (q : Q v w H) : Two [v, w] H Q := ⟨v, w, rfl, q⟩
theorem r_aug {ti : TIp} (h : σ[k]? = some (some v)) (q : te σ H fun y H1 => ti v y H1 fun z H2 => D.nx (σ.set k (some z)) H2) : tAug k te ti D σ H := ⟨v, h, q⟩
theorem r_ipI {f : Int → Int → Int} (q : Q (.int (f i j)) H) : ipI f (.int i) (.int j) H Q := ⟨i, j, rfl, rfl, q⟩
def rInt : List V → Hp → VK → Prop := fun xs H Q => (∃ i, xs = [.int i] ∧ Q (.int i) H) ∨ ∃ k, xs = [.bl k] ∧ Q (.int (if k then 1 else 0)) H
theorem call_intB : CallR X (.type "int") rInt := call_int1
theorem r_int1 (q : Q (.int i) H) : rInt [.int i] H Q := .inl ⟨i, rfl, q⟩
theorem r_intB {b : Bool} (q : Q (.int (if b then 1 else 0)) H) : rInt [.bl b] H Q := .inr ⟨b, rfl, q⟩
def rDGet : R2 := fun x y H Q => ∃ a v, x = .ref a ∧ DGet H a y (some v) ∧ Q v H
def rDPut (x y v : V) (H : Hp) (Q : Hp → Prop) : Prop := ∃ a H4, x = .ref a ∧ DPut H a y v H4 ∧ Q H4
theorem r_dget {td ty : TE} (q : td σ H fun x H1 => ty σ H1 fun y H2 => rDGet x y H2 Q) : tDGet td ty σ H Q := q
theorem r_dput {td ty tv : TE} (q : tv σ H fun v H1 => td σ H1 fun x H2 => ty σ H2 fun y H3 => rDPut x y v H3 fun H4 => D.nx σ H4) : sDPut td ty tv D σ H := q
def rDIn (neg : Bool) : R2 := fun y x H Q => ∃ a o, x = .ref a ∧ DGet H a y o ∧ Q (.bl (if neg then !o.isSome else o.isSome)) H
theorem r_din {td ty : TE} (q : ty σ H fun y H1 => td σ H1 fun x H2 => rDIn false y x H2 Q) : tDIn ty td σ H Q := q
theorem r_dnin {td ty : TE} (q : ty σ H fun y H1 => td σ H1 fun x H2 => rDIn true y x H2 Q) : tDNotIn ty td σ H Q := q
end

/-! great numbers by their bits -/
def Bt (n : Nat) (x : Int) : Prop := x.natAbs < 2 ^ n
theorem Bt.mono {n m : Nat} {x : Int} (h : Bt n x) (l : n ≤ m) : Bt m x := Nat.lt_of_lt_of_le h (Nat.pow_le_pow_right (by decide) l)
theorem Bt.mul {n m : Nat} {x y : Int} (h : Bt n x) (g : Bt m y) : Bt (n + m) (x * y) := by
  unfold Bt at *
  rw [Int.natAbs_mul, Nat.pow_add]
  exact Nat.mul_lt_mul'' h g
theorem Bt.add {n : Nat} {x y : Int} (h : Bt n x) (g : Bt n y) : Bt (n + 1) (x + y) := by
  unfold Bt at *
  have e : 2 ^ (n + 1) = 2 ^ n + 2 ^ n := by rw [Nat.pow_succ]; omega
  omega
theorem Bt.sub {n : Nat} {x y : Int} (h : Bt n x) (g : Bt n y) : Bt (n + 1) (x - y) := by
  unfold Bt at *
  have e : 2 ^ (n + 1) = 2 ^ n + 2 ^ n := by rw [Nat.pow_succ]; omega
  omega
theorem Bt.of {n : Nat} {x : Int} {b : Nat} (h : x.natAbs < b) (l : b ≤ 2 ^ n) : Bt n x := Nat.lt_of_lt_of_le h l
theorem Bt.small {x : Int} (l : -(2 ^ 62) < x) (g : x < 2 ^ 62) : Bt 62 x := by
  unfold Bt
  omega
theorem Bt.le {n : Nat} {x y : Int} (h : Bt n y) (l : x.natAbs ≤ y.natAbs) : Bt n x := Nat.lt_of_le_of_lt l h
theorem Bt.ediv {n : Nat} {x y : Int} (h : Bt n x) (h0 : 0 ≤ x) (hy : 0 ≤ y) : Bt n (x / y) := by
  refine h.le ?_
  have h1 : x / y ≤ x := Int.ediv_le_self _ h0
  have h2 : 0 ≤ x / y := Int.ediv_nonneg h0 hy
  omega
theorem Bt.log {n : Nat} {x : Int} (h : Bt (n + 1) x) : x.natAbs.log2 ≤ n := by
  by_cases e : x.natAbs = 0
  · rw [e]; exact Nat.zero_le _
  · have h1 : 2 ^ x.natAbs.log2 ≤ x.natAbs := Nat.log2_self_le e
    have h2 : 2 ^ x.natAbs.log2 < 2 ^ (n + 1) := Nat.lt_of_le_of_lt h1 h
    exact Nat.le_of_lt_succ ((Nat.pow_lt_pow_iff_right (by decide)).mp h2)
theorem Bt.of_bits {n : Nat} {x : Int} (h : Builtin.Int.intBits x ≤ n) : Bt n x := by
  unfold Bt
  unfold Builtin.Int.intBits at h
  split at h
  · rename_i e
    have e' : x.natAbs = 0 := by
      have := e
      simp at this
      omega
    rw [e']; exact Nat.two_pow_pos n
  · exact Nat.lt_of_lt_of_le Nat.lt_log2_self (Nat.pow_le_pow_right (by decide) h)

/-- * of factors of together at most a hundred million bits -/
def CMulB (i j : Int) : Prop := ∃ n m, Bt (n + 1) i ∧ Bt (m + 1) j ∧ n + m ≤ 100000000
theorem CMulB.ok {i j : Int} (h : CMulB i j) : IntMulOk i j := by
  obtain ⟨n, m, h1, h2, h3⟩ := h
  have b : ∀ x : Int, Builtin.Int.intBits x ≤ x.natAbs.log2 + 1 := fun x => by
    unfold Builtin.Int.intBits
    split <;> omega
  have g1 := b i
  have g2 := b j
  have l1 := h1.log
  have l2 := h2.log
  have e : bitsLine = 134217728 := by decide
  unfold IntMulOk
  intro z
  rw [Bool.and_eq_true] at z
  have z2 := z.2
  unfold Builtin.Int.intTooBig at z2
  have z3 := of_decide_eq_true z2
  rw [e] at z3
  omega
theorem op_mulB {X : Cx} : OpR X (binaryOp .Mult) (rI CMulB fun i j => .int (i * j)) := opI fun _ _ _ _ _ _ _ hc q => mul_int q hc.ok
theorem CPow.small {i j : Int} (h0 : 0 ≤ j) (h1 : j ≤ 1000000) (h2 : -(2 ^ 62) < i) (h3 : i < 2 ^ 62) : CPow i j := ⟨h0, h1, by omega⟩
theorem CDivW.of {n : Nat} {i j : Int} (h : 0 < j) (hb : Bt (n + 1) j) (l : n < 9000) : CDivW i j := ⟨h, Nat.lt_of_le_of_lt hb.log l⟩
theorem CDivW.small {i j : Int} (h : 0 < j) (h2 : j < 2 ^ 62) : CDivW i j := CDivW.of (n := 61) h (Bt.small (by omega) h2) (by decide)
theorem CMulB.small {i j : Int} (h1 : -(2 ^ 62) < i) (h2 : i < 2 ^ 62) (h3 : -(2 ^ 62) < j) (h4 : j < 2 ^ 62) : CMulB i j := ⟨61, 61, Bt.small h1 h2, Bt.small h3 h4, by decide⟩
end GB
namespace GB
open PySem PySem.Spec PyProof.Rows L2
section
variable {X : Cx} {K : PySem.W.Frag} {σ : L2.St} {H : Hp} {Q : VK} {D : Ends} {t u body : TS} {ta : TA} {tb te tx tl : TE} {c d : TT} {v w : V} {i j n m : Int} {k : Nat}
def rMaxB : List V → Hp → VK → Prop := fun xs H Q => ∃ i j, xs = [.int i, .int j] ∧ Q (.int (if j > i then j else i)) H
def rMinB : List V → Hp → VK → Prop := fun xs H Q => ∃ i j, xs = [.int i, .int j] ∧ Q (.int (if j < i then j else i)) H
def rAbsB : List V → Hp → VK → Prop := fun xs H Q => ∃ i, xs = [.int i] ∧ Q (.int (if i < 0 then -i else i)) H
def rLenB (K : PySem.W.Frag) : List V → Hp → VK → Prop := fun xs H Q => ∃ p ys, xs = [.ref p] ∧ (SqL K H p ys ∨ SqT K H p ys) ∧ Q (.int ys.length) H
theorem call_maxB (hc : X.calm = true) : CallR X (.builtin "max") rMaxB := call_max2 hc
theorem call_minB (hc : X.calm = true) : CallR X (.builtin "min") rMinB := call_min2 hc
theorem call_absB : CallR X (.builtin "abs") rAbsB := call_abs
theorem call_lenB : CallR X (.builtin "len") (rLenB X.K) := call_len_seq
theorem r_max (q : Q (.int (max i j)) H) : rMaxB [.int i, .int j] H Q := by
  refine ⟨i, j, rfl, ?_⟩
  have e : (if j > i then j else i) = max i j := by
    rw [Int.max_def]
    split <;> split <;> omega
  rw [e]; exact q
theorem r_min (q : Q (.int (min i j)) H) : rMinB [.int i, .int j] H Q := by
  refine ⟨i, j, rfl, ?_⟩
  have e : (if j < i then j else i) = min i j := by
    rw [Int.min_def]
    split <;> split <;> omega
  rw [e]; exact q
theorem r_abs (q : Q (.int (i.natAbs : Int)) H) : rAbsB [.int i] H Q := by
  refine ⟨i, rfl, ?_⟩
  have e : (if i < 0 then -i else i) = (i.natAbs : Int) := by
    split <;> omega
  rw [e]; exact q
theorem r_lenL {a : Addr} {ys : List V} (h : SqL K H a ys) (q : Q (.int ys.length) H) : rLenB K [.ref a] H Q := ⟨a, ys, rfl, .inl h, q⟩
theorem r_lenT {a : Addr} {ys : List V} (h : SqT K H a ys) (q : Q (.int ys.length) H) : rLenB K [.ref a] H Q := ⟨a, ys, rfl, .inr h, q⟩
theorem r_ixL {a : Addr} {ys : List V} (h : SqL K H a ys) (g : atI ys i = some v) (q : Q v H) : rIxL K (.ref a) (.int i) H Q := ⟨a, ys, i, v, rfl, rfl, h, g, q⟩
theorem r_ixT {a : Addr} {ys : List V} (h : SqT K H a ys) (g : atI ys i = some v) (q : Q v H) : rIxT K (.ref a) (.int i) H Q := ⟨a, ys, i, v, rfl, rfl, h, g, q⟩
/-- what a loop asks -/
def FL (J : It) (g : TG) (body : TS) (D : Ends) (σ : L2.St) (H : Hp) : Prop := ∃ W : Nat → Nat → L2.St → Hp → Prop, (∃ m, W 0 m σ H) ∧ ∀ i m σ H, W i m σ H →
  (J.stop i H ∧ D.nx σ H) ∨ (J.go i H ∧ ∃ N : L2.St → Hp → Prop, (∀ σ' H', N σ' H' → ∃ m', m' < m ∧ W (i + 1) m' σ' H') ∧
    ∀ x H', J.yld i H x H' → g x σ H' fun σ2 H2 => body { D with nx := N, ct := N, bk := D.nx } σ2 H2)
theorem r_for {wi : TI} {g : TG} (q : wi σ H fun J H1 => FL J g body D σ H1) : tFor wi g body D σ H := q
def rRng1 (vs : List V) (H : Hp) (R : It → Hp → Prop) : Prop := ∃ j : Int, vs = [.int j] ∧ -(2 ^ 62) ≤ j ∧ j < 2 ^ 62 ∧ R (Itr 0 j.toNat) H
def rRng2 (vs : List V) (H : Hp) (R : It → Hp → Prop) : Prop := ∃ i j : Int, vs = [.int i, .int j] ∧ (-(2 ^ 62) ≤ i ∧ i < 2 ^ 62 ∧ -(2 ^ 62) ≤ j ∧ j < 2 ^ 62) ∧ R (Itr i (j - i).toNat) H
def rIl (K : PySem.W.Frag) (x : V) (H : Hp) (R : It → Hp → Prop) : Prop := ∃ a, x = .ref a ∧ (∃ xs, SqL K H a xs) ∧ R (Itl K a) H
def rIt (K : PySem.W.Frag) (x : V) (H : Hp) (R : It → Hp → Prop) : Prop := ∃ a, x = .ref a ∧ (∃ xs, SqT K H a xs) ∧ R (Itt K a) H
theorem r_rng1 {R : It → Hp → Prop} (q : ta σ H fun vs H1 => rRng1 vs H1 R) : iRng1 ta σ H R := q
theorem r_rng2 {R : It → Hp → Prop} (q : ta σ H fun vs H1 => rRng2 vs H1 R) : iRng2 ta σ H R := q
theorem r_il {R : It → Hp → Prop} (q : tl σ H fun x H1 => rIl K x H1 R) : iList K tl σ H R := q
theorem r_it {R : It → Hp → Prop} (q : tl σ H fun x H1 => rIt K x H1 R) : iTup K tl σ H R := q
theorem r_rngN {R : It → Hp → Prop} (h1 : -(2 ^ 62) ≤ n) (h2 : n < 2 ^ 62) (q : R (Itr 0 n.toNat) H) : rRng1 [V.int n] H R := ⟨n, rfl, h1, h2, q⟩
theorem r_rngM {R : It → Hp → Prop} (h1 : -(2 ^ 62) ≤ m) (h2 : m < 2 ^ 62) (h3 : -(2 ^ 62) ≤ n) (h4 : n < 2 ^ 62) (q : R (Itr m (n - m).toNat) H) : rRng2 [V.int m, V.int n] H R := ⟨m, n, rfl, ⟨h1, h2, h3, h4⟩, q⟩
theorem r_ill {R : It → Hp → Prop} {a : Addr} {xs : List V} (h : SqL K H a xs) (q : R (Itl K a) H) : rIl K (.ref a) H R := ⟨a, rfl, ⟨_, h⟩, q⟩
theorem r_itt {R : It → Hp → Prop} {a : Addr} {xs : List V} (h : SqT K H a xs) (q : R (Itt K a) H) : rIt K (.ref a) H R := ⟨a, rfl, ⟨_, h⟩, q⟩
theorem fl_range {lo : Int} {n : Nat} {g : TG} (Pv : Nat → L2.St → Hp → Prop) (h0 : Pv 0 σ H)
    (hs : ∀ (i : Nat) σ H, i < n → Pv i σ H → g (.int (lo + (i : Int))) σ H fun σ2 H2 => body { D with nx := Pv (i + 1), ct := Pv (i + 1), bk := D.nx } σ2 H2) (hd : ∀ σ H, Pv n σ H → D.nx σ H) : FL (Itr lo n) g body D σ H := for_range Pv h0 hs hd
theorem fl_list {a : Addr} {xs : List V} {g : TG} (Pv : Nat → L2.St → Hp → Prop) (h0 : Pv 0 σ H) (hl : ∀ i σ H, i ≤ xs.length → Pv i σ H → SqL K H a xs)
    (hs : ∀ i x σ H, xs[i]? = some x → Pv i σ H → g x σ H fun σ2 H2 => body { D with nx := Pv (i + 1), ct := Pv (i + 1), bk := D.nx } σ2 H2) (hd : ∀ σ H, Pv xs.length σ H → D.nx σ H) : FL (Itl K a) g body D σ H := for_list Pv h0 hl hs hd
theorem fl_tup {a : Addr} {xs : List V} {g : TG} (Pv : Nat → L2.St → Hp → Prop) (h0 : Pv 0 σ H) (hl : ∀ i σ H, i ≤ xs.length → Pv i σ H → SqT K H a xs)
    (hs : ∀ i x σ H, xs[i]? = some x → Pv i σ H → g x σ H fun σ2 H2 => body { D with nx := Pv (i + 1), ct := Pv (i + 1), bk := D.nx } σ2 H2) (hd : ∀ σ H, Pv xs.length σ H → D.nx σ H) : FL (Itt K a) g body D σ H := for_tup Pv h0 hl hs hd
/-- what a comprehension asks, its new list at L -/
def CL (J : It) (g : TG) (tt : TT) (te : TE) (vs : List Nat) (L : Addr) (σ : L2.St) (Qd : Hp → Prop) (H1 : Hp) : Prop := ∃ W : Nat → Nat → Hp → Prop, (∃ m, W 0 m (upd H1 L (.lst []))) ∧ ∀ i m H, W i m H →
  (J.stop i H ∧ Qd H) ∨ (J.go i H ∧ ∃ Nx : Hp → Prop, (∀ H', Nx H' → ∃ m', m' < m ∧ W (i + 1) m' H') ∧ ∀ x H', J.yld i H x H' → g x (wipe σ vs) H' fun σ2 H2 => wipe σ2 vs = wipe σ vs ∧ tt σ2 H2 fun b H3 =>
    if b = true then te σ2 H3 fun y H4 => ∃ acc, H4 L = some (.lst acc) ∧ acc.length < sizeLine ∧ Nx (upd H4 L (.lst (acc ++ [y]))) else Nx H3)
theorem r_lc {wi : TI} {g : TG} {tt : TT} {vs : List Nat} (q : wi σ H fun J H1 => ∀ L, H1 L = none → CL J g tt te vs L σ (fun H' => Q (.ref L) H') H1) : tLc wi g tt te vs σ H Q := q
theorem r_yes {Q : Bool → Hp → Prop} (q : Q true H) : tYes σ H Q := q
theorem cl_list {a L : Addr} {xs : List V} {g : TG} {tt : TT} {vs : List Nat} {Qd : Hp → Prop} (Pv : Nat → Hp → Prop) (h0 : Pv 0 (upd H L (.lst []))) (hl : ∀ i H, i ≤ xs.length → Pv i H → SqL K H a xs)
    (hs : ∀ i x H, xs[i]? = some x → Pv i H → g x (wipe σ vs) H fun σ2 H2 => wipe σ2 vs = wipe σ vs ∧ tt σ2 H2 fun b H3 => if b = true then te σ2 H3 fun y H4 => ∃ acc, H4 L = some (.lst acc) ∧ acc.length < sizeLine ∧ Pv (i + 1) (upd H4 L (.lst (acc ++ [y]))) else Pv (i + 1) H3)
    (hd : ∀ H, Pv xs.length H → Qd H) : CL (Itl K a) g tt te vs L σ Qd H := lc_list Pv h0 hl hs hd
theorem cl_range {lo : Int} {n : Nat} {L : Addr} {g : TG} {tt : TT} {vs : List Nat} {Qd : Hp → Prop} (Pv : Nat → Hp → Prop) (h0 : Pv 0 (upd H L (.lst [])))
    (hs : ∀ (i : Nat) H, i < n → Pv i H → g (.int (lo + (i : Int))) (wipe σ vs) H fun σ2 H2 => wipe σ2 vs = wipe σ vs ∧ tt σ2 H2 fun b H3 => if b = true then te σ2 H3 fun y H4 => ∃ acc, H4 L = some (.lst acc) ∧ acc.length < sizeLine ∧ Pv (i + 1) (upd H4 L (.lst (acc ++ [y]))) else Pv (i + 1) H3)
    (hd : ∀ H, Pv n H → Qd H) : CL (Itr lo n) g tt te vs L σ Qd H := lc_range Pv h0 hs hd
/-- a call's reading, its arguments' values told -/
theorem r_app {sp : Sp} {vs ws : List V} {E : XK} (e : vs = ws) (q : sp ws H Q E) : sp vs H Q E := e ▸ q
theorem r_sl {r : V → Option Int → Option Int → Hp → VK → Prop} {to tu : TO} (q : te σ H fun x H1 => to σ H1 fun l H2 => tu σ H2 fun u H3 => r x l u H3 Q) : tSl r te to tu σ H Q := q
theorem r_no {Q : Option Int → Hp → Prop} (q : Q none H) : tNoPart σ H Q := q
def rPart (x : V) (H : Hp) (Q : Option Int → Hp → Prop) : Prop := ∃ i, x = .int i ∧ Q (some i) H
theorem r_part {Q : Option Int → Hp → Prop} (q : te σ H fun x H1 => rPart x H1 Q) : tPart te σ H Q := q
theorem r_int {Q : Option Int → Hp → Prop} (q : Q (some i) H) : rPart (.int i) H Q := ⟨i, rfl, q⟩
theorem r_slL {a : Addr} {xs : List V} {lo hi : Option Int} (h : SqL K H a xs) (q : ∀ p, H p = none → Q (.ref p) (upd H p (.lst (cutV xs lo hi)))) : rSlL K (.ref a) lo hi H Q := ⟨a, xs, rfl, h, q⟩
theorem r_cat {a b : Addr} {xs ys : List V} (h : H a = some (.lst xs)) (h2 : H b = some (.lst ys)) (l : xs.length + ys.length ≤ sizeLine) (q : ∀ p, H p = none → Q (.ref p) (upd H p (.lst (xs ++ ys)))) : rCat (.ref a) (.ref b) H Q := ⟨a, b, xs, ys, rfl, rfl, h, h2, l, q⟩
end

/-! a law's drawn numbers -/
def Mk (l sd : Int) (c : Addr) (sp : Int) : List (Key × V) := [(.inr "left", .int l), (.inr "seed", .int sd), (.inr "cells", .ref c), (.inr "spot", .int sp)]
/-- all but p as it was -/
def Kp (p : Addr) (H H' : Hp) : Prop := ∀ a o, a ≠ p → H a = some o → H' a = some o
theorem Kp.refl (p : Addr) (H : Hp) : Kp p H H := fun _ _ _ h => h
theorem Kp.trans {p : Addr} {H H1 H2 : Hp} (a : Kp p H H1) (b : Kp p H1 H2) : Kp p H H2 := fun x o n h => b x o n (a x o n h)
theorem Kp.of {p : Addr} {H H' : Hp} (h : Same H H') : Kp p H H' := fun x o _ e => h x o e
theorem Kp.put {p : Addr} {H : Hp} {o : HO} : Kp p H (upd H p o) := fun x u n h => by rw [upd_ne n]; exact h
structure DrawsAt (K : PySem.W.Frag) (p : Addr) (n : Nat) (H : Hp) (c : Addr) (l sd sp : Int) (ns : List Int) : Prop where
  at_ : H p = some (.dK (Mk l sd c sp))
  cells : SqL K H c (ns.map V.int)
  some_ : ns ≠ []
  few : ns.length ≤ 200
  bits : ∀ x ∈ ns, Bt 1048577 x
  l0 : 0 ≤ l
  lb : Bt 1048577 l
  s0 : 0 ≤ sd
  s1 : sd < 2147483647
  p0 : 0 ≤ sp
  p1 : sp ≤ n
def Draws (K : PySem.W.Frag) (p : Addr) (n : Nat) (H : Hp) : Prop := ∃ c l sd sp ns, DrawsAt K p n H c l sd sp ns
theorem Draws.at_ {K : PySem.W.Frag} {p : Addr} {n : Nat} {H : Hp} (h : Draws K p n H) : ∃ kvs, H p = some (.dK kvs) := let ⟨_, _, _, _, _, d⟩ := h; ⟨_, d.at_⟩
theorem Draws.mono {K : PySem.W.Frag} {p : Addr} {n m : Nat} {H : Hp} (h : Draws K p n H) (l : n ≤ m) : Draws K p m H := by
  obtain ⟨c, l', sd, sp, ns, d⟩ := h
  exact ⟨c, l', sd, sp, ns, { d with p1 := by have := d.p1; omega }⟩
theorem SqL.same {K : PySem.W.Frag} {H H' : Hp} {a : Addr} {xs : List V} (e : ∀ o, H a = some o → H' a = some o) (h : SqL K H a xs) : SqL K H' a xs := by
  rcases h with (h | ⟨o, h⟩) | h
  · exact .inl (.inl (e _ h))
  · exact .inl (.inr ⟨o, e _ h⟩)
  · exact .inr h
theorem SqT.same {K : PySem.W.Frag} {H H' : Hp} {a : Addr} {xs : List V} (e : ∀ o, H a = some o → H' a = some o) (h : SqT K H a xs) : SqT K H' a xs := by
  rcases h with (h | ⟨o, h⟩) | h
  · exact .inl (.inl (e _ h))
  · exact .inl (.inr ⟨o, e _ h⟩)
  · exact .inr h
/-- a list stays where only p, another kind of thing, may change -/
theorem SqL.kp {K : PySem.W.Frag} {H H' : Hp} {p a : Addr} {xs : List V} {kvs : List (Key × V)} (hp : H p = some (.dK kvs)) (k : Kp p H H') (h : SqL K H a xs) : SqL K H' a xs := by
  rcases h with (h | ⟨o, h⟩) | h
  · exact .inl (.inl (k _ _ (ne_of h hp (fun z => by cases z)) h))
  · exact .inl (.inr ⟨o, k _ _ (ne_of h hp (fun z => by cases z)) h⟩)
  · exact .inr h
theorem SqT.kp {K : PySem.W.Frag} {H H' : Hp} {p a : Addr} {xs : List V} {kvs : List (Key × V)} (hp : H p = some (.dK kvs)) (k : Kp p H H') (h : SqT K H a xs) : SqT K H' a xs := by
  rcases h with (h | ⟨o, h⟩) | h
  · exact .inl (.inl (k _ _ (ne_of h hp (fun z => by cases z)) h))
  · exact .inl (.inr ⟨o, k _ _ (ne_of h hp (fun z => by cases z)) h⟩)
  · exact .inr h
theorem Draws.same {K : PySem.W.Frag} {p : Addr} {n : Nat} {H H' : Hp} (h : Draws K p n H) (k : Same H H') : Draws K p n H' := by
  obtain ⟨c, l', sd, sp, ns, d⟩ := h
  exact ⟨c, l', sd, sp, ns, { d with at_ := k _ _ d.at_, cells := k.seq d.cells }⟩
theorem same_new {H : Hp} {p : Addr} {o : HO} (h : H p = none) : Same H (upd H p o) := fun b x e => by
  rw [upd_ne (ne_of_none e h)]
  exact e
/-- an object that H does not know may change -/
theorem same_mut {H H' : Hp} {p : Addr} {o : HO} (e : Same H H') (h : H p = none) : Same H (upd H' p o) := fun a u ha => by
  rw [upd_ne (ne_of_none ha h)]
  exact e a u ha
section
variable {H : Hp} {p c : Addr} {l sd sp l' : Int} {Q : VK}
theorem g_left (h : H p = some (.dK (Mk l sd c sp))) (q : Q (.int l) H) : rDGet (.ref p) (.str "left") H Q := ⟨p, .int l, rfl, DGet.k (k := Sum.inr "left") h, q⟩
theorem g_seed (h : H p = some (.dK (Mk l sd c sp))) (q : Q (.int sd) H) : rDGet (.ref p) (.str "seed") H Q := ⟨p, .int sd, rfl, DGet.k (k := Sum.inr "seed") h, q⟩
theorem g_cells (h : H p = some (.dK (Mk l sd c sp))) (q : Q (.ref c) H) : rDGet (.ref p) (.str "cells") H Q := ⟨p, .ref c, rfl, DGet.k (k := Sum.inr "cells") h, q⟩
theorem g_spot (h : H p = some (.dK (Mk l sd c sp))) (q : Q (.int sp) H) : rDGet (.ref p) (.str "spot") H Q := ⟨p, .int sp, rfl, DGet.k (k := Sum.inr "spot") h, q⟩
theorem p_left {R : Hp → Prop} (h : H p = some (.dK (Mk l sd c sp))) (q : R (upd H p (.dK (Mk l' sd c sp)))) : rDPut (.ref p) (.str "left") (.int l') H R := ⟨p, _, rfl, DPut.k (k := Sum.inr "left") h (by show 4 < sizeLine; decide), q⟩
theorem p_spot {R : Hp → Prop} (h : H p = some (.dK (Mk l sd c sp))) (q : R (upd H p (.dK (Mk l sd c l')))) : rDPut (.ref p) (.str "spot") (.int l') H R := ⟨p, _, rfl, DPut.k (k := Sum.inr "spot") h (by show 4 < sizeLine; decide), q⟩
end
/-- the promises of a law's own drawing -/
def spDraw (K : PySem.W.Frag) : Sp := fun vs H Q _ => ∃ (p : Addr) (b : Int) (n : Nat), vs = [.ref p, .int b] ∧ Draws K p n H ∧ n ≤ 1000000000000 ∧ 0 < b ∧ Bt 8999 b ∧
  ∀ v H', 0 ≤ v → v < b → Kp p H H' → Draws K p (n + 1) H' → Q (.int v) H'
def spOf (K : PySem.W.Frag) : Sp := fun vs H Q _ => ∃ (p a : Addr) (n : Nat) (xs : List V), vs = [.ref p, .ref a] ∧ Draws K p n H ∧ n ≤ 1000000000000 ∧ SqL K H a xs ∧ xs ≠ [] ∧ xs.length ≤ sizeLine ∧
  ∀ (i : Nat) (v : V) H', xs[i]? = some v → Kp p H H' → Draws K p (n + 1) H' → Q v H'
def spBegun (K : PySem.W.Frag) : Sp := fun vs H Q _ => ∃ (a : Addr) (k : Int) (ns : List Int), vs = [.ref a, .int k] ∧ SqL K H a (ns.map V.int) ∧ ns.length ≤ 63 ∧ (∀ x ∈ ns, Bt 1048576 x) ∧ 0 ≤ k ∧ k ≤ 1000000 ∧
  ∀ p H', H p = none → Same H H' → Draws K p 0 H' → Q (.ref p) H'
def spLike (K : PySem.W.Frag) : Sp := fun vs H Q _ => ∃ v w d, vs = [v, w] ∧ Dp K H v d ∧ Dp K H w d ∧ Shows d ∧ Q (.bl true) H
end GB
namespace GB
open PySem PySem.Spec PyProof.Rows L2
/-! data whose texts and comparisons lie in the model's bounds: ints below 2 ^ b, nests of so many levels, so many entries -/
structure Fine (b dep bulk : Nat) (d : PyData) : Prop where
  lay : d.canLay0 = true
  able : d.showable = true
  short : d.leavesShort (b + 8) = true
  deep : d.depth ≤ dep
  size : d.bulk ≤ bulk
structure FineAll (b dep bulk : Nat) (ds : List PyData) : Prop where
  lay : PyData.canLayAll0 ds = true
  able : PyData.showableAll ds = true
  short : PyData.leavesShortAll (b + 8) ds = true
  deep : PyData.depthAll ds ≤ dep
  size : PyData.bulkAll ds ≤ bulk
theorem Fine.mono {b n m n' m' : Nat} {d : PyData} (h : Fine b n m d) (l1 : n ≤ n') (l2 : m ≤ m') : Fine b n' m' d := { h with deep := Nat.le_trans h.deep l1, size := Nat.le_trans h.size l2 }
theorem Fine.int {b : Nat} {i : Int} (h : Bt b i) (l : b ≤ 1900) : Fine b 0 0 (.int i) := by
  refine ⟨by simp only [PyData.canLay0], ?_, ?_, by simp only [PyData.depth]; exact Nat.le_refl _, by simp only [PyData.bulk]; exact Nat.le_refl _⟩
  · have h2 := (h.mono (show b ≤ 1918 + 1 by omega)).log
    simp only [PyData.showable, decide_eq_true_eq]
    omega
  · simp only [PyData.leavesShort, decide_eq_true_eq]
    have h2 := (h.mono (show b ≤ b + 1 by omega)).log
    have h3 := int_text_length_le (a := i) (k := b + 1) (by omega) (by omega)
    have e : (PyData.shown (.int i)).length = (toString i).length := by
      show (Str.ofString (toString i)).length = _
      rw [PySem.ofString_length]
    omega
theorem Fine.bool {b : Nat} (c : Bool) : Fine b 0 0 (.bool c) := by
  refine ⟨?_, ?_, ?_, ?_, ?_⟩
  · simp only [PyData.canLay0]
  · simp only [PyData.showable]
  · simp only [PyData.leavesShort]
  · simp only [PyData.depth]; exact Nat.le_refl _
  · simp only [PyData.bulk]; exact Nat.le_refl _
theorem Fine.none {b : Nat} : Fine b 0 0 .none := by
  refine ⟨?_, ?_, ?_, ?_, ?_⟩
  · simp only [PyData.canLay0]
  · simp only [PyData.showable]
  · simp only [PyData.leavesShort]
  · simp only [PyData.depth]; exact Nat.le_refl _
  · simp only [PyData.bulk]; exact Nat.le_refl _
theorem FineAll.nil {b dep : Nat} : FineAll b dep 0 [] := by
  refine ⟨?_, ?_, ?_, ?_, ?_⟩
  · simp only [PyData.canLayAll0]
  · simp only [PyData.showableAll]
  · simp only [PyData.leavesShortAll]
  · simp only [PyData.depthAll]; exact Nat.zero_le _
  · simp only [PyData.bulkAll]; exact Nat.le_refl _
theorem FineAll.cons {b dep n m : Nat} {d : PyData} {ds : List PyData} (h : Fine b dep n d) (g : FineAll b dep m ds) : FineAll b dep (n + 1 + m) (d :: ds) := by
  refine ⟨?_, ?_, ?_, ?_, ?_⟩
  · simp only [PyData.canLayAll0, h.lay, g.lay]; rfl
  · simp only [PyData.showableAll, h.able, g.able]; rfl
  · simp only [PyData.leavesShortAll, h.short, g.short]; rfl
  · simp only [PyData.depthAll]
    have h1 := h.deep
    have h2 := g.deep
    omega
  · simp only [PyData.bulkAll]
    have h1 := h.size
    have h2 := g.size
    omega
theorem FineAll.of {b dep n : Nat} : ∀ {ds : List PyData}, (∀ d ∈ ds, Fine b dep n d) → FineAll b dep (ds.length * (n + 1)) ds
  | [], _ => by
    have h : FineAll b dep 0 [] := .nil
    simpa using h
  | d :: ds, h => by
    have h1 := FineAll.cons (h d List.mem_cons_self) (FineAll.of fun x hx => h x (List.mem_cons_of_mem _ hx))
    refine { h1 with size := Nat.le_trans h1.size ?_ }
    rw [List.length_cons, Nat.add_mul]
    omega
theorem FineAll.mono {b n m n' m' : Nat} {ds : List PyData} (h : FineAll b n m ds) (l1 : n ≤ n') (l2 : m ≤ m') : FineAll b n' m' ds := { h with deep := Nat.le_trans h.deep l1, size := Nat.le_trans h.size l2 }
theorem FineAll.list {b dep n : Nat} {ds : List PyData} (h : FineAll b dep n ds) : Fine b (dep + 1) n (.list ds) := by
  refine ⟨?_, ?_, ?_, ?_, ?_⟩
  · simp only [PyData.canLay0]; exact h.lay
  · simp only [PyData.showable]; exact h.able
  · simp only [PyData.leavesShort]; exact h.short
  · simp only [PyData.depth]; exact Nat.succ_le_succ h.deep
  · simp only [PyData.bulk]; exact h.size
theorem FineAll.tuple {b dep n : Nat} {ds : List PyData} (h : FineAll b dep n ds) : Fine b (dep + 1) n (.tuple ds) := by
  refine ⟨?_, ?_, ?_, ?_, ?_⟩
  · simp only [PyData.canLay0]; exact h.lay
  · simp only [PyData.showable]; exact h.able
  · simp only [PyData.leavesShort]; exact h.short
  · simp only [PyData.depth]; exact Nat.succ_le_succ h.deep
  · simp only [PyData.bulk]; exact h.size
theorem FineAll.ints {b : Nat} {ns : List Int} (h : ∀ x ∈ ns, Bt b x) (l : b ≤ 1900) : FineAll b 0 ns.length (ns.map PyData.int) := by
  have h1 : FineAll b 0 ((ns.map PyData.int).length * (0 + 1)) (ns.map PyData.int) := FineAll.of fun d hd => by
    obtain ⟨x, hx, rfl⟩ := List.mem_map.mp hd
    exact Fine.int (h x hx) l
  simpa using h1
theorem Fine.cons' {b dep n m : Nat} {d : PyData} {ds : List PyData} (h : Fine b dep n d) (g : FineAll b dep m ds) : FineAll b dep (n + 1 + m) (d :: ds) := FineAll.cons h g
theorem Fine.one {b dep n : Nat} {d : PyData} (h : Fine b dep n d) : FineAll b dep (n + 1 + 0) [d] := .cons h .nil
theorem Fine.two {b dep n m : Nat} {d e : PyData} (h : Fine b dep n d) (g : Fine b dep m e) : FineAll b dep (n + 1 + (m + 1 + 0)) [d, e] := .cons h g.one
theorem Fine.shaped {b n m : Nat} {d : PyData} (h : Fine b n m d) (l : n ≤ 60) : SeqAt.shaped d = true := by
  unfold SeqAt.shaped
  rw [h.lay, decide_eq_true (show d.depth ≤ 64 by have := h.deep; omega)]
  rfl
theorem Fine.shows {b n m : Nat} {d : PyData} (h : Fine b n m d) (l : n ≤ 50) (z : (b + 10) * m + b ≤ 16777200) : Shows d := by
  refine ⟨h.able, PyData.hasDict_of_canLay d h.lay, ?_, Nat.le_trans h.deep l⟩
  have h1 := PyData.shown_le_bulk (b + 8) (by omega) d h.short
  have h2 : (b + 8 + 2) * d.bulk ≤ (b + 10) * m := Nat.mul_le_mul_left _ h.size
  have e : sizeLine = 16777216 := by decide
  omega
theorem eqvAll_self {ds : List PyData} (h : PyData.canLayAll0 ds = true) : PyData.eqvAll ds ds = true := SeqAt.eqvAll_refl ds h
theorem Fine.eqv {b n m : Nat} {d : PyData} (h : Fine b n m d) : PyData.eqv d d = true := SeqAt.eqv_refl d h.lay

theorem vs1 {a b : Int} (h : a = b) : [V.int a] ++ [] = [V.int b] := by rw [h]; rfl
theorem vs2 {a b c d : Int} (h : a = c) (g : b = d) : [V.int a, V.int b] ++ [] = [V.int c, V.int d] := by rw [h, g]; rfl
theorem vs3 {x : V} {a b c d : Int} (h : a = c) (g : b = d) : [x, V.int a, V.int b] ++ [] = [x, V.int c, V.int d] := by rw [h, g]; rfl
section
variable {K : PySem.W.Frag} {σ : L2.St} {H : Hp} {Q' : L2.St → Hp → Prop} {a : Addr} {xs : List V} {n : Nat} {v : V} {t : TG} {ts : TGs} {Q : VK} {ta : TA}
theorem sqt_of {p : Addr} (h : H p = some (.tup xs)) : SqT K H p xs := .inl (.inl h)
theorem sql_of {p : Addr} (h : H p = some (.lst xs)) : SqL K H p xs := .inl (.inl h)
theorem r_gtup (h : SqT K H a xs) (l : xs.length = n) (q : ts xs σ H Q') : gTup K n ts (.ref a) σ H Q' := ⟨a, xs, rfl, h, l, q⟩
theorem r_gcons (q : t v σ H fun σ' H' => ts xs σ' H' Q') : gCons t ts (v :: xs) σ H Q' := ⟨v, xs, rfl, q⟩
theorem r_gnil (q : Q' σ H) : gNil [] σ H Q' := ⟨rfl, q⟩
def mkTup (xs : List V) (H : Hp) (Q : VK) : Prop := xs.length ≤ sizeLine ∧ ∀ p, H p = none → Q (.ref p) (upd H p (.tup xs))
def mkLst (xs : List V) (H : Hp) (Q : VK) : Prop := xs.length ≤ sizeLine ∧ ∀ p, H p = none → Q (.ref p) (upd H p (.lst xs))
theorem r_tup (q : ta σ H fun xs H1 => mkTup xs H1 Q) : tTup ta σ H Q := q
theorem r_lst (q : ta σ H fun xs H1 => mkLst xs H1 Q) : tLst ta σ H Q := q
theorem r_mkT (l : xs.length ≤ sizeLine) (q : ∀ p, H p = none → Q (.ref p) (upd H p (.tup xs))) : mkTup xs H Q := ⟨l, q⟩
theorem r_mkL (l : xs.length ≤ sizeLine) (q : ∀ p, H p = none → Q (.ref p) (upd H p (.lst xs))) : mkLst xs H Q := ⟨l, q⟩
theorem r_newT (l : xs.length ≤ sizeLine) (q : ∀ p H', Same H H' → H p = none → H' p = some (.tup xs) → Q (.ref p) H') : mkTup xs H Q :=
  ⟨l, fun p np => q p _ (same_new np) np upd_same⟩
theorem r_newL (l : xs.length ≤ sizeLine) (q : ∀ p H', Same H H' → H p = none → H' p = some (.lst xs) → Q (.ref p) H') : mkLst xs H Q :=
  ⟨l, fun p np => q p _ (same_new np) np upd_same⟩
theorem few_le {xs : List V} (h : Nat.ble xs.length 16777216 = true) : xs.length ≤ sizeLine := by
  have e : sizeLine = 16777216 := by decide
  rw [e]
  exact Nat.le_of_ble_eq_true h
end
/-! data at addresses -/
section
variable {K : PySem.W.Frag} {H H' : Hp}
theorem dp_ints {ns : List Int} : DpAll K H (ns.map V.int) (ns.map PyData.int) := by
  induction ns with
  | nil => exact .nil
  | cons n r ih => exact .cons (.int n) ih
theorem Dp.ints {a : Addr} {ns : List Int} (h : SqL K H a (ns.map V.int)) : Dp K H (.ref a) (.list (ns.map PyData.int)) := .lst h dp_ints
theorem Dp.intsT {a : Addr} {ns : List Int} (h : SqT K H a (ns.map V.int)) : Dp K H (.ref a) (.tuple (ns.map PyData.int)) := .tup h dp_ints
mutual
theorem Dp.same (k : Same H H') : ∀ {v : V} {d : PyData}, Dp K H v d → Dp K H' v d
  | _, _, .non => .non
  | _, _, .bl b => .bl b
  | _, _, .int i => .int i
  | _, _, .str x => .str x
  | _, _, .lst h g => .lst (SqL.same (k _) h) (DpAll.same k g)
  | _, _, .tup h g => .tup (SqT.same (k _) h) (DpAll.same k g)
theorem DpAll.same (k : Same H H') : ∀ {vs : List V} {ds : List PyData}, DpAll K H vs ds → DpAll K H' vs ds
  | _, _, .nil => .nil
  | _, _, .cons h g => .cons (Dp.same k h) (DpAll.same k g)
end
mutual
theorem Dp.kp {p : Addr} {kvs : List (Key × V)} (hp : H p = some (.dK kvs)) (k : Kp p H H') : ∀ {v : V} {d : PyData}, Dp K H v d → Dp K H' v d
  | _, _, .non => .non
  | _, _, .bl b => .bl b
  | _, _, .int i => .int i
  | _, _, .str x => .str x
  | _, _, .lst h g => .lst (SqL.kp hp k h) (DpAll.kp hp k g)
  | _, _, .tup h g => .tup (SqT.kp hp k h) (DpAll.kp hp k g)
theorem DpAll.kp {p : Addr} {kvs : List (Key × V)} (hp : H p = some (.dK kvs)) (k : Kp p H H') : ∀ {vs : List V} {ds : List PyData}, DpAll K H vs ds → DpAll K H' vs ds
  | _, _, .nil => .nil
  | _, _, .cons h g => .cons (Dp.kp hp k h) (DpAll.kp hp k g)
end
end
section
variable {K : PySem.W.Frag} {H : Hp} {Q : VK} {p : Addr} {σ : L2.St} {tk tv : TE} {r : List (TE × TE)} {x y : V} {d e : PyData}
def rDisp (p : Addr) (ps : List (V × V)) (H : Hp) (Q : VK) : Prop := H p = some (.dK []) ∧ ∃ kvs : List (Key × V), ps = kvs.map (fun kv => (kV kv.1, kv.2)) ∧ kvs.length ≤ 15 ∧ Q (.ref p) (upd H p (.dK (mergeK [] kvs)))
theorem r_disp {trs : List (TE × TE)} (q : ∀ p, H p = none → tPairs trs σ (upd H p (.dK [])) fun ps H2 => rDisp p ps H2 Q) : tDisp trs σ H Q := q
theorem r_p0 {Q : List (V × V) → Hp → Prop} (q : Q [] H) : tPairs [] σ H Q := q
theorem r_p1 {Q : List (V × V) → Hp → Prop} (q : tk σ H fun x H1 => tv σ H1 fun y H2 => tPairs r σ H2 fun ps H3 => Q ((x, y) :: ps) H3) : tPairs ((tk, tv) :: r) σ H Q := q
theorem r_Mk {l sd sp : Int} {c : Addr} (h : H p = some (.dK [])) (q : Q (.ref p) (upd H p (.dK (Mk l sd c sp)))) : rDisp p [(.str "left", .int l), (.str "seed", .int sd), (.str "cells", .ref c), (.str "spot", .int sp)] H Q :=
  ⟨h, Mk l sd c sp, rfl, by show 4 ≤ 15; decide, q⟩
theorem r_eqD (hd : Dp K H x d) (he : Dp K H y e) (s1 : SeqAt.shaped d = true) (s2 : SeqAt.shaped e = true) (q : Q (.bl (PyData.eqv d e)) H) : rEqD K x y H Q := ⟨d, e, hd, he, s1, s2, q⟩
theorem r_neD (hd : Dp K H x d) (he : Dp K H y e) (s1 : SeqAt.shaped d = true) (s2 : SeqAt.shaped e = true) (q : Q (.bl (!PyData.eqv d e)) H) : rNeD K x y H Q := ⟨d, e, hd, he, s1, s2, q⟩
end
section
variable {H : Hp} {d p : Addr} {kvs : List (List Key × V)} {k : List Key} {v : V} {Q : VK}
theorem in_T (e : H d = some (.dT kvs)) (eb : H p = some (.tup (k.map kV))) (q : Q (.bl (valV kvs k).isSome) H) : rDIn false (.ref p) (.ref d) H Q := ⟨d, _, rfl, DGet.t e eb, q⟩
theorem nin_T (e : H d = some (.dT kvs)) (eb : H p = some (.tup (k.map kV))) (q : Q (.bl (!(valV kvs k).isSome)) H) : rDIn true (.ref p) (.ref d) H Q := ⟨d, _, rfl, DGet.t e eb, q⟩
theorem get_T (e : H d = some (.dT kvs)) (eb : H p = some (.tup (k.map kV))) (g : valV kvs k = some v) (q : Q v H) : rDGet (.ref d) (.ref p) H Q := ⟨d, v, rfl, by rw [← g]; exact DGet.t e eb, q⟩
theorem put_T {R : Hp → Prop} (e : H d = some (.dT kvs)) (eb : H p = some (.tup (k.map kV))) (l : kvs.length < sizeLine) (q : R (upd H d (.dT (putK kvs k v)))) : rDPut (.ref d) (.ref p) v H R := ⟨d, _, rfl, DPut.t e eb l, q⟩
end
/-- f(a, x = b) of a def with two parameters -/
def two1 {α : Type} (us ws : List α) : List α := match us, ws with
  | [a], [b] => [a, b]
  | _, _ => []
theorem two1_rel {vs : List V} {us : List Value} {zs : List V} {ws : List Value} (r : Vals vs us) (q : Vals zs ws) : Vals (two1 vs zs) (two1 us ws) := by
  cases r with
  | nil => exact .nil
  | cons a b =>
    cases b with
    | nil =>
      cases q with
      | nil => exact .nil
      | cons c d =>
        cases d with
        | nil => exact .cons a (.cons c .nil)
        | cons _ _ => exact .nil
    | cons _ _ => exact .nil
theorem kb_two1 {K : PySem.W.Frag} {x q : Str} {st : Stmt} {f : Addr} {fd : FuncData} {p1 p2 : Str} (F : Fun K x q st f fd)
    (h : ∀ (kV doc pm : Value) (an : Option Addr) (cdv ct : Value) (a b : Value), bindArgs (PySem.W.fnOf x q (defArgs st) (defBody st) (defScope st) .none kV doc pm an cdv ct) ⟨[a], [(p2, b)]⟩ = pure [(p1, a), (p2, b)]) :
    KBinds K fd [p1, p2] [p2] two1 two1 := by
  obtain ⟨oc, od, kV, doc, pm, an, cdv, ct, osl, rfl, lk, hcd⟩ := F.ex
  refine ⟨fun s us ws _ hl => ?_, two1_rel⟩
  match us, ws, hl with
  | [a], [b], _ => exact .of_eq (h kV doc pm an cdv ct a b)
section
variable {σ : L2.St} {H : Hp} {Q : VK} {sp : Sp} {gV : List V → List V → List V} {E : XK} {t tk : TA}
theorem r_callK (q : t σ H fun vs H1 => tk σ H1 fun zs H2 => sp (gV vs zs) H2 Q E) : tCallK sp gV E t tk σ H Q := q
theorem r_dnewT (q : ∀ p H', Same H H' → H p = none → H' p = some (.dT []) → Q (.ref p) H') : tDNewT σ H Q := fun p np => q p _ (same_new np) np upd_same
end
/-- what only d, a dict by tuples, may change -/
theorem SqL.kt {K : PySem.W.Frag} {H H' : Hp} {p a : Addr} {xs : List V} {kvs : List (List Key × V)} (hp : H p = some (.dT kvs)) (k : Kp p H H') (h : SqL K H a xs) : SqL K H' a xs := by
  rcases h with (h | ⟨o, h⟩) | h
  · exact .inl (.inl (k _ _ (ne_of h hp (fun z => by cases z)) h))
  · exact .inl (.inr ⟨o, k _ _ (ne_of h hp (fun z => by cases z)) h⟩)
  · exact .inr h
theorem Draws.kt {K : PySem.W.Frag} {p d : Addr} {n : Nat} {H H' : Hp} {kvs : List (List Key × V)} (hd : H d = some (.dT kvs)) (k : Kp d H H') (h : Draws K p n H) : Draws K p n H' := by
  obtain ⟨c, l', sd, sp, ns, g⟩ := h
  exact ⟨c, l', sd, sp, ns, { g with at_ := k _ _ (ne_of g.at_ hd (fun z => by cases z)) g.at_, cells := SqL.kt hd k g.cells }⟩
end GB
namespace GB
open PySem PySem.Spec PyProof.Rows L2
/-! t[::-1] of a tuple -/
theorem picks_back (xs : Array Value) : ((List.range xs.size).filterMap fun (k : Nat) => xs[((xs.size : Int) - 1 + (k : Int) * (-1)).toNat]?) = xs.toList.reverse := by
  have e : (List.range xs.size).filterMap (fun (k : Nat) => xs[((xs.size : Int) - 1 + (k : Int) * (-1)).toNat]?) = (((List.range xs.size).map fun k => xs.size - 1 - k)).filterMap (xs[·]?) := by
    rw [List.filterMap_map]
    have same : ∀ l : List Nat, (∀ k ∈ l, k < xs.size) → l.filterMap (fun (k : Nat) => xs[((xs.size : Int) - 1 + (k : Int) * (-1)).toNat]?) = l.filterMap ((xs[·]?) ∘ fun k => xs.size - 1 - k) := by
      intro l
      induction l with
      | nil => intro _; rfl
      | cons a r ih =>
        intro hl
        have ha := hl a List.mem_cons_self
        have e1 : ((xs.size : Int) - 1 + (a : Int) * (-1)).toNat = xs.size - 1 - a := by omega
        rw [List.filterMap_cons, List.filterMap_cons, e1, ih (fun k hk => hl k (List.mem_cons_of_mem _ hk))]
        rfl
    exact same _ (fun k hk => List.mem_range.mp hk)
  rw [e, PySem.W.krv_range, List.filterMap_reverse, PySem.W.krv_all]
theorem tuple_back {pr : Program} {wd : World} {A : Around} {E : Value → Shared → Prop} {s : Shared} {t sl : Addr} {xs : Array Value} {vl vu vs : Value} {Q : Value → Shared → Prop} (ht : IsTup s.heap t xs) (hs : s.heap.IsSliceOf sl vl vu vs)
    (pl : IsPart vl none) (pu : IsPart vu none) (ps : IsPart vs (some (-1))) (few : xs.size ≤ sizeLine)
    (h : Q (.ref s.heap.objs.size) { s with heap := s.heap.push { cls := .type "tuple", data := .seq xs.toList.reverse.toArray } }) : wpAny (model pr wd) A (getItem (.ref t) (.ref sl)) Q E s := by
  have fits : sizeOk (.seq xs.toList.reverse.toArray) := by
    show xs.toList.reverse.toArray.size ≤ sizeLine
    rw [List.size_toArray, List.length_reverse, Array.length_toList]
    exact few
  obtain ⟨ob, at_, cls, dat⟩ := id hs
  have isSl : s.TypeIs (.ref sl) "slice" := ⟨ob, at_, cls⟩
  unfold getItem
  try with_reducible refine wpAny_holding ?_
  first | refine wpAny_bind (wpAny_pure ?_) | skip
  refine wpAny_bind (wpAny_sequenceKey ht.typeIs (by decide) ?_)
  refine wpAny_bind (wpAny_callSpecial?_slot (name := Str.ofString "__getitem__") ht.typeIs PyProof.Rows.slot_tuple_getitem (wpAny_call_entry PyProof.Rows.slot_tuple_getitem ht.typeIs entry_tuple_getitem ?_ (args_tuple_getitem _ _)))
  show wpAny _ _ (Builtin.Tuple.tupleItemsOf (.ref t) >>= _) _ _ s
  refine wpAny_bind (tupleItemsOf_ ht (wpAny_bind (wpAny_typeOf isSl ?_)))
  rw [if_pos (by decide)]
  have applied : ∀ (B : Around) (F : Value → Shared → Prop) (R : Int × Int × Nat → Shared → Prop), R ((xs.size : Int) - 1, -1, xs.size) s → wpAny (model pr wd) B (Builtin.Slice.sliceApplied (.ref sl) (pure (xs.size : Int))) R F s := by
    intro B F R hR
    unfold Builtin.Slice.sliceApplied Builtin.Slice.sliceFields
    refine wpAny_bind (wpAny_bind (wpAny_field at_ dat (x := vl) rfl (wpAny_bind (wpAny_field at_ dat (x := vu) rfl (wpAny_bind (wpAny_field at_ dat (x := vs) rfl (wpAny_pure ?_)))))))
    refine wpAny_bind (HT.slicePart_ ps ?_)
    show wpAny _ _ (if ((-1 : Int) == 0) = true then _ else _) _ _ s
    rw [if_neg (by decide)]
    refine wpAny_bind (HT.slicePart_ pl (wpAny_bind (HT.slicePart_ pu (wpAny_bind (wpAny_pure ?_)))))
    have e1 : Builtin.Slice.sliceAdjust none none (-1) (xs.size : Int) = ((xs.size : Int) - 1, -1) := rfl
    show wpAny _ _ (match Builtin.Slice.sliceAdjust none none (-1) (xs.size : Int) with | (lo, hi) => pure (lo, (-1 : Int), Builtin.Slice.slicePlaces lo hi (-1))) _ _ s
    rw [e1]
    have e2 : Builtin.Slice.slicePlaces ((xs.size : Int) - 1) (-1) (-1) = xs.size := by
      unfold Builtin.Slice.slicePlaces
      rw [if_neg (by decide)]
      by_cases z : (xs.size : Int) - 1 > -1
      · rw [if_pos z]
        have : ((xs.size : Int) - 1 - -1 - 1) / (- -1) = (xs.size : Int) - 1 := by
          rw [show (- -1 : Int) = 1 by decide, Int.ediv_one]
          omega
        rw [this]
        omega
      · rw [if_neg z]
        omega
    show wpAny _ _ (pure ((xs.size : Int) - 1, (-1 : Int), Builtin.Slice.slicePlaces ((xs.size : Int) - 1) (-1) (-1))) _ _ s
    rw [e2]
    exact wpAny_pure hR
  refine wpAny_bind (applied _ _ _ ?_)
  have hno : ¬ (((xs.size : Int) - 1 == 0 && (-1 : Int) == 1 && xs.size == xs.size) = true) := by
    intro q
    rw [Bool.and_eq_true, Bool.and_eq_true] at q
    exact absurd q.1.2 (by decide)
  show wpAny _ _ (if ((xs.size : Int) - 1 == 0 && (-1 : Int) == 1 && xs.size == xs.size) = true then _ else _) _ _ s
  rw [if_neg hno, picks_back]
  first
    | exact wpAny_bind (m := Builtin.Tuple.tupleExact _) (wpAny_newObj_type (wpAny_pure ⟨_, rfl, wpAny_pure h⟩) fits)
    | exact wpAny_bind (m := Builtin.Tuple.tupleExact _) (wpAny_newObj_type (wpAny_bind (wpAny_pure (wpAny_pure ⟨_, rfl, wpAny_pure h⟩))) fits)
    | exact wpAny_bind (wpAny_bind (m := Builtin.Tuple.tupleExact _) (wpAny_newObj_type (wpAny_pure (wpAny_pure ⟨_, rfl, wpAny_pure h⟩)) fits))
    | exact wpAny_bind (wpAny_bind (m := Builtin.Tuple.tupleExact _) (wpAny_newObj_type (wpAny_pure ⟨_, rfl, wpAny_pure h⟩) fits))
def rBackT (K : PySem.W.Frag) (x : V) (H : Hp) (Q : VK) : Prop := ∃ a xs, x = .ref a ∧ SqT K H a xs ∧ ∀ p, H p = none → Q (.ref p) (upd H p (.tup xs.reverse))
def tBackT (K : PySem.W.Frag) (te : TE) : TE := fun σ H Q => te σ H fun x H1 => rBackT K x H1 Q
theorem pe_backT {X : Cx} {e : Expr} {te : TE} {k : Nat} {p1 p2 p3 pos : Pos} (he : PE X e te) : PE X (.Subscript e (.Slice none none (some (.UnaryOp .USub (.Constant (.int 1) k p1) p2)) p3) pos) (tBackT X.K te) := by
  constructor
  intro pins s σ H Q J got
  refine Subscript_ (thn (he.run pins s σ H _ J got) fun v s1 ⟨x, H1, J1, r1, a, xs, ex, hx, q⟩ => ?_)
  subst ex
  have ev : v = Value.ref a := r1
  subst ev
  have step : PO X (some (.UnaryOp .USub (.Constant (.int 1) k p1) p2)) (tPart (tUn (rU fun i => .int (-i)) (tC (.int 1)))) := po_some (pe_un un_neg pe_int)
  have none1 := po_none.run pins s1 σ H1 (fun o H2 => o = none ∧ H2 = H1) J1 ⟨rfl, rfl⟩
  refine wpAny_Slice (thn none1 fun vl s2 ⟨l, H2, J2, pl, el, e2⟩ => ?_)
  subst el e2
  have none2 := po_none.run pins s2 σ H2 (fun o H3 => o = none ∧ H3 = H2) J2 ⟨rfl, rfl⟩
  refine thn none2 fun vu s3 ⟨u, H3, J3, pu, eu, e3⟩ => ?_
  subst eu e3
  have one3 := step.run pins s3 σ H3 (fun o H4 => o = some (-1) ∧ H4 = H3) J3 ⟨1, rfl, -1, rfl, rfl, rfl⟩
  refine thn one3 fun vs s4 ⟨o, H4, J4, ps, eo, e4⟩ => ?_
  subst eo e4
  have J5 : Inv X pins σ H4 { s4 with heap := s4.heap.push { cls := .type "slice", data := .fields #[vl, vu, vs] } } := J4.kept (t' := s4.toks) fun b ob z => Heap.get?_push_of_some _ z
  obtain ⟨its, rel, ht, hz⟩ := J5.tuple hx
  have hlen := rel.length
  show wpAny (model X.prog X.w) X.A (subscriptTail e (.Slice none none (some (.UnaryOp .USub (.Constant (.int 1) k p1) p2)) p3) (.ref a) (.ref s4.heap.objs.size)) (EP X pins σ Q) X.xe { s4 with heap := s4.heap.push { cls := .type "slice", data := .fields #[vl, vu, vs] } }
  refine tail_any (ops := [.ref a, .ref s4.heap.objs.size]) ht.typeIs PyProof.Rows.slot_tuple_getitem.lookup ?_ (by with_unfolding_all rfl)
  refine tuple_back ht (Heap.IsSliceOf.new _ vl vu vs) pl pu ps (by rw [List.size_toArray]; omega) ?_
  refine ⟨.ref _, _, J5.laid (t' := s4.toks) (o := .tup xs.reverse) (fun b ob z => Heap.get?_push_of_some _ z) (Nat.le_refl _) ?_, rfl, q _ (J5.hok.fresh (Nat.le_refl _))⟩
  exact ⟨by rw [List.length_reverse]; omega, its.reverse, rel.reverse, ⟨_, Heap.get?_push_size _ rfl, rfl, 0, rfl⟩⟩
section
variable {K : PySem.W.Frag} {σ : L2.St} {H : Hp} {Q : VK} {te : TE} {a : Addr} {xs : List V}
theorem r_backT0 (q : te σ H fun x H1 => rBackT K x H1 Q) : tBackT K te σ H Q := q
theorem r_backT (h : SqT K H a xs) (q : ∀ p H', Same H H' → H p = none → H' p = some (.tup xs.reverse) → Q (.ref p) H') : rBackT K (.ref a) H Q :=
  ⟨a, xs, rfl, h, fun p np => q p _ (same_new np) np upd_same⟩
/-- t[lo:hi], whatever its bounds: some tuple of these items -/
theorem r_slT {lo hi : Option Int} (h : SqT K H a xs) (q : ∀ p H', Same H H' → SqT K H' p (cutV xs lo hi) → Q (.ref p) H') : rSlA K (.ref a) lo hi H Q := by
  refine ⟨a, xs, rfl, h, fun w => ?_, fun _ p np => ?_⟩
  · refine q a H (Same.refl H) ?_
    have e : cutV xs lo hi = xs := by
      unfold cutV
      rw [w.1, w.2, List.drop_zero, Nat.sub_zero, List.take_length]
    rw [e]
    exact h
  · exact q p _ (same_new np) (sqt_of upd_same)
theorem r_catT {b : Addr} {ys : List V} (h : SqT K H a xs) (g : SqT K H b ys) (l : xs.length + ys.length ≤ sizeLine) (q : ∀ p H', Same H H' → SqT K H' p (xs ++ ys) → Q (.ref p) H') : rCatA K (.ref a) (.ref b) H Q := by
  refine ⟨a, b, xs, ys, rfl, rfl, h, g, l, fun e => ?_, fun _ e => ?_, fun _ _ p np => ?_⟩
  · subst e
    exact q b H (Same.refl H) g
  · subst e
    refine q a H (Same.refl H) ?_
    rw [List.append_nil]
    exact h
  · exact q p _ (same_new np) (sqt_of upd_same)
end
/-! loops by a test; lists that grow -/
section
variable {K : PySem.W.Frag} {σ : L2.St} {H H0 H' : Hp} {Q : VK} {D : Ends} {c : TT} {body : TS} {te to : TE} {t : TA} {l a : Addr} {xs ys : List V} {y v : V} {m : Nat} {W : Nat → L2.St → Hp → Prop}
def WL (W : Nat → L2.St → Hp → Prop) (m : Nat) (body : TS) (D : Ends) (σ : L2.St) (H : Hp) : Prop :=
  ∃ N : L2.St → Hp → Prop, (∀ σ' H', N σ' H' → ∃ m', m' < m ∧ W m' σ' H') ∧ body { D with nx := N, ct := N, bk := D.nx } σ H
theorem r_while (W : Nat → L2.St → Hp → Prop) (m0 : Nat) (h0 : W m0 σ H) (hs : ∀ m σ H, W m σ H → c σ H fun b H1 => if b = true then WL W m body D σ H1 else D.nx σ H1) : tWhile c body D σ H := ⟨W, ⟨m0, h0⟩, hs⟩
theorem r_wl (q : body { D with nx := fun σ' H' => ∃ m', m' < m ∧ W m' σ' H', ct := fun σ' H' => ∃ m', m' < m ∧ W m' σ' H', bk := D.nx } σ H) : WL W m body D σ H := ⟨_, fun _ _ h => h, q⟩
def BM (K : PySem.W.Frag) (T : String) (r : V → List V → Hp → VK → Prop) (t : TA) (σ : L2.St) (x : V) (H : Hp) (Q : VK) : Prop := tyV K T x H ∧ t σ H fun xs H2 => r x xs H2 Q
theorem r_bm {T : String} {r : V → List V → Hp → VK → Prop} (q : to σ H fun x H1 => BM K T r t σ x H1 Q) : tBM K T r to t σ H Q := q
theorem r_bmL {r : V → List V → Hp → VK → Prop} (h : SqL K H l ys) (q : t σ H fun xs H2 => r (.ref l) xs H2 Q) : BM K "list" r t σ (.ref l) H Q := ⟨.inl ⟨rfl, _, h⟩, q⟩
theorem r_grow (h : H l = some (.lst xs)) (z : xs.length < 16000000) (q : ∀ H', Kp l H H' → H' l = some (.lst (xs ++ [y])) → Q .non H') : rAppend (.ref l) [y] H Q := by
  have e : sizeLine = 16777216 := by decide
  exact ⟨l, xs, y, rfl, rfl, h, by omega, q _ Kp.put upd_same⟩
def rTupOf (K : PySem.W.Frag) : List V → Hp → VK → Prop := fun xs H Q => ∃ p ys, xs = [.ref p] ∧ ((SqL K H p ys ∧ ∀ l, H l = none → Q (.ref l) (upd H l (.tup ys))) ∨ (SqT K H p ys ∧ Q (.ref p) H))
theorem call_tupB {X : Cx} : CallR X (.type "tuple") (rTupOf X.K) := call_tuple_of
theorem r_tupL (h : SqL K H a ys) (q : ∀ p H', Same H H' → H p = none → H' p = some (.tup ys) → Q (.ref p) H') : rTupOf K [.ref a] H Q := ⟨a, ys, rfl, .inl ⟨h, fun p np => q p _ (same_new np) np upd_same⟩⟩
theorem Same.kp' (e : Same H0 H) (n : H0 l = none) (k : Kp l H H') : Same H0 H' := fun b o h => k b o (fun z => by rw [z, n] at h; cases h) (e b o h)
theorem SqT.kl {zs : List V} (hl : H l = some (.lst zs)) (k : Kp l H H') (h : SqT K H a xs) : SqT K H' a xs := by
  rcases h with (h | ⟨o, h⟩) | h
  · exact .inl (.inl (k _ _ (ne_of h hl (fun z => by cases z)) h))
  · exact .inl (.inr ⟨o, k _ _ (ne_of h hl (fun z => by cases z)) h⟩)
  · exact .inr h
theorem Draws.kl {p : Addr} {n : Nat} {zs : List V} (hl : H l = some (.lst zs)) (hc : ∀ c l' sd sp ns, DrawsAt K p n H c l' sd sp ns → c ≠ l) (k : Kp l H H') (h : Draws K p n H) : Draws K p n H' := by
  obtain ⟨c, l', sd, sp, ns, g⟩ := h
  exact ⟨c, l', sd, sp, ns, { g with at_ := k _ _ (ne_of g.at_ hl (fun z => by cases z)) g.at_, cells := SqL.same (fun o ho => k _ _ (hc _ _ _ _ _ g) ho) g.cells }⟩
end
/-- // by any divisor but 0, below 2 ^ 9000 -/
def CDivZ (_ j : Int) : Prop := j ≠ 0 ∧ j.natAbs.log2 < 9000
theorem op_fdivZ {X : Cx} : OpR X (binaryOp .FloorDiv) (rI CDivZ fun i j => .int (i.fdiv j)) := opI fun _ _ _ _ _ _ _ hc q => floordiv_int hc.1 q (.inl (PyProof.noPylong_of_log2 hc.2))
theorem CDivZ.of {n : Nat} {i j : Int} (h : j ≠ 0) (hb : Bt (n + 1) j) (l : n < 9000) : CDivZ i j := ⟨h, Nat.lt_of_le_of_lt hb.log l⟩
/-- powers, also of great numbers -/
def CPowB (i j : Int) : Prop := 0 ≤ j ∧ (Builtin.Int.intBits i : Int) * j ≤ 2 ^ 27
theorem op_powB {X : Cx} : OpR X (binaryOp .Pow) (rI CPowB fun i j => .int (i ^ j.toNat)) := opI fun _ _ _ _ _ _ _ hc q => pow_int hc.1 hc.2 q
section
variable {K : PySem.W.Frag} {σ : L2.St} {H : Hp} {D : Ends} {te : TE} {t u : TS}
theorem cl_tup {a L : Addr} {xs : List V} {g : TG} {tt : TT} {vs : List Nat} {Qd : Hp → Prop} (Pv : Nat → Hp → Prop) (h0 : Pv 0 (upd H L (.lst []))) (hl : ∀ i H, i ≤ xs.length → Pv i H → SqT K H a xs)
    (hs : ∀ i x H, xs[i]? = some x → Pv i H → g x (wipe σ vs) H fun σ2 H2 => wipe σ2 vs = wipe σ vs ∧ tt σ2 H2 fun b H3 => if b = true then te σ2 H3 fun y H4 => ∃ acc, H4 L = some (.lst acc) ∧ acc.length < sizeLine ∧ Pv (i + 1) (upd H4 L (.lst (acc ++ [y]))) else Pv (i + 1) H3)
    (hd : ∀ H, Pv xs.length H → Qd H) : CL (Itt K a) g tt te vs L σ Qd H := lc_tup Pv h0 hl hs hd
/-- a word between two statements -/
theorem r_cut (Mid : L2.St → Hp → Prop) (h : t { D with nx := Mid } σ H) (q : ∀ σ' H', Mid σ' H' → u D σ' H') : Evl.tCut t u D σ H := ⟨Mid, h, q⟩
end
theorem at_neg1 {xs : List V} {v : V} (h : xs[xs.length - 1]? = some v) : atI xs (-1) = some v := by
  cases e : xs.reverse with
  | nil =>
    have : xs = [] := by simpa using e
    subst this
    simp at h
  | cons z r =>
    have e2 : xs = r.reverse ++ [z] := by
      have := congrArg List.reverse e
      simpa using this
    subst e2
    rw [List.length_append, List.length_singleton, Nat.add_sub_cancel, List.getElem?_append_right (Nat.le_refl _), Nat.sub_self] at h
    rw [← Option.some.inj h]
    exact atI_last _ _
theorem at_neg2 {xs : List V} {u v : V} : atI (xs ++ [u, v]) (-2) = some u := by
  unfold atI
  have e : ixN (xs ++ [u, v]).length (-2) = some xs.length := by
    unfold ixN
    rw [List.length_append]
    show _ = _
    simp
    omega
  rw [e]
  show (xs ++ [u, v])[xs.length]? = some u
  rw [List.getElem?_append_right (Nat.le_refl _), Nat.sub_self]
  rfl
end GB
namespace GB
open PySem PySem.Spec PyProof.Rows L2
/-! readings inside a comprehension: what is locked told by name -/
section
variable {X : Cx} {K : PySem.W.Frag}
theorem ix_listK (e : X.K = K) : IxR X (rIxL K) := e ▸ ix_list
theorem ix_tupK (e : X.K = K) : IxR X (rIxT K) := e ▸ ix_tup
theorem sl_listK (e : X.K = K) : SlR X (rSlL K) := e ▸ sl_list
theorem sl_tupAK (e : X.K = K) : SlR X (rSlA K) := e ▸ sl_tupA
theorem op_catAK (e : X.K = K) : OpR X (binaryOp .Add) (rCatA K) := e ▸ op_catA
theorem call_lenBK (e : X.K = K) : CallR X (.builtin "len") (rLenB K) := e ▸ call_lenB
theorem call_tupBK (e : X.K = K) : CallR X (.type "tuple") (rTupOf K) := e ▸ call_tupB
theorem op_eqDK (hu : X.A.units + 64 < cLine) (e : X.K = K) : OpR X (compareOp .Eq) (rEqD K) := e ▸ op_eqD hu
theorem op_neDK (hu : X.A.units + 64 < cLine) (e : X.K = K) : OpR X (compareOp .NotEq) (rNeD K) := e ▸ op_neD hu
end
/-! what draws change: the dict of the draws alone, its cells stay where they are -/
def Kd (p : Addr) (H H' : Hp) : Prop := Kp p H H' ∧ ∀ l sd c sp, H p = some (.dK (Mk l sd c sp)) → ∃ l' sd' sp', H' p = some (.dK (Mk l' sd' c sp'))
theorem Kd.refl (p : Addr) (H : Hp) : Kd p H H := ⟨Kp.refl p H, fun l sd c sp h => ⟨l, sd, sp, h⟩⟩
theorem Kd.trans {p : Addr} {H H1 H2 : Hp} (a : Kd p H H1) (b : Kd p H1 H2) : Kd p H H2 :=
  ⟨a.1.trans b.1, fun l sd c sp h => let ⟨l1, sd1, sp1, h1⟩ := a.2 l sd c sp h; b.2 l1 sd1 c sp1 h1⟩
theorem Kd.of {p : Addr} {H H' : Hp} (h : Same H H') : Kd p H H' := ⟨Kp.of h, fun l sd c sp e => ⟨l, sd, sp, h _ _ e⟩⟩
theorem Mk_cells {l sd sp l' sd' sp' : Int} {c c' : Addr} (h : Mk l sd c sp = Mk l' sd' c' sp') : c = c' := by
  unfold Mk at h
  injection h with _ h
  injection h with _ h
  injection h with h _
  injection h with _ h
  exact V.ref.inj h
theorem Kd.put {p c : Addr} {H : Hp} {l sd sp l' sd' sp' : Int} (h : H p = some (.dK (Mk l sd c sp))) : Kd p H (upd H p (.dK (Mk l' sd' c sp'))) :=
  ⟨Kp.put, fun l1 sd1 c1 sp1 h1 => by
    rw [h] at h1
    have e : c = c1 := Mk_cells (HO.dK.inj (Option.some.inj h1))
    subst e
    exact ⟨l', sd', sp', upd_same⟩⟩
section
variable {K : PySem.W.Frag} {p c L : Addr} {n n' : Nat} {H H' : Hp} {l sd sp : Int} {ns : List Int}
/-- the draws of a later heap, told with the cells of an earlier one -/
theorem DrawsAt.keep (d : DrawsAt K p n H c l sd sp ns) (k : Kd p H H') (h : Draws K p n' H') : ∃ l' sd' sp', DrawsAt K p n' H' c l' sd' sp' ns := by
  obtain ⟨c', l', sd', sp', ns', d'⟩ := h
  obtain ⟨l2, sd2, sp2, e2⟩ := k.2 _ _ _ _ d.at_
  have at' := d'.at_
  rw [e2] at at'
  have e : c = c' := Mk_cells (HO.dK.inj (Option.some.inj at'))
  subst e
  exact ⟨l', sd', sp', { d' with cells := SqL.kp d.at_ k.1 d.cells, some_ := d.some_, few := d.few, bits := d.bits }⟩
theorem DrawsAt.all (d : DrawsAt K p n H c l sd sp ns) : Draws K p n H := ⟨_, _, _, _, _, d⟩
theorem DrawsAt.same (d : DrawsAt K p n H c l sd sp ns) (k : Same H H') : DrawsAt K p n H' c l sd sp ns := { d with at_ := k _ _ d.at_, cells := k.seq d.cells }
theorem DrawsAt.mono (d : DrawsAt K p n H c l sd sp ns) (k : n ≤ n') : DrawsAt K p n' H c l sd sp ns := { d with p1 := by have := d.p1; omega }
/-- a list that is not at L, or not of this heap -/
def Apart (K : PySem.W.Frag) (L a : Addr) (xs : List V) : Prop := a ≠ L ∨ ∀ H : Hp, SqL K H a xs
theorem Apart.of {a : Addr} {xs : List V} (h : SqL K H a xs) (n : H L = none) : Apart K L a xs := by
  rcases h with (h | ⟨o, h⟩) | h
  · exact .inl (ne_of_none h n)
  · exact .inl (ne_of_none h n)
  · exact .inr fun _ => .inr h
theorem Apart.put {a : Addr} {xs : List V} {o : HO} (z : Apart K L a xs) (h : SqL K H a xs) : SqL K (upd H L o) a xs := by
  rcases z with z | z
  · exact SqL.same (fun u hu => by rw [upd_ne z]; exact hu) h
  · exact z _
theorem DrawsAt.put {o : HO} (d : DrawsAt K p n H c l sd sp ns) (z : Apart K L c (ns.map V.int)) (hp : p ≠ L) : DrawsAt K p n (upd H L o) c l sd sp ns :=
  { d with at_ := by rw [upd_ne hp]; exact d.at_, cells := z.put d.cells }
theorem DrawsAt.kl {xs : List V} (d : DrawsAt K p n H c l sd sp ns) (z : Apart K L c (ns.map V.int)) (hl : H L = some (.lst xs)) (k : Kp L H H') : DrawsAt K p n H' c l sd sp ns :=
  { d with at_ := k _ _ (ne_of d.at_ hl (fun z => by cases z)) d.at_, cells := z.elim (fun z => SqL.same (fun u hu => k _ _ z hu) d.cells) (fun z => z _) }
end
def spDrawD (K : PySem.W.Frag) : Sp := fun vs H Q _ => ∃ (p : Addr) (b : Int) (n : Nat), vs = [.ref p, .int b] ∧ Draws K p n H ∧ n ≤ 1000000000000 ∧ 0 < b ∧ Bt 8999 b ∧
  ∀ v H', 0 ≤ v → v < b → Kd p H H' → Draws K p (n + 1) H' → Q (.int v) H'
def spOfD (K : PySem.W.Frag) : Sp := fun vs H Q _ => ∃ (p a : Addr) (n : Nat) (xs : List V), vs = [.ref p, .ref a] ∧ Draws K p n H ∧ n ≤ 1000000000000 ∧ SqL K H a xs ∧ xs ≠ [] ∧ xs.length ≤ sizeLine ∧
  ∀ (i : Nat) (v : V) H', xs[i]? = some v → Kd p H H' → Draws K p (n + 1) H' → Q v H'
end GB
namespace GB
open PySem PySem.Spec PyProof.Rows L2
/-! how great an int is, found by its form -/
class BtC (x : Int) (n : outParam Nat) : Prop where
  bt : Bt (n + 1) x
class PosC (x : Int) : Prop where
  pos : 0 < x
instance BtC.mul {x y : Int} {n m : Nat} [a : BtC x n] [b : BtC y m] : BtC (x * y) (n + m + 1) := ⟨(a.bt.mul b.bt).mono (by omega)⟩
instance BtC.add {x y : Int} {n m : Nat} [a : BtC x n] [b : BtC y m] : BtC (x + y) (max n m + 1) := ⟨Bt.add (a.bt.mono (by omega)) (b.bt.mono (by omega))⟩
instance BtC.sub {x y : Int} {n m : Nat} [a : BtC x n] [b : BtC y m] : BtC (x - y) (max n m + 1) := ⟨Bt.sub (a.bt.mono (by omega)) (b.bt.mono (by omega))⟩
instance BtC.neg {x : Int} {n : Nat} [a : BtC x n] : BtC (-x) n := ⟨a.bt.le (by omega)⟩
instance BtC.lit {k : Nat} : BtC (no_index (@OfNat.ofNat Int k instOfNat)) (Nat.log2 k) := ⟨by
  show (k : Int).natAbs < _
  rw [Int.natAbs_natCast]
  exact Nat.lt_log2_self⟩
instance BtC.div {x y : Int} {n : Nat} [a : BtC x n] : BtC (x / y) n := ⟨a.bt.le (Int.natAbs_ediv_le_natAbs _ _)⟩
instance BtC.mod {x y : Int} {n : Nat} [a : BtC y n] [p : PosC y] : BtC (x % y) n := ⟨a.bt.le (by
  have h := p.pos
  have h1 := Int.emod_nonneg x (b := y) (by omega)
  have h2 := Int.emod_lt_of_pos x h
  omega)⟩
instance BtC.pow {x : Int} {n k : Nat} [a : BtC x n] : BtC (x ^ k) ((n + 1) * k) := ⟨by
  have h : x.natAbs < 2 ^ (n + 1) := a.bt
  show (x ^ k).natAbs < _
  rw [Int.natAbs_pow]
  have h2 : x.natAbs ^ k ≤ (2 ^ (n + 1)) ^ k := Nat.pow_le_pow_left (by omega) k
  rw [← Nat.pow_mul] at h2
  have h3 : 2 ^ ((n + 1) * k + 1) = 2 * 2 ^ ((n + 1) * k) := by rw [Nat.pow_succ]; omega
  have h4 := Nat.two_pow_pos ((n + 1) * k)
  omega⟩
instance BtC.abs {x : Int} {n : Nat} [a : BtC x n] : BtC ((x.natAbs : Nat) : Int) n := ⟨a.bt.le (by omega)⟩
instance PosC.lit {k : Nat} [h : NeZero k] : PosC (no_index (@OfNat.ofNat Int k instOfNat)) := ⟨by
  show (0 : Int) < (k : Int)
  have := h.out
  omega⟩
theorem BtC.of {x : Int} {n : Nat} (h : Bt n x) : BtC x n := ⟨h.mono (by omega)⟩
theorem BtC.lt {x : Int} {n : Nat} [a : BtC x n] {m : Nat} (h : n + 1 ≤ m) : Bt m x := a.bt.mono h
theorem BtC.get {x : Int} {n : Nat} [a : BtC x n] {m : Nat} (h : Nat.ble (n + 1) m = true) : Bt m x := a.bt.mono (Nat.le_of_ble_eq_true h)
theorem CMulB.auto {x y : Int} {n m : Nat} [a : BtC x n] [b : BtC y m] (h : Nat.ble (n + m) 100000000 = true) : CMulB x y := ⟨n, m, a.bt, b.bt, Nat.le_of_ble_eq_true h⟩
theorem CDivW.auto {x y : Int} {n : Nat} [a : BtC y n] (p : 0 < y) (h : Nat.ble (n + 1) 9000 = true) : CDivW x y := CDivW.of p a.bt (Nat.le_of_ble_eq_true h)
theorem CDivZ.auto {x y : Int} {n : Nat} [a : BtC y n] (p : y ≠ 0) (h : Nat.ble (n + 1) 9000 = true) : CDivZ x y := CDivZ.of p a.bt (Nat.le_of_ble_eq_true h)
theorem CPowB.of' {n : Nat} {i j : Int} (h : Bt (n + 1) i) (h0 : 0 ≤ j) (l : ((n : Int) + 2) * j ≤ 2 ^ 27) : CPowB i j := by
  refine ⟨h0, Int.le_trans (Int.mul_le_mul_of_nonneg_right ?_ h0) l⟩
  have b : Builtin.Int.intBits i ≤ i.natAbs.log2 + 1 := by
    unfold Builtin.Int.intBits
    split <;> omega
  have := h.log
  omega
theorem CPowB.auto {x : Int} {n k : Nat} [a : BtC x n] (h : Nat.ble ((n + 2) * k) 134217728 = true) : CPowB x (@OfNat.ofNat Int k instOfNat) := by
  refine CPowB.of' a.bt ?_ ?_
  · show (0 : Int) ≤ (k : Int)
    omega
  · have h1 := Nat.le_of_ble_eq_true h
    show ((n : Int) + 2) * (k : Int) ≤ 2 ^ 27
    have h2 : (((n + 2) * k : Nat) : Int) ≤ ((134217728 : Nat) : Int) := Int.ofNat_le.mpr h1
    rw [Int.natCast_mul] at h2
    exact h2
theorem Fine.auto {x : Int} {n : Nat} [a : BtC x n] {b : Nat} (h : Nat.ble (n + 1) b = true) (l : Nat.ble b 1900 = true) : Fine b 0 0 (.int x) := Fine.int (a.bt.mono (Nat.le_of_ble_eq_true h)) (Nat.le_of_ble_eq_true l)
/-- a shift to the left of any int that stays below the model's line -/
theorem CShl.auto {x : Int} {n : Nat} [a : BtC x n] {j : Int} (h0 : 0 ≤ j) (h : j ≤ 100000000) (l : Nat.ble n 10000000 = true) : CShl x j := by
  have b : Builtin.Int.intBits x ≤ x.natAbs.log2 + 1 := by
    unfold Builtin.Int.intBits
    split <;> omega
  have h2 := a.bt.log
  have h3 := Nat.le_of_ble_eq_true l
  refine ⟨h0, ?_⟩
  have e : (2 : Int) ^ 27 = 134217728 := rfl
  omega
section
variable {X : Cx} {K : PySem.W.Frag} {σ : L2.St} {H : Hp} {Q : VK} {D : Ends} {te : TE} {body : TS} {i j n m : Int} {ta : TA}
def rAnd1 : R2 := fun x y H Q => ∃ i : Int, x = .int i ∧ y = .int 1 ∧ Q (.int (i % 2)) H
theorem op_and1 : OpR X (binaryOp .BitAnd) rAnd1 := by
  intro pins s σ H x y v u Q I rx ry h
  obtain ⟨i, rfl, rfl, q⟩ := h
  exact op_andM pins s σ H _ _ v u Q I rx ry ⟨i, 1, rfl, rfl, q⟩
theorem r_and1 (q : Q (.int (i % 2)) H) : rAnd1 (.int i) (.int 1) H Q := ⟨i, rfl, rfl, q⟩
def rBits (x : V) (H : Hp) (Q : VK) : Prop := ∃ i, x = .int i ∧ Q (.int (Builtin.Int.intBits i : Nat)) H
theorem r_bits0 (q : te σ H fun x H1 => rBits x H1 Q) : tBits te σ H Q := q
theorem r_bits (q : Q (.int (Builtin.Int.intBits i : Nat)) H) : rBits (.int i) H Q := ⟨i, rfl, q⟩
/-- ranges from their ends, and downward -/
def rRev (x : V) (H : Hp) (R : It → Hp → Prop) : Prop := ∃ n, x = .int n ∧ -(2 ^ 62) ≤ (0 : Int) ∧ (0 : Int) < 2 ^ 62 ∧ -(2 ^ 62) ≤ n ∧ n < 2 ^ 62 ∧ R (Itc (0 + (((n - 0).toNat : Nat) : Int) - 1) (-1) (n - 0).toNat) H
theorem r_rev0 {R : It → Hp → Prop} (q : te σ H fun x H1 => rRev x H1 R) : iRevR (tRg1 te) σ H R := q
theorem r_rev {R : It → Hp → Prop} (h1 : -(2 ^ 62) ≤ n) (h2 : n < 2 ^ 62) (q : R (Itc (n.toNat - 1) (-1) n.toNat) H) : rRev (.int n) H R := by
  refine ⟨n, rfl, by decide, by decide, h1, h2, ?_⟩
  have e : n - 0 = n := by omega
  have e2 : 0 + ((n.toNat : Nat) : Int) - 1 = (n.toNat : Int) - 1 := by omega
  rw [e, e2]
  exact q
def rRng3 (vs : List V) (H : Hp) (R : It → Hp → Prop) : Prop := ∃ (i j c : Int) (n : Nat), vs = [.int i, .int j, .int c] ∧ RgC i j c n ∧ R (Itc i c n) H
theorem r_rng3 {R : It → Hp → Prop} (q : ta σ H fun vs H1 => rRng3 vs H1 R) : iRng3 ta σ H R := q
theorem r_down {R : It → Hp → Prop} (h1 : -(2 ^ 62) ≤ i) (h2 : i < 2 ^ 62) (h3 : -(2 ^ 62) ≤ j) (h4 : j < 2 ^ 62) (q : R (Itc i (-1) (i - j).toNat) H) : rRng3 [.int i, .int j, .int (-1)] H R := ⟨i, j, -1, _, rfl, RgC.neg h1 h2 h3 h4, q⟩
theorem fl_rangeC {lo c : Int} {n : Nat} {g : TG} (Pv : Nat → L2.St → Hp → Prop) (h0 : Pv 0 σ H)
    (hs : ∀ (i : Nat) σ H, i < n → Pv i σ H → g (.int (lo + (i : Int) * c)) σ H fun σ2 H2 => body { D with nx := Pv (i + 1), ct := Pv (i + 1), bk := D.nx } σ2 H2) (hd : ∀ σ H, Pv n σ H → D.nx σ H) : FL (Itc lo c n) g body D σ H := by
  refine ⟨fun i m σ H => Pv i σ H ∧ i ≤ n ∧ m = n - i, ⟨n, h0, Nat.zero_le _, rfl⟩, fun i m σ H ⟨hp, hi, hm⟩ => ?_⟩
  by_cases z : i = n
  · subst z
    exact .inl ⟨Nat.le_refl _, hd _ _ hp⟩
  · refine .inr ⟨by show i < n; omega, Pv (i + 1), fun σ' H' h' => ⟨n - (i + 1), by omega, h', by omega, rfl⟩, ?_⟩
    rintro x H' ⟨rfl, rfl⟩
    exact hs i σ _ (by omega) hp
/-- a test of an int -/
def rTru (K : PySem.W.Frag) (x : V) (H : Hp) (Q : Bool → Hp → Prop) : Prop := ∃ k, TruV K x H k ∧ Q k H
theorem r_tru0 {Q : Bool → Hp → Prop} (q : te σ H fun x H1 => rTru K x H1 Q) : tTru K te σ H Q := q
theorem r_tru {Q : Bool → Hp → Prop} (q : Q (!decide (i = 0)) H) : rTru K (.int i) H Q := by
  refine ⟨!decide (i = 0), ?_, q⟩
  show (!decide (i = 0)) = (i != 0)
  rfl
theorem pt_tru {a : Expr} (ha : PE X a te) (he : ∀ whole, isTrue a X.env whole = (do let v ← whole; standAt a.pos; holding [v] (truthy v))) : PT X a (tTru X.K te) := pt_truth ha he
end
end GB
namespace GB
open PySem PySem.Spec PyProof.Rows L2
/-! ## readings by data alone -/
/-- what a slot or a value holds: data, a list of this def alone (in a slot, or just made), the drawn numbers, another value -/
inductive SV where
  | d (x : PyData)
  | own (xs : List PyData)
  | new (xs : List PyData)
  | mem
  | raw (v : V)
abbrev PS := List (Option SV)
structure Wd where
  K : PySem.W.Frag
  F0 : Hp
  H0 : Hp
  m0 : Option Addr
def DrawsF (K : PySem.W.Frag) (F : Hp) (p : Addr) (n : Nat) (H : Hp) : Prop := ∃ c l sd sp ns, DrawsAt K p n H c l sd sp ns ∧ SqL K F c (ns.map V.int)
theorem DrawsF.at_ {K : PySem.W.Frag} {F H : Hp} {p : Addr} {n : Nat} (h : DrawsF K F p n H) : ∃ kvs, H p = some (.dK kvs) := let ⟨_, _, _, _, _, d, _⟩ := h; ⟨_, d.at_⟩
theorem DrawsF.all {K : PySem.W.Frag} {F H : Hp} {p : Addr} {n : Nat} (h : DrawsF K F p n H) : Draws K p n H := let ⟨_, _, _, _, _, d, _⟩ := h; ⟨_, _, _, _, _, d⟩
theorem DrawsF.mono {K : PySem.W.Frag} {F H : Hp} {p : Addr} {n m : Nat} (h : DrawsF K F p n H) (l : n ≤ m) : DrawsF K F p m H := let ⟨_, _, _, _, _, d, e⟩ := h; ⟨_, _, _, _, _, d.mono l, e⟩
/-- the heap grows, the data's part grows, nothing but the draws' dict changes -/
structure Step (mp : Option Addr) (F H F' H' : Hp) : Prop where
  ext : Same F F'
  fresh : ∀ a, F' a ≠ none → F a ≠ none ∨ H a = none
  frame : ∀ a o, H a = some o → mp ≠ some a → H' a = some o
  grow : ∀ a, H a ≠ none → H' a ≠ none
theorem Step.refl (mp : Option Addr) (F H : Hp) : Step mp F H F H := ⟨Same.refl F, fun _ h => .inl h, fun _ _ h _ => h, fun _ h => h⟩
theorem Step.trans {mp : Option Addr} {F H F1 H1 F2 H2 : Hp} (a : Step mp F H F1 H1) (b : Step mp F1 H1 F2 H2) : Step mp F H F2 H2 :=
  ⟨a.ext.trans b.ext, fun x h => by
    rcases b.fresh x h with z | z
    · exact a.fresh x z
    · right
      cases q : H x with
      | none => rfl
      | some o => exact absurd z (a.grow x (by rw [q]; intro y; cases y)),
    fun x o h n => b.frame x o (a.frame x o h n) n, fun x h => b.grow x (a.grow x h)⟩
/-- data told of the part F -/
def VS (K : PySem.W.Frag) (F : Hp) (mp : Option Addr) (v : V) : SV → Prop
  | .d x => Dp K F v x
  | .own _ => False
  | .new _ => False
  | .mem => ∃ p, v = .ref p ∧ mp = some p
  | .raw w => v = w
def OwnAt (W : Wd) (F H : Hp) (a : Addr) (xs : List PyData) : Prop := (∃ vs, H a = some (.lst vs) ∧ DpAll W.K F vs xs) ∧ F a = none ∧ W.H0 a = none
def VOk (W : Wd) (F : Hp) (mp : Option Addr) (σ : L2.St) (H : Hp) (v : V) : SV → Prop
  | .d x => Dp W.K F v x
  | .own xs => ∃ a, v = .ref a ∧ OwnAt W F H a xs
  | .new xs => ∃ a, v = .ref a ∧ OwnAt W F H a xs
  | .mem => ∃ p, v = .ref p ∧ mp = some p
  | .raw w => v = w
structure Rel (W : Wd) (F : Hp) (mp : Option Addr) (n : Nat) (ρ : PS) (σ : L2.St) (H : Hp) : Prop where
  sub : Same F H
  base : Same W.F0 F
  fresh : ∀ a, F a ≠ none → W.F0 a ≠ none ∨ W.H0 a = none
  frame : ∀ a o, W.H0 a = some o → W.m0 ≠ some a → H a = some o
  grow : ∀ a, W.H0 a ≠ none → H a ≠ none
  mem : ∀ p, mp = some p → F p = none ∧ (W.m0 = some p ∨ W.H0 p = none) ∧ DrawsF W.K F p n H
  keep : ∀ p, W.m0 = some p → mp = some p
  len : ρ.length = σ.length
  slots : ∀ (i : Nat) s, ρ[i]? = some (some s) → ∃ v, σ[i]? = some (some v) ∧ VOk W F mp σ H v s
  nonew : ∀ (i : Nat) xs, ρ[i]? ≠ some (some (.new xs))
  apart : ∀ (i j : Nat) a xs ys, i ≠ j → ρ[i]? = some (some (.own xs)) → ρ[j]? = some (some (.own ys)) → σ[i]? = some (some (V.ref a)) → σ[j]? = some (some (V.ref a)) → False
section
variable {W : Wd} {F F' : Hp} {mp : Option Addr} {n n' : Nat} {ρ : PS} {σ : L2.St} {H H' : Hp} {v : V} {s : SV} {a : Addr} {xs : List PyData}
theorem DpAll.sameF (k : Same F F') {vs : List V} {ds : List PyData} (h : DpAll W.K F vs ds) : DpAll W.K F' vs ds := DpAll.same k h
theorem Rel.memAt (R : Rel W F mp n ρ σ H) : ∀ p, mp = some p → ∃ kvs, H p = some (.dK kvs) := fun p h => (R.mem p h).2.2.at_
theorem OwnAt.step (h : OwnAt W F H a xs) (m : ∀ p, mp = some p → ∃ kvs, H p = some (.dK kvs)) (t : Step mp F H F' H') : OwnAt W F' H' a xs := by
  obtain ⟨⟨vs, h1, h2⟩, h3, h4⟩ := h
  refine ⟨⟨vs, t.frame a _ h1 (fun z => ?_), DpAll.same t.ext h2⟩, ?_, h4⟩
  · obtain ⟨kvs, e⟩ := m a z
    rw [h1] at e
    cases e
  · cases q : F' a with
    | none => rfl
    | some o =>
      rcases t.fresh a (by rw [q]; intro y; cases y) with z | z
      · exact absurd h3 z
      · rw [h1] at z
        cases z
theorem VOk.step (h : VOk W F mp σ H v s) (m : ∀ p, mp = some p → ∃ kvs, H p = some (.dK kvs)) (t : Step mp F H F' H') : VOk W F' mp σ H' v s := by
  cases s with
  | d x => exact Dp.same t.ext h
  | own xs => obtain ⟨a, e, o⟩ := h; exact ⟨a, e, o.step m t⟩
  | new xs => obtain ⟨a, e, o⟩ := h; exact ⟨a, e, o.step m t⟩
  | mem => exact h
  | raw w => exact h
theorem Rel.step (R : Rel W F mp n ρ σ H) (t : Step mp F H F' H') (sub : Same F' H') (dr : ∀ p, mp = some p → DrawsF W.K F' p n' H') : Rel W F' mp n' ρ σ H' := by
  refine ⟨sub, R.base.trans t.ext, fun b h => ?_, fun b o h m => ?_, fun b h => t.grow b (R.grow b h), fun p h => ?_, R.keep, R.len, fun i s h => ?_, R.nonew, R.apart⟩
  · rcases t.fresh b h with z | z
    · exact R.fresh b z
    · right
      cases q : W.H0 b with
      | none => rfl
      | some o => exact absurd z (R.grow b (by rw [q]; intro y; cases y))
  · refine t.frame b o (R.frame b o h m) fun z => ?_
    rcases (R.mem b z).2.1 with y | y
    · exact m y
    · rw [h] at y; cases y
  · obtain ⟨h1, h2, h3⟩ := R.mem p h
    refine ⟨?_, h2, dr p h⟩
    cases q : F' p with
    | none => rfl
    | some o =>
      obtain ⟨kvs, e⟩ := h3.at_
      rcases t.fresh p (by rw [q]; intro y; cases y) with z | z
      · exact absurd h1 z
      · rw [e] at z; cases z
  · obtain ⟨v, h1, h2⟩ := R.slots i s h
    exact ⟨v, h1, h2.step R.memAt t⟩
theorem Rel.more (R : Rel W F mp n ρ σ H) (l : n ≤ n') : Rel W F mp n' ρ σ H := { R with mem := fun p h => let ⟨a, b, c⟩ := R.mem p h; ⟨a, b, c.mono l⟩ }
/-- something new, of the data's part -/
theorem Rel.alloc {o : HO} (R : Rel W F mp n ρ σ H) (h : H a = none) : Rel W (upd F a o) mp n ρ σ (upd H a o) ∧ Step mp F H (upd F a o) (upd H a o) := by
  have fa : F a = none := R.sub.free h
  have t : Step mp F H (upd F a o) (upd H a o) := by
    refine ⟨same_new fa, fun b hb => ?_, fun b u hb _ => same_new h b u hb, fun b hb => ?_⟩
    · by_cases e : b = a
      · subst e; exact .inr h
      · rw [upd_ne e] at hb; exact .inl hb
    · by_cases e : b = a
      · subst e; rw [upd_same]; intro y; cases y
      · rw [upd_ne e]; exact hb
  refine ⟨R.step t (fun b u hb => ?_) (fun p hp => ?_), t⟩
  · by_cases e : b = a
    · subst e; rw [upd_same] at hb; rw [upd_same]; exact hb
    · rw [upd_ne e] at hb; rw [upd_ne e]; exact R.sub b u hb
  · obtain ⟨c, l, sd, sp, ns, d, e⟩ := (R.mem p hp).2.2
    exact ⟨c, l, sd, sp, ns, d.same (same_new h), SqL.same (fun u hu => same_new fa _ _ hu) e⟩
/-- something new, of this def's own -/
theorem Rel.allocN {o : HO} (R : Rel W F mp n ρ σ H) (h : H a = none) : Rel W F mp n ρ σ (upd H a o) ∧ Step mp F H F (upd H a o) := by
  have t : Step mp F H F (upd H a o) := by
    refine ⟨Same.refl F, fun b hb => .inl hb, fun b u hb _ => same_new h b u hb, fun b hb => ?_⟩
    by_cases e : b = a
    · subst e; rw [upd_same]; intro y; cases y
    · rw [upd_ne e]; exact hb
  refine ⟨R.step t (fun b u hb => same_new h b u (R.sub b u hb)) (fun p hp => ?_), t⟩
  obtain ⟨c, l, sd, sp, ns, d, e⟩ := (R.mem p hp).2.2
  exact ⟨c, l, sd, sp, ns, d.same (same_new h), e⟩
theorem Rel.h0 (R : Rel W F mp n ρ σ H) (h : H a = none) : W.H0 a = none := by
  cases q : W.H0 a with
  | none => rfl
  | some o => exact absurd h (R.grow a (by rw [q]; intro y; cases y))
end
/-- a value just made was not there ahead -/
def NewIn (H : Hp) (v : V) : SV → Prop
  | .new _ => ∀ a, v = .ref a → H a = none
  | _ => True
def Out (W : Wd) (F : Hp) (mp : Option Addr) (ρ : PS) (σ : L2.St) (H : Hp) (Φ : Nat → SV → Prop) (Q : VK) : Prop :=
  ∀ n' F' v s H', Φ n' s → Step mp F H F' H' → Rel W F' mp n' ρ σ H' → VOk W F' mp σ H' v s → NewIn H v s → Q v H'
def PX (W : Wd) (te : TE) (n : Nat) (ρ : PS) (Φ : Nat → SV → Prop) : Prop := ∀ F mp σ H Q, Rel W F mp n ρ σ H → Out W F mp ρ σ H Φ Q → te σ H Q
def POp (W : Wd) (r : R2) (n : Nat) (ρ : PS) (s1 s2 : SV) (Φ : Nat → SV → Prop) : Prop := ∀ F mp σ H Q v1 v2, Rel W F mp n ρ σ H → VOk W F mp σ H v1 s1 → VOk W F mp σ H v2 s2 → Out W F mp ρ σ H Φ Q → r v1 v2 H Q
def PUn (W : Wd) (r : V → Hp → VK → Prop) (n : Nat) (ρ : PS) (s : SV) (Φ : Nat → SV → Prop) : Prop := ∀ F mp σ H Q v, Rel W F mp n ρ σ H → VOk W F mp σ H v s → Out W F mp ρ σ H Φ Q → r v H Q
inductive AOk (W : Wd) (F : Hp) (mp : Option Addr) (σ : L2.St) (H : Hp) : List V → List SV → Prop
  | nil : AOk W F mp σ H [] []
  | cons {v s vs ss} : VOk W F mp σ H v s → AOk W F mp σ H vs ss → AOk W F mp σ H (v :: vs) (s :: ss)
/-- values just made: not there ahead, and apart -/
def NewAll (H : Hp) : List V → List SV → Prop
  | v :: vs, s :: ss => NewIn H v s ∧ (∀ xs, s = SV.new xs → ∀ (j : Nat) w ys, vs[j]? = some w → ss[j]? = some (SV.new ys) → w ≠ v) ∧ NewAll H vs ss
  | _, _ => True
def OutA (W : Wd) (F : Hp) (mp : Option Addr) (ρ : PS) (σ : L2.St) (H : Hp) (Φ : Nat → List SV → Prop) (Q : List V → Hp → Prop) : Prop :=
  ∀ n' F' vs ss H', Φ n' ss → Step mp F H F' H' → Rel W F' mp n' ρ σ H' → AOk W F' mp σ H' vs ss → NewAll H vs ss → Q vs H'
def PAs (W : Wd) (ta : TA) (n : Nat) (ρ : PS) (Φ : Nat → List SV → Prop) : Prop := ∀ F mp σ H Q, Rel W F mp n ρ σ H → OutA W F mp ρ σ H Φ Q → ta σ H Q
def PCa (W : Wd) (r : List V → Hp → VK → Prop) (n : Nat) (ρ : PS) (ss : List SV) (Φ : Nat → SV → Prop) : Prop := ∀ F mp σ H Q vs, Rel W F mp n ρ σ H → AOk W F mp σ H vs ss → Out W F mp ρ σ H Φ Q → r vs H Q
def PB (W : Wd) (tt : TT) (n : Nat) (ρ : PS) (Ψ : Nat → Bool → Prop) : Prop := ∀ F mp σ H (Q : Bool → Hp → Prop), Rel W F mp n ρ σ H → (∀ n' F' b H', Ψ n' b → Step mp F H F' H' → Rel W F' mp n' ρ σ H' → Q b H') → tt σ H Q
/-- a test -/
def Br (b : Bool) (A B : Prop) : Prop := (b = true → A) ∧ (b = false → B)
theorem br_t {A B : Prop} (h : A) : Br true A B := ⟨fun _ => h, fun z => by cases z⟩
theorem br_f {A B : Prop} (h : B) : Br false A B := ⟨fun z => (by cases z), fun _ => h⟩
theorem br_nt {A B : Prop} (h : B) : Br (!true) A B := ⟨fun z => (by cases z), fun _ => h⟩
theorem br_nf {A B : Prop} (h : A) : Br (!false) A B := ⟨fun _ => h, fun z => by cases z⟩
theorem br_d {p A B : Prop} [Decidable p] (h1 : p → A) (h2 : ¬ p → B) : Br (decide p) A B := ⟨fun z => h1 (of_decide_eq_true z), fun z => h2 (of_decide_eq_false z)⟩
theorem br_n {p A B : Prop} [Decidable p] (h1 : p → B) (h2 : ¬ p → A) : Br (!decide p) A B := ⟨fun z => h2 (of_decide_eq_false (by simpa using z)), fun z => h1 (of_decide_eq_true (by simpa using z))⟩
theorem br_b {b : Bool} {A B : Prop} (h1 : b = true → A) (h2 : b = false → B) : Br b A B := ⟨h1, h2⟩
theorem Br.ite {b : Bool} {A B : Prop} (h : Br b A B) : if b = true then A else B := by
  cases b with
  | true => exact h.1 rfl
  | false => exact h.2 rfl
def IsB (s : SV) (Ψ : Bool → Prop) : Prop := ∃ b, s = .d (.bool b) ∧ Ψ b
theorem isB {b : Bool} {Ψ : Bool → Prop} (h : Ψ b) : IsB (.d (.bool b)) Ψ := ⟨b, rfl, h⟩
def IsI (s : SV) (P : Int → Prop) : Prop := ∃ i, s = .d (.int i) ∧ P i
theorem isI {i : Int} {P : Int → Prop} (h : P i) : IsI (.d (.int i)) P := ⟨i, rfl, h⟩
def IsT (s : SV) (P : List PyData → Prop) : Prop := ∃ xs, s = .d (.tuple xs) ∧ P xs
theorem isT {xs : List PyData} {P : List PyData → Prop} (h : P xs) : IsT (.d (.tuple xs)) P := ⟨xs, rfl, h⟩
def IsLs (s : SV) (P : List PyData → Prop) : Prop := ∃ xs, s = .d (.list xs) ∧ P xs
theorem isLs {xs : List PyData} {P : List PyData → Prop} (h : P xs) : IsLs (.d (.list xs)) P := ⟨xs, rfl, h⟩
inductive GetAt : PS → Nat → SV → Prop
  | zero {s r} : GetAt (some s :: r) 0 s
  | succ {x r k s} : GetAt r k s → GetAt (x :: r) (k + 1) s
theorem GetAt.get {ρ : PS} {k : Nat} {s : SV} (h : GetAt ρ k s) : ρ[k]? = some (some s) := by
  induction h with
  | zero => rfl
  | succ _ ih => simpa using ih
inductive SetAt : PS → Nat → Option SV → PS → Prop
  | zero {x s r} : SetAt (x :: r) 0 s (s :: r)
  | succ {x r k s r'} : SetAt r k s r' → SetAt (x :: r) (k + 1) s (x :: r')
theorem SetAt.set {ρ ρ' : PS} {k : Nat} {s : Option SV} (h : SetAt ρ k s ρ') : ρ' = ρ.set k s ∧ k < ρ.length := by
  induction h with
  | zero => exact ⟨rfl, Nat.zero_lt_succ _⟩
  | succ _ ih => exact ⟨by rw [ih.1]; rfl, Nat.succ_lt_succ ih.2⟩
section
variable {W : Wd} {n : Nat} {ρ ρ' : PS} {Φ : Nat → SV → Prop} {Ψ : Nat → Bool → Prop} {ta tb te : TE} {tt c d : TT} {k : Nat} {s s1 s2 : SV} {i j : Int}
theorem Out.pure {F H : Hp} {mp : Option Addr} {σ : L2.St} {Q : VK} {v : V} (o : Out W F mp ρ σ H Φ Q) (R : Rel W F mp n ρ σ H) (h : Φ n s) (hv : VOk W F mp σ H v s) (hn : ∀ xs, s ≠ .new xs) : Q v H := by
  refine o n F v s H h (Step.refl _ _ _) R hv ?_
  cases s with
  | new xs => exact absurd rfl (hn xs)
  | _ => trivial
theorem Out.int {F H : Hp} {mp : Option Addr} {σ : L2.St} {Q : VK} (o : Out W F mp ρ σ H Φ Q) (R : Rel W F mp n ρ σ H) (h : Φ n (.d (.int i))) : Q (.int i) H := o.pure R h (.int i) fun _ z => by cases z
theorem Out.bool {F H : Hp} {mp : Option Addr} {σ : L2.St} {Q : VK} {b : Bool} (o : Out W F mp ρ σ H Φ Q) (R : Rel W F mp n ρ σ H) (h : Φ n (.d (.bool b))) : Q (.bl b) H := o.pure R h (.bl b) fun _ z => by cases z
theorem Out.str {F H : Hp} {mp : Option Addr} {σ : L2.St} {Q : VK} {x : Str} (o : Out W F mp ρ σ H Φ Q) (R : Rel W F mp n ρ σ H) (h : Φ n (.d (.str x))) : Q (.str x) H := o.pure R h (.str x) fun _ z => by cases z
theorem Out.non {F H : Hp} {mp : Option Addr} {σ : L2.St} {Q : VK} (o : Out W F mp ρ σ H Φ Q) (R : Rel W F mp n ρ σ H) (h : Φ n (.d .none)) : Q .non H := o.pure R h .non fun _ z => by cases z
/-- from a later place on -/
theorem Out.later {F H F1 H1 : Hp} {mp : Option Addr} {σ : L2.St} {Q : VK} (o : Out W F mp ρ σ H Φ Q) (t : Step mp F H F1 H1) : Out W F1 mp ρ σ H1 Φ Q := fun n' F' v s H' h t' R hv hn =>
  o n' F' v s H' h (t.trans t') R hv (by
    cases s with
    | new xs =>
      intro a e
      have z := hn a e
      cases q : H a with
      | none => rfl
      | some u => exact absurd z (t.grow a (by rw [q]; intro y; cases y))
    | _ => trivial)
theorem dI {F H : Hp} {mp : Option Addr} {σ : L2.St} {v : V} (h : VOk W F mp σ H v (.d (.int i))) : v = .int i := by
  cases h
  rfl
theorem dB {F H : Hp} {mp : Option Addr} {σ : L2.St} {v : V} {b : Bool} (h : VOk W F mp σ H v (.d (.bool b))) : v = .bl b := by
  cases h
  rfl
theorem dS {F H : Hp} {mp : Option Addr} {σ : L2.St} {v : V} {x : Str} (h : VOk W F mp σ H v (.d (.str x))) : v = .str x := by
  cases h
  rfl
theorem dN {F H : Hp} {mp : Option Addr} {σ : L2.St} {v : V} (h : VOk W F mp σ H v (.d .none)) : v = .non := by
  cases h
  rfl
theorem dL {F H : Hp} {mp : Option Addr} {σ : L2.St} {v : V} {ds : List PyData} (h : VOk W F mp σ H v (.d (.list ds))) : ∃ a vs, v = .ref a ∧ SqL W.K F a vs ∧ DpAll W.K F vs ds := by
  cases h with
  | lst h g => exact ⟨_, _, rfl, h, g⟩
theorem dT {F H : Hp} {mp : Option Addr} {σ : L2.St} {v : V} {ds : List PyData} (h : VOk W F mp σ H v (.d (.tuple ds))) : ∃ a vs, v = .ref a ∧ SqT W.K F a vs ∧ DpAll W.K F vs ds := by
  cases h with
  | tup h g => exact ⟨_, _, rfl, h, g⟩
theorem DpAll.len {K : PySem.W.Frag} {H : Hp} : ∀ {vs : List V} {ds : List PyData}, DpAll K H vs ds → vs.length = ds.length
  | _, _, .nil => rfl
  | _, _, .cons _ g => congrArg (· + 1) (DpAll.len g)
theorem DpAll.at_ {K : PySem.W.Frag} {H : Hp} : ∀ {vs : List V} {ds : List PyData} {i : Nat} {d : PyData}, DpAll K H vs ds → ds[i]? = some d → ∃ v, vs[i]? = some v ∧ Dp K H v d
  | _, _, 0, _, .cons h g, e => by
    cases e
    exact ⟨_, rfl, h⟩
  | _, _, i + 1, _, .cons h g, e => by
    obtain ⟨v, h1, h2⟩ := DpAll.at_ (i := i) g (by simpa using e)
    exact ⟨v, by simpa using h1, h2⟩
theorem DpAll.at' {K : PySem.W.Frag} {H : Hp} : ∀ {vs : List V} {ds : List PyData} {i : Nat} {v : V}, DpAll K H vs ds → vs[i]? = some v → ∃ d, ds[i]? = some d ∧ Dp K H v d
  | _, _, 0, _, .cons h g, e => by
    cases e
    exact ⟨_, rfl, h⟩
  | _, _, i + 1, _, .cons h g, e => by
    obtain ⟨v, h1, h2⟩ := DpAll.at' (i := i) g (by simpa using e)
    exact ⟨v, by simpa using h1, h2⟩
theorem DpAll.append {K : PySem.W.Frag} {H : Hp} : ∀ {vs ws : List V} {ds es : List PyData}, DpAll K H vs ds → DpAll K H ws es → DpAll K H (vs ++ ws) (ds ++ es)
  | _, _, _, _, .nil, g => g
  | _, _, _, _, .cons h r, g => .cons h (DpAll.append r g)
theorem DpAll.drop {K : PySem.W.Frag} {H : Hp} : ∀ {vs : List V} {ds : List PyData} (k : Nat), DpAll K H vs ds → DpAll K H (vs.drop k) (ds.drop k)
  | _, _, 0, h => h
  | _, _, _ + 1, .nil => .nil
  | _, _, k + 1, .cons _ g => DpAll.drop k g
theorem DpAll.take {K : PySem.W.Frag} {H : Hp} : ∀ {vs : List V} {ds : List PyData} (k : Nat), DpAll K H vs ds → DpAll K H (vs.take k) (ds.take k)
  | _, _, 0, _ => .nil
  | _, _, _ + 1, .nil => .nil
  | _, _, k + 1, .cons h g => .cons h (DpAll.take k g)
theorem DpAll.set {K : PySem.W.Frag} {H : Hp} {v : V} {d : PyData} (h : Dp K H v d) : ∀ {vs : List V} {ds : List PyData} (k : Nat), DpAll K H vs ds → DpAll K H (vs.set k v) (ds.set k d)
  | _, _, _, .nil => .nil
  | _, _, 0, .cons _ g => .cons h g
  | _, _, k + 1, .cons h' g => .cons h' (DpAll.set h k g)
theorem DpAll.reverse {K : PySem.W.Frag} {H : Hp} : ∀ {vs : List V} {ds : List PyData}, DpAll K H vs ds → DpAll K H vs.reverse ds.reverse
  | _, _, .nil => .nil
  | _, _, .cons h g => by
    rw [List.reverse_cons, List.reverse_cons]
    exact DpAll.append (DpAll.reverse g) (.cons h .nil)
theorem SqL.up {K : PySem.W.Frag} {F H : Hp} {a : Addr} {vs : List V} (s : Same F H) (h : SqL K F a vs) : SqL K H a vs := s.seq h
theorem SqT.up {K : PySem.W.Frag} {F H : Hp} {a : Addr} {vs : List V} (s : Same F H) (h : SqT K F a vs) : SqT K H a vs := SqT.same (s a) h
/-- a list, told as data or this def's own -/
inductive AsL : SV → List PyData → Prop
  | d {xs} : AsL (.d (.list xs)) xs
  | own {xs} : AsL (.own xs) xs
  | new {xs} : AsL (.new xs) xs
theorem AsL.at_ {F H : Hp} {mp : Option Addr} {σ : L2.St} {v : V} {xs : List PyData} (z : AsL s xs) (S : Same F H) (h : VOk W F mp σ H v s) : ∃ a vs, v = .ref a ∧ SqL W.K H a vs ∧ DpAll W.K F vs xs := by
  cases z with
  | d => obtain ⟨a, vs, e, h1, h2⟩ := dL h; exact ⟨a, vs, e, SqL.up S h1, h2⟩
  | own => obtain ⟨a, e, ⟨vs, h1, h2⟩, _⟩ := h; exact ⟨a, vs, e, sql_of h1, h2⟩
  | new => obtain ⟨a, e, ⟨vs, h1, h2⟩, _⟩ := h; exact ⟨a, vs, e, sql_of h1, h2⟩

/-! ### expressions -/
theorem px_var (g : GetAt ρ k s) (h : Φ n s) : PX W (tVar k) n ρ Φ := fun F mp σ H Q R o => by
  obtain ⟨v, h1, h2⟩ := R.slots _ _ g.get
  refine ⟨v, h1, ?_⟩
  cases s with
  | new xs => exact absurd g.get (R.nonew k xs)
  | _ => exact o.pure R h h2 fun _ z => by cases z
theorem px_int (h : Φ n (.d (.int i))) : PX W (tC (.int i)) n ρ Φ := fun F mp σ H Q R o => o.int R h
theorem px_bl {b : Bool} (h : Φ n (.d (.bool b))) : PX W (tC (.bl b)) n ρ Φ := fun F mp σ H Q R o => o.bool R h
theorem px_str {x : Str} (h : Φ n (.d (.str x))) : PX W (tC (.str x)) n ρ Φ := fun F mp σ H Q R o => o.str R h
theorem px_non (h : Φ n (.d .none)) : PX W (tC .non) n ρ Φ := fun F mp σ H Q R o => o.non R h
theorem px_op {r : R2} (h : PX W ta n ρ fun n1 s1 => PX W tb n1 ρ fun n2 s2 => POp W r n2 ρ s1 s2 Φ) : PX W (tOp r ta tb) n ρ Φ := fun F mp σ H Q R o =>
  h F mp σ H _ R fun n1 F1 v1 s1 H1 h1 t1 R1 hv1 _ => h1 F1 mp σ H1 _ R1 fun n2 F2 v2 s2 H2 h2 t2 R2 hv2 _ =>
    h2 F2 mp σ H2 Q v1 v2 R2 (hv1.step R1.memAt t2) hv2 (o.later (t1.trans t2))
theorem px_un {r : V → Hp → VK → Prop} (h : PX W ta n ρ fun n1 s1 => PUn W r n1 ρ s1 Φ) : PX W (tUn r ta) n ρ Φ := fun F mp σ H Q R o =>
  h F mp σ H _ R fun n1 F1 v1 s1 H1 h1 t1 R1 hv1 _ => h1 F1 mp σ H1 Q v1 R1 hv1 (o.later t1)
theorem pu_I {f : Int → Int} (h : Φ n (.d (.int (f i)))) : PUn W (rU fun i => .int (f i)) n ρ (.d (.int i)) Φ := fun F mp σ H Q v R hv o => by
  rw [dI hv]
  exact ⟨i, rfl, o.int R h⟩
theorem po_I0 {f : Int → Int → Int} (h : Φ n (.d (.int (f i j)))) : POp W (rI0 fun i j => .int (f i j)) n ρ (.d (.int i)) (.d (.int j)) Φ := fun F mp σ H Q v1 v2 R h1 h2 o => by
  rw [dI h1, dI h2]
  exact ⟨i, j, rfl, rfl, o.int R h⟩
theorem po_B0 {f : Int → Int → Bool} (h : Φ n (.d (.bool (f i j)))) : POp W (rI0 fun i j => .bl (f i j)) n ρ (.d (.int i)) (.d (.int j)) Φ := fun F mp σ H Q v1 v2 R h1 h2 o => by
  rw [dI h1, dI h2]
  exact ⟨i, j, rfl, rfl, o.bool R h⟩
theorem po_I {C : Int → Int → Prop} {f : Int → Int → Int} (hc : C i j) (h : Φ n (.d (.int (f i j)))) : POp W (rI C fun i j => .int (f i j)) n ρ (.d (.int i)) (.d (.int j)) Φ := fun F mp σ H Q v1 v2 R h1 h2 o => by
  rw [dI h1, dI h2]
  exact ⟨i, j, rfl, rfl, hc, o.int R h⟩
theorem po_eqI (h : Φ n (.d (.bool (decide (i = j))))) : POp W rEq n ρ (.d (.int i)) (.d (.int j)) Φ := fun F mp σ H Q v1 v2 R h1 h2 o => by
  rw [dI h1, dI h2]
  exact r_eqI (o.bool R h)
theorem po_neI (h : Φ n (.d (.bool (!decide (i = j))))) : POp W rNe n ρ (.d (.int i)) (.d (.int j)) Φ := fun F mp σ H Q v1 v2 R h1 h2 o => by
  rw [dI h1, dI h2]
  exact r_neI (o.bool R h)
theorem po_eqS {x y : Str} (h : Φ n (.d (.bool (decide (x = y))))) : POp W rEq n ρ (.d (.str x)) (.d (.str y)) Φ := fun F mp σ H Q v1 v2 R h1 h2 o => by
  rw [dS h1, dS h2]
  exact r_eqS (o.bool R h)
theorem po_eqD {d e : PyData} {K : PySem.W.Frag} (eK : K = W.K) (s1 : SeqAt.shaped d = true) (s2 : SeqAt.shaped e = true) (h : Φ n (.d (.bool (PyData.eqv d e)))) : POp W (rEqD K) n ρ (.d d) (.d e) Φ := fun F mp σ H Q v1 v2 R h1 h2 o => eK ▸
  ⟨d, e, Dp.same R.sub h1, Dp.same R.sub h2, s1, s2, o.bool R h⟩
theorem po_neD {d e : PyData} {K : PySem.W.Frag} (eK : K = W.K) (s1 : SeqAt.shaped d = true) (s2 : SeqAt.shaped e = true) (h : Φ n (.d (.bool (!PyData.eqv d e)))) : POp W (rNeD K) n ρ (.d d) (.d e) Φ := fun F mp σ H Q v1 v2 R h1 h2 o => eK ▸
  ⟨d, e, Dp.same R.sub h1, Dp.same R.sub h2, s1, s2, o.bool R h⟩
theorem po_and1 (h : Φ n (.d (.int (i % 2)))) : POp W rAnd1 n ρ (.d (.int i)) (.d (.int 1)) Φ := fun F mp σ H Q v1 v2 R h1 h2 o => by
  rw [dI h1, dI h2]
  exact r_and1 (o.int R h)
theorem px_bits (h : PX W te n ρ fun n1 s => IsI s fun i => Φ n1 (.d (.int (Builtin.Int.intBits i : Nat)))) : PX W (tBits te) n ρ Φ := fun F mp σ H Q R o =>
  h F mp σ H _ R fun n1 F1 v1 s1 H1 h1 t1 R1 hv1 _ => by
    obtain ⟨i, rfl, h2⟩ := h1
    rw [dI hv1]
    exact ⟨i, rfl, (o.later t1).int R1 h2⟩
theorem ix_at {xs : List PyData} {vs : List V} {K : PySem.W.Frag} {F : Hp} {d : PyData} (h : DpAll K F vs xs) (g : atI xs i = some d) : ∃ v, atI vs i = some v ∧ Dp K F v d := by
  unfold atI at g ⊢
  rw [DpAll.len h]
  obtain ⟨j, e1, e2⟩ := Option.bind_eq_some_iff.mp g
  obtain ⟨v, h1, h2⟩ := DpAll.at_ h e2
  exact ⟨v, by rw [e1]; exact h1, h2⟩
theorem po_ixL {xs : List PyData} {d : PyData} {K : PySem.W.Frag} (eK : K = W.K) (z : AsL s xs) (g : atI xs i = some d) (h : Φ n (.d d)) : POp W (rIxL K) n ρ s (.d (.int i)) Φ := fun F mp σ H Q v1 v2 R h1 h2 o => by
  subst eK
  obtain ⟨a, vs, rfl, h3, h4⟩ := z.at_ R.sub h1
  obtain ⟨v, e, hd⟩ := ix_at h4 g
  rw [dI h2]
  exact r_ixL h3 e (o.pure (s := .d d) R h hd fun _ z => by cases z)
theorem po_ixT {xs : List PyData} {d : PyData} {K : PySem.W.Frag} (eK : K = W.K) (g : atI xs i = some d) (h : Φ n (.d d)) : POp W (rIxT K) n ρ (.d (.tuple xs)) (.d (.int i)) Φ := fun F mp σ H Q v1 v2 R h1 h2 o => by
  subst eK
  obtain ⟨a, vs, rfl, h3, h4⟩ := dT h1
  obtain ⟨v, e, hd⟩ := ix_at h4 g
  rw [dI h2]
  exact r_ixT (SqT.up R.sub h3) e (o.pure (s := .d d) R h hd fun _ z => by cases z)
/-! tests -/
theorem pb_test (h : PX W te n ρ fun n1 s => IsB s (Ψ n1)) : PB W (tTest te) n ρ Ψ := fun F mp σ H Q R o =>
  h F mp σ H _ R fun n1 F1 v1 s1 H1 h1 t1 R1 hv1 _ => by
    obtain ⟨b, rfl, h2⟩ := h1
    exact ⟨b, dB hv1, o n1 F1 b H1 h2 t1 R1⟩
theorem pb_B (h : PX W te n ρ fun n1 s => IsB s (Ψ n1)) : PB W (tB te) n ρ Ψ := fun F mp σ H Q R o =>
  h F mp σ H _ R fun n1 F1 v1 s1 H1 h1 t1 R1 hv1 _ => by
    obtain ⟨b, rfl, h2⟩ := h1
    exact ⟨b, dB hv1, o n1 F1 b H1 h2 t1 R1⟩
theorem pb_and (h : PB W c n ρ fun n1 b => Br b (PB W d n1 ρ Ψ) (Ψ n1 false)) : PB W (tAnd c d) n ρ Ψ := fun F mp σ H Q R o =>
  h F mp σ H _ R fun n1 F1 b H1 h1 t1 R1 => by
    cases b with
    | true => exact (h1.1 rfl) F1 mp σ H1 Q R1 fun n2 F2 b H2 h2 t2 R2 => o n2 F2 b H2 h2 (t1.trans t2) R2
    | false => exact o n1 F1 false H1 (h1.2 rfl) t1 R1
theorem pb_or (h : PB W c n ρ fun n1 b => Br b (Ψ n1 true) (PB W d n1 ρ Ψ)) : PB W (tOr c d) n ρ Ψ := fun F mp σ H Q R o =>
  h F mp σ H _ R fun n1 F1 b H1 h1 t1 R1 => by
    cases b with
    | true => exact o n1 F1 true H1 (h1.1 rfl) t1 R1
    | false => exact (h1.2 rfl) F1 mp σ H1 Q R1 fun n2 F2 b H2 h2 t2 R2 => o n2 F2 b H2 h2 (t1.trans t2) R2
theorem pb_not (h : PB W c n ρ fun n1 b => Ψ n1 (!b)) : PB W (tNot c) n ρ Ψ := fun F mp σ H Q R o =>
  h F mp σ H _ R fun n1 F1 b H1 h1 t1 R1 => o n1 F1 (!b) H1 h1 t1 R1
theorem pb_yes (h : Ψ n true) : PB W tYes n ρ Ψ := fun F mp σ H Q R o => o n F true H h (Step.refl _ _ _) R
theorem px_andV (h : PX W ta n ρ fun n1 s => IsB s fun b => Br b (PX W tb n1 ρ Φ) (Φ n1 (.d (.bool false)))) : PX W (tAndV ta tb) n ρ Φ := fun F mp σ H Q R o =>
  h F mp σ H _ R fun n1 F1 v1 s1 H1 h1 t1 R1 hv1 _ => by
    obtain ⟨b, rfl, h2⟩ := h1
    refine ⟨b, dB hv1, Br.ite ?_⟩
    exact ⟨fun z => h2.1 z F1 mp σ H1 Q R1 (o.later t1), fun z => (o.later t1).bool R1 (h2.2 z)⟩
theorem px_orV (h : PX W ta n ρ fun n1 s => IsB s fun b => Br b (Φ n1 (.d (.bool true))) (PX W tb n1 ρ Φ)) : PX W (tOrV ta tb) n ρ Φ := fun F mp σ H Q R o =>
  h F mp σ H _ R fun n1 F1 v1 s1 H1 h1 t1 R1 hv1 _ => by
    obtain ⟨b, rfl, h2⟩ := h1
    refine ⟨b, dB hv1, Br.ite ?_⟩
    exact ⟨fun z => (o.later t1).bool R1 (h2.1 z), fun z => h2.2 z F1 mp σ H1 Q R1 (o.later t1)⟩
theorem px_notV (h : PX W ta n ρ fun n1 s => IsB s fun b => Φ n1 (.d (.bool (!b)))) : PX W (tNotV ta) n ρ Φ := fun F mp σ H Q R o =>
  h F mp σ H _ R fun n1 F1 v1 s1 H1 h1 t1 R1 hv1 _ => by
    obtain ⟨b, rfl, h2⟩ := h1
    exact ⟨b, dB hv1, (o.later t1).bool R1 h2⟩
theorem px_if (h : PB W c n ρ fun n1 b => Br b (PX W ta n1 ρ Φ) (PX W tb n1 ρ Φ)) : PX W (tIf c ta tb) n ρ Φ := fun F mp σ H Q R o =>
  h F mp σ H _ R fun n1 F1 b H1 h1 t1 R1 => Br.ite ⟨fun z => h1.1 z F1 mp σ H1 Q R1 (o.later t1), fun z => h1.2 z F1 mp σ H1 Q R1 (o.later t1)⟩
end
end GB
namespace GB
open PySem PySem.Spec PyProof.Rows L2
section
variable {W : Wd} {n : Nat} {ρ ρ' : PS} {Φ : Nat → SV → Prop} {Ψ : Nat → Bool → Prop} {ΦA : Nat → List SV → Prop} {ta tb te : TE} {tr tA : TA} {tt c d : TT} {k : Nat} {s s1 s2 : SV} {ss : List SV} {i j : Int}
/-! ### arguments -/
theorem NewAll.at_ {H : Hp} : ∀ {vs : List V} {ss : List SV} {j : Nat} {w : V} {s : SV}, NewAll H vs ss → vs[j]? = some w → ss[j]? = some s → NewIn H w s
  | _ :: _, _ :: _, 0, _, _, h, e1, e2 => by
    cases e1
    cases e2
    exact h.1
  | _ :: _, _ :: _, j + 1, _, _, h, e1, e2 => NewAll.at_ (j := j) h.2.2 (by simpa using e1) (by simpa using e2)
theorem NewIn.back {H H1 : Hp} {v : V} {s : SV} (g : ∀ a, H a ≠ none → H1 a ≠ none) (h : NewIn H1 v s) : NewIn H v s := by
  cases s with
  | new xs =>
    intro a e
    have z := h a e
    cases q : H a with
    | none => rfl
    | some u => exact absurd z (g a (by rw [q]; intro y; cases y))
  | _ => trivial
theorem NewAll.back {H H1 : Hp} (g : ∀ a, H a ≠ none → H1 a ≠ none) : ∀ {vs : List V} {ss : List SV}, NewAll H1 vs ss → NewAll H vs ss
  | [], [], _ => trivial
  | [], _ :: _, _ => trivial
  | _ :: _, [], _ => trivial
  | _ :: _, _ :: _, h => ⟨NewIn.back g h.1, h.2.1, NewAll.back g h.2.2⟩
theorem AOk.at_ {F H : Hp} {mp : Option Addr} {σ : L2.St} : ∀ {vs : List V} {ss : List SV} {j : Nat} {s : SV}, AOk W F mp σ H vs ss → ss[j]? = some s → ∃ v, vs[j]? = some v ∧ VOk W F mp σ H v s
  | _, _, 0, _, .cons h g, e => by
    cases e
    exact ⟨_, rfl, h⟩
  | _, _, j + 1, _, .cons h g, e => by
    obtain ⟨v, h1, h2⟩ := AOk.at_ (j := j) g (by simpa using e)
    exact ⟨v, by simpa using h1, h2⟩
theorem pa_nil' (h : ΦA n []) : PAs W tNil n ρ ΦA := fun F mp σ H Q R o => o n F [] [] H h (Step.refl _ _ _) R .nil trivial
theorem pa_cons' (h : PX W te n ρ fun n1 s => PAs W tr n1 ρ fun n2 ss => ΦA n2 (s :: ss)) : PAs W (tCons te tr) n ρ ΦA := fun F mp σ H Q R o =>
  h F mp σ H _ R fun n1 F1 v s H1 h1 t1 R1 hv hn => h1 F1 mp σ H1 _ R1 fun n2 F2 vs ss H2 h2 t2 R2 hvs hns => by
    refine o n2 F2 (v :: vs) (s :: ss) H2 h2 (t1.trans t2) R2 (.cons (hv.step R1.memAt t2) hvs) ⟨hn, fun xs e j w ys e1 e2 => ?_, hns.back t1.grow⟩
    subst e
    obtain ⟨a, rfl, ⟨zs, q, _⟩, _⟩ := hv
    have z := NewAll.at_ hns e1 e2
    intro y
    subst y
    rw [z a rfl] at q
    cases q
inductive DAll : List SV → List PyData → Prop
  | nil : DAll [] []
  | cons {x ss ds} : DAll ss ds → DAll (.d x :: ss) (x :: ds)
theorem DAll.ok {F H : Hp} {mp : Option Addr} {σ : L2.St} {vs : List V} {ds : List PyData} (z : DAll ss ds) (h : AOk W F mp σ H vs ss) : DpAll W.K F vs ds := by
  induction z generalizing vs with
  | nil => cases h; exact .nil
  | cons _ ih => cases h with | cons a b => exact .cons a (ih b)
theorem small_of {m : Nat} (h : m ≤ 100000) : m ≤ sizeLine := Nat.le_trans h (by decide)
def MkD (ss : List SV) (P : List PyData → Prop) : Prop := ∃ ds, DAll ss ds ∧ ds.length ≤ 100000 ∧ P ds
theorem mkD {ds : List PyData} {P : List PyData → Prop} (z : DAll ss ds) (l : Nat.ble ds.length 100000 = true) (h : P ds) : MkD ss P := ⟨ds, z, Nat.le_of_ble_eq_true l, h⟩
theorem Out.tup {F H : Hp} {mp : Option Addr} {σ : L2.St} {Q : VK} {vs : List V} {ds : List PyData} {p : Addr} (o : Out W F mp ρ σ H Φ Q) (R : Rel W F mp n ρ σ H) (h : Φ n (.d (.tuple ds))) (hd : DpAll W.K F vs ds) (hp : H p = none) : Q (.ref p) (upd H p (.tup vs)) := by
  obtain ⟨R2, t⟩ := R.alloc (o := .tup vs) hp
  exact o n _ _ _ _ h t R2 (.tup (sqt_of upd_same) (DpAll.same t.ext hd)) trivial
theorem Out.lst {F H : Hp} {mp : Option Addr} {σ : L2.St} {Q : VK} {vs : List V} {ds : List PyData} {p : Addr} (o : Out W F mp ρ σ H Φ Q) (R : Rel W F mp n ρ σ H) (h : Φ n (.d (.list ds))) (hd : DpAll W.K F vs ds) (hp : H p = none) : Q (.ref p) (upd H p (.lst vs)) := by
  obtain ⟨R2, t⟩ := R.alloc (o := .lst vs) hp
  exact o n _ _ _ _ h t R2 (.lst (sql_of upd_same) (DpAll.same t.ext hd)) trivial
theorem Out.new {F H : Hp} {mp : Option Addr} {σ : L2.St} {Q : VK} {vs : List V} {ds : List PyData} {p : Addr} (o : Out W F mp ρ σ H Φ Q) (R : Rel W F mp n ρ σ H) (h : Φ n (.new ds)) (hd : DpAll W.K F vs ds) (hp : H p = none) : Q (.ref p) (upd H p (.lst vs)) := by
  obtain ⟨R2, t⟩ := R.allocN (o := .lst vs) hp
  exact o n _ _ _ _ h t R2 ⟨p, rfl, ⟨vs, upd_same, hd⟩, R.sub.free hp, R.h0 hp⟩ fun a e => by cases e; exact hp
theorem px_tup (h : PAs W tA n ρ fun n1 ss => MkD ss fun ds => Φ n1 (.d (.tuple ds))) : PX W (tTup tA) n ρ Φ := fun F mp σ H Q R o =>
  h F mp σ H _ R fun n1 F1 vs ss H1 h1 t1 R1 hvs _ => by
    obtain ⟨ds, z, l, h2⟩ := h1
    have hd := z.ok hvs
    exact ⟨small_of (by rw [DpAll.len hd]; exact l), fun p hp => (o.later t1).tup R1 h2 hd hp⟩
theorem px_lst (h : PAs W tA n ρ fun n1 ss => MkD ss fun ds => Φ n1 (.d (.list ds))) : PX W (tLst tA) n ρ Φ := fun F mp σ H Q R o =>
  h F mp σ H _ R fun n1 F1 vs ss H1 h1 t1 R1 hvs _ => by
    obtain ⟨ds, z, l, h2⟩ := h1
    have hd := z.ok hvs
    exact ⟨small_of (by rw [DpAll.len hd]; exact l), fun p hp => (o.later t1).lst R1 h2 hd hp⟩
end
/-- a list that its def changes -/
def tLstN (t : TA) : TE := tLst t
theorem pe_lstN {X : Cx} {e : Expr} {t : TA} (h : PE X e (tLst t)) : PE X e (tLstN t) := h
section
variable {W : Wd} {n : Nat} {ρ : PS} {Φ : Nat → SV → Prop} {tA : TA}
theorem px_new (h : PAs W tA n ρ fun n1 ss => MkD ss fun ds => Φ n1 (.new ds)) : PX W (tLstN tA) n ρ Φ := fun F mp σ H Q R o =>
  h F mp σ H _ R fun n1 F1 vs ss H1 h1 t1 R1 hvs _ => by
    obtain ⟨ds, z, l, h2⟩ := h1
    have hd := z.ok hvs
    exact ⟨small_of (by rw [DpAll.len hd]; exact l), fun p hp => (o.later t1).new R1 h2 hd hp⟩
end
section
variable {W : Wd} {n : Nat} {ρ ρ' : PS} {Φ : Nat → SV → Prop} {Ψ : Nat → Bool → Prop} {ΦA : Nat → List SV → Prop} {ta tb te : TE} {tr tA : TA} {tt c d : TT} {k : Nat} {s s1 s2 : SV} {ss : List SV} {i j : Int}
/-! ### calls -/
abbrev PSp := Nat → List SV → (Nat → SV → Prop) → Prop
inductive VSs (K : PySem.W.Frag) (F : Hp) (mp : Option Addr) : List V → List SV → Prop
  | nil : VSs K F mp [] []
  | cons {v s vs ss} : VS K F mp v s → VSs K F mp vs ss → VSs K F mp (v :: vs) (s :: ss)
theorem VSs.len {K : PySem.W.Frag} {F : Hp} {mp : Option Addr} {vs : List V} {ss : List SV} (h : VSs K F mp vs ss) : vs.length = ss.length := by
  induction h with
  | nil => rfl
  | cons _ _ ih => simp [ih]
def spU (K : PySem.W.Frag) (S : PSp) : Sp := fun vs H Q _ => ∃ F mp n ss Φ, Same F H ∧ (∀ p, mp = some p → F p = none ∧ DrawsF K F p n H) ∧ VSs K F mp vs ss ∧ S n ss Φ ∧
  ∀ n' s F' v H', Φ n' s → Step mp F H F' H' → Same F' H' → (∀ p, mp = some p → DrawsF K F' p n' H') → VS K F' mp v s → Q v H'
def smp : List SV → Bool
  | [] => true
  | .d _ :: r => smp r
  | .mem :: r => smp r
  | .raw _ :: r => smp r
  | _ => false
theorem smp_ok {F H : Hp} {mp : Option Addr} {σ : L2.St} : ∀ {ss : List SV} {vs : List V}, smp ss = true → AOk W F mp σ H vs ss → VSs W.K F mp vs ss
  | [], _, _, .nil => .nil
  | .d _ :: r, _, e, .cons a b => .cons a (smp_ok (ss := r) e b)
  | .mem :: r, _, e, .cons a b => .cons a (smp_ok (ss := r) e b)
  | .raw _ :: r, _, e, .cons a b => .cons a (smp_ok (ss := r) e b)
theorem VS.ok {F H : Hp} {mp : Option Addr} {σ : L2.St} {v : V} (h : VS W.K F mp v s) : VOk W F mp σ H v s ∧ ∀ xs, s ≠ .new xs := by
  cases s with
  | own xs => exact h.elim
  | new xs => exact h.elim
  | d x => exact ⟨h, fun _ z => by cases z⟩
  | mem => exact ⟨h, fun _ z => by cases z⟩
  | raw w => exact ⟨h, fun _ z => by cases z⟩
def CallS (S : PSp) (n : Nat) (ss : List SV) (Φ : Nat → SV → Prop) : Prop := smp ss = true ∧ S n ss Φ
theorem px_call {K : PySem.W.Frag} {S : PSp} {E : XK} (e : K = W.K) (h : PAs W tA n ρ fun n1 ss => CallS S n1 ss Φ) : PX W (tCall (spU K S) [] E tA) n ρ Φ := fun F mp σ H Q R o =>
  h F mp σ H _ R fun n1 F1 vs ss H1 h1 t1 R1 hvs _ => by
    subst e
    obtain ⟨z, h2⟩ := h1
    show spU W.K S (vs ++ []) H1 Q E
    rw [List.append_nil]
    refine ⟨F1, mp, n1, ss, Φ, R1.sub, fun p hp => ⟨(R1.mem p hp).1, (R1.mem p hp).2.2⟩, smp_ok z hvs, h2, fun n' s F' v H' hΦ t sub dr hv => ?_⟩
    have R2 := R1.step t sub dr
    have hv2 := VS.ok (σ := σ) (H := H') hv
    exact ((o.later t1).later t).pure R2 hΦ hv2.1 hv2.2
theorem px_cb {r : List V → Hp → VK → Prop} (h : PAs W tA n ρ fun n1 ss => PCa W r n1 ρ ss Φ) : PX W (tCB r tA) n ρ Φ := fun F mp σ H Q R o =>
  h F mp σ H _ R fun n1 F1 vs ss H1 h1 t1 R1 hvs _ => h1 F1 mp σ H1 Q vs R1 hvs (o.later t1)
theorem aok1 {F H : Hp} {mp : Option Addr} {σ : L2.St} {vs : List V} (h : AOk W F mp σ H vs [s]) : ∃ v, vs = [v] ∧ VOk W F mp σ H v s := by
  cases h with
  | cons a b => cases b; exact ⟨_, rfl, a⟩
theorem aok2 {F H : Hp} {mp : Option Addr} {σ : L2.St} {vs : List V} (h : AOk W F mp σ H vs [s1, s2]) : ∃ v w, vs = [v, w] ∧ VOk W F mp σ H v s1 ∧ VOk W F mp σ H w s2 := by
  cases h with
  | cons a b => obtain ⟨w, rfl, c⟩ := aok1 b; exact ⟨_, w, rfl, a, c⟩
theorem pc_int1 (h : Φ n (.d (.int i))) : PCa W rInt n ρ [.d (.int i)] Φ := fun F mp σ H Q vs R hv o => by
  obtain ⟨v, rfl, h1⟩ := aok1 hv
  rw [dI h1]
  exact r_int1 (o.int R h)
theorem pc_intB {b : Bool} (h : Φ n (.d (.int (if b then 1 else 0)))) : PCa W rInt n ρ [.d (.bool b)] Φ := fun F mp σ H Q vs R hv o => by
  obtain ⟨v, rfl, h1⟩ := aok1 hv
  rw [dB h1]
  exact r_intB (o.int R h)
theorem pc_max (h : Φ n (.d (.int (max i j)))) : PCa W rMaxB n ρ [.d (.int i), .d (.int j)] Φ := fun F mp σ H Q vs R hv o => by
  obtain ⟨v, w, rfl, h1, h2⟩ := aok2 hv
  rw [dI h1, dI h2]
  exact r_max (o.int R h)
theorem pc_min (h : Φ n (.d (.int (min i j)))) : PCa W rMinB n ρ [.d (.int i), .d (.int j)] Φ := fun F mp σ H Q vs R hv o => by
  obtain ⟨v, w, rfl, h1, h2⟩ := aok2 hv
  rw [dI h1, dI h2]
  exact r_min (o.int R h)
theorem pc_abs (h : Φ n (.d (.int (i.natAbs : Int)))) : PCa W rAbsB n ρ [.d (.int i)] Φ := fun F mp σ H Q vs R hv o => by
  obtain ⟨v, rfl, h1⟩ := aok1 hv
  rw [dI h1]
  exact r_abs (o.int R h)
theorem pc_lenL {K : PySem.W.Frag} {xs : List PyData} (z : AsL s xs) (e : K = W.K) (h : Φ n (.d (.int (xs.length : Int)))) : PCa W (rLenB K) n ρ [s] Φ := fun F mp σ H Q vs R hv o => by
  subst e
  obtain ⟨v, rfl, h1⟩ := aok1 hv
  obtain ⟨a, ws, rfl, h3, h4⟩ := z.at_ R.sub h1
  refine r_lenL h3 ?_
  rw [DpAll.len h4]
  exact o.int R h
theorem pc_lenT {K : PySem.W.Frag} {xs : List PyData} (e : K = W.K) (h : Φ n (.d (.int (xs.length : Int)))) : PCa W (rLenB K) n ρ [.d (.tuple xs)] Φ := fun F mp σ H Q vs R hv o => by
  subst e
  obtain ⟨v, rfl, h1⟩ := aok1 hv
  obtain ⟨a, ws, rfl, h3, h4⟩ := dT h1
  refine r_lenT (SqT.up R.sub h3) ?_
  rw [DpAll.len h4]
  exact o.int R h
theorem pc_tupL {K : PySem.W.Frag} {xs : List PyData} (z : AsL s xs) (e : K = W.K) (h : Φ n (.d (.tuple xs))) : PCa W (rTupOf K) n ρ [s] Φ := fun F mp σ H Q vs R hv o => by
  subst e
  obtain ⟨v, rfl, h1⟩ := aok1 hv
  obtain ⟨a, ws, rfl, h3, h4⟩ := z.at_ R.sub h1
  exact ⟨a, ws, rfl, .inl ⟨h3, fun l hl => o.tup R h h4 hl⟩⟩
theorem pc_tupT {K : PySem.W.Frag} {xs : List PyData} (e : K = W.K) (h : Φ n (.d (.tuple xs))) : PCa W (rTupOf K) n ρ [.d (.tuple xs)] Φ := fun F mp σ H Q vs R hv o => by
  subst e
  obtain ⟨v, rfl, h1⟩ := aok1 hv
  have h0 := h1
  obtain ⟨a, ws, rfl, h3, h4⟩ := dT h1
  exact ⟨a, ws, rfl, .inr ⟨SqT.up R.sub h3, o.pure (s := .d (.tuple xs)) R h h0 fun _ z => by cases z⟩⟩
/-! ### slices, sums of tuples -/
def cutA {α : Type} (xs : List α) (lo hi : Option Int) : List α := (xs.drop (HT.sIx xs.length 0 lo)).take (HT.sIx xs.length xs.length hi - HT.sIx xs.length 0 lo)
theorem cut_dp {K : PySem.W.Frag} {F : Hp} {vs : List V} {ds : List PyData} {lo hi : Option Int} (h : DpAll K F vs ds) : DpAll K F (cutV vs lo hi) (cutA ds lo hi) := by
  unfold cutV cutA
  rw [DpAll.len h]
  exact DpAll.take _ (DpAll.drop _ h)
def PO' (W : Wd) (to : TO) (n : Nat) (ρ : PS) (Φ : Nat → Option Int → Prop) : Prop := ∀ F mp σ H (Q : Option Int → Hp → Prop), Rel W F mp n ρ σ H → (∀ n' F' x H', Φ n' x → Step mp F H F' H' → Rel W F' mp n' ρ σ H' → Q x H') → to σ H Q
theorem po_no {Φ : Nat → Option Int → Prop} (h : Φ n none) : PO' W tNoPart n ρ Φ := fun F mp σ H Q R o => o n F none H h (Step.refl _ _ _) R
theorem po_part {Φ : Nat → Option Int → Prop} (h : PX W te n ρ fun n1 s => IsI s fun i => Φ n1 (some i)) : PO' W (tPart te) n ρ Φ := fun F mp σ H Q R o =>
  h F mp σ H _ R fun n1 F1 v s H1 h1 t1 R1 hv _ => by
    obtain ⟨i, rfl, h2⟩ := h1
    exact ⟨i, dI hv, o n1 F1 _ H1 h2 t1 R1⟩
def PSl (W : Wd) (r : V → Option Int → Option Int → Hp → VK → Prop) (n : Nat) (ρ : PS) (s : SV) (l u : Option Int) (Φ : Nat → SV → Prop) : Prop := ∀ F mp σ H Q v, Rel W F mp n ρ σ H → VOk W F mp σ H v s → Out W F mp ρ σ H Φ Q → r v l u H Q
theorem px_sl {r : V → Option Int → Option Int → Hp → VK → Prop} {to tu : TO} (h : PX W te n ρ fun n1 s => PO' W to n1 ρ fun n2 l => PO' W tu n2 ρ fun n3 u => PSl W r n3 ρ s l u Φ) : PX W (tSl r te to tu) n ρ Φ := fun F mp σ H Q R o =>
  h F mp σ H _ R fun n1 F1 v s H1 h1 t1 R1 hv _ => h1 F1 mp σ H1 _ R1 fun n2 F2 l H2 h2 t2 R2 => h2 F2 mp σ H2 _ R2 fun n3 F3 u H3 h3 t3 R3 =>
    h3 F3 mp σ H3 Q v R3 ((hv.step R1.memAt t2).step R2.memAt t3) (((o.later t1).later t2).later t3)
theorem psl_L {K : PySem.W.Frag} {xs : List PyData} {l u : Option Int} (z : AsL s xs) (e : K = W.K) (h : Φ n (.d (.list (cutA xs l u)))) : PSl W (rSlL K) n ρ s l u Φ := fun F mp σ H Q v R hv o => by
  subst e
  obtain ⟨a, ws, rfl, h3, h4⟩ := z.at_ R.sub hv
  exact r_slL h3 fun p hp => o.lst R h (cut_dp h4) hp
theorem Out.tupAt {F H H' : Hp} {mp : Option Addr} {σ : L2.St} {Q : VK} {vs : List V} {ds : List PyData} {p : Addr} (o : Out W F mp ρ σ H Φ Q) (R : Rel W F mp n ρ σ H) (h : Φ n (.d (.tuple ds))) (hd : DpAll W.K F vs ds)
    (w : (H' = H ∧ SqT W.K F p vs) ∨ (H p = none ∧ H' = upd H p (.tup vs))) : Q (.ref p) H' := by
  rcases w with ⟨rfl, w⟩ | ⟨w, rfl⟩
  · exact o.pure (s := .d (.tuple ds)) R h (.tup w hd) fun _ z => by cases z
  · exact o.tup R h hd w
theorem psl_T {K : PySem.W.Frag} {xs : List PyData} {l u : Option Int} (e : K = W.K) (h : Φ n (.d (.tuple (cutA xs l u)))) : PSl W (rSlA K) n ρ (.d (.tuple xs)) l u Φ := fun F mp σ H Q v R hv o => by
  subst e
  obtain ⟨a, ws, rfl, h3, h4⟩ := dT hv
  refine ⟨a, ws, rfl, SqT.up R.sub h3, fun w => ?_, fun _ p np => o.tup R h (cut_dp h4) np⟩
  have e : cutV ws l u = ws := by
    unfold cutV
    rw [w.1, w.2, List.drop_zero, Nat.sub_zero, List.take_length]
  have h5 := cut_dp (lo := l) (hi := u) h4
  rw [e] at h5
  exact o.pure (s := .d (.tuple _)) R h (.tup h3 h5) fun _ z => by cases z
theorem po_catT {K : PySem.W.Frag} {xs ys : List PyData} (e : K = W.K) (l : xs.length + ys.length ≤ 100000) (h : Φ n (.d (.tuple (xs ++ ys)))) : POp W (rCatA K) n ρ (.d (.tuple xs)) (.d (.tuple ys)) Φ := fun F mp σ H Q v1 v2 R h1 h2 o => by
  subst e
  obtain ⟨a, vs, rfl, h3, h4⟩ := dT h1
  obtain ⟨b, ws, rfl, h5, h6⟩ := dT h2
  have hd := DpAll.append h4 h6
  refine ⟨a, b, vs, ws, rfl, rfl, SqT.up R.sub h3, SqT.up R.sub h5, small_of (by rw [DpAll.len h4, DpAll.len h6]; exact l), fun z => ?_, fun _ z => ?_, fun _ _ p np => o.tup R h hd np⟩
  · subst z
    exact o.pure (s := .d (.tuple _)) R h (.tup h5 hd) fun _ z => by cases z
  · subst z
    refine o.pure (s := .d (.tuple _)) R h (.tup h3 ?_) fun _ z => by cases z
    rwa [List.append_nil] at hd
theorem px_backT {K : PySem.W.Frag} (e : K = W.K) (h : PX W te n ρ fun n1 s => IsT s fun xs => Φ n1 (.d (.tuple xs.reverse))) : PX W (tBackT K te) n ρ Φ := fun F mp σ H Q R o =>
  h F mp σ H _ R fun n1 F1 v s H1 h1 t1 R1 hv _ => by
    subst e
    obtain ⟨xs, rfl, h2⟩ := h1
    obtain ⟨a, ws, rfl, h3, h4⟩ := dT hv
    exact ⟨a, ws, rfl, SqT.up R1.sub h3, fun p hp => (o.later t1).tup R1 h2 (DpAll.reverse h4) hp⟩
/-- list + list, whatever they stand in -/
def rCatS (K : PySem.W.Frag) : R2 := fun x y H Q => ∃ l b xs zs, x = .ref l ∧ y = .ref b ∧ SqL K H l xs ∧ SqL K H b zs ∧ xs.length + zs.length ≤ sizeLine ∧ ∀ p, H p = none → Q (.ref p) (upd H p (.lst (xs ++ zs)))
theorem op_catS {X : Cx} {K : PySem.W.Frag} (eK : X.K = K) : OpR X (binaryOp .Add) (rCatS K) := by
  subst eK
  intro pins s σ H x y v u Q I rx ry h
  obtain ⟨l, b, xs, zs, rfl, rfl, hH, hB, hz, q⟩ := h
  cases rx
  cases ry
  obtain ⟨its, r, p, hl⟩ := I.list hH
  obtain ⟨its2, r2, p2, hl2⟩ := I.list hB
  obtain ⟨⟨cls, dd, data, sl⟩, ho, hc, m, hd⟩ := p.isList
  obtain ⟨⟨cls2, dd2, data2, sl2⟩, ho2, hc2, m2, hd2⟩ := p2.isList
  simp only at hc hd hc2 hd2
  subst hc hd hc2 hd2
  have e : its.toArray ++ its2.toArray = (its ++ its2).toArray := by simp
  have l1 := r.length
  have l2 := r2.length
  refine concat_meets ⟨_, ho, rfl⟩ ⟨_, ho2, rfl⟩ noFill_list_add seq_list_add PySem.F.slot_list_add PySem.F.entry_list_add (PySem.F.args_list_add_2 _ _) (list_addW l b its.toArray its2.toArray m m2 dd dd2 sl sl2 (by rw [List.size_toArray, List.size_toArray]; omega)) ⟨ho, ho2, ?_⟩
  rw [e]
  exact ⟨.ref _, _, I.lnew (t' := s.toks) (r.append r2) (by rw [List.length_append]; omega), rfl, q _ I.fresh⟩
theorem po_catS {K : PySem.W.Frag} {xs ys : List PyData} (z1 : AsL s1 xs) (z2 : AsL s2 ys) (e : K = W.K) (l : xs.length + ys.length ≤ 100000) (h : Φ n (.d (.list (xs ++ ys)))) : POp W (rCatS K) n ρ s1 s2 Φ := fun F mp σ H Q v1 v2 R h1 h2 o => by
  subst e
  obtain ⟨a, vs, rfl, h3, h4⟩ := z1.at_ R.sub h1
  obtain ⟨b, ws, rfl, h5, h6⟩ := z2.at_ R.sub h2
  exact ⟨a, b, vs, ws, rfl, rfl, h3, h5, small_of (by rw [DpAll.len h4, DpAll.len h6]; exact l), fun p np => o.lst R h (DpAll.append h4 h6) np⟩
end
end GB
namespace GB
open PySem PySem.Spec PyProof.Rows L2
/-! ### statements by data -/
inductive HoldAs : SV → Option SV → Prop
  | d {x} : HoldAs (.d x) (some (.d x))
  | new {xs} : HoldAs (.new xs) (some (.own xs))
  | mem : HoldAs .mem (some .mem)
  | raw {v} : HoldAs (.raw v) (some (.raw v))
inductive Fg : PS → PS → Prop
  | nil : Fg [] []
  | keep {x r r'} : Fg r r' → Fg (x :: r) (x :: r')
  | drop {x r r'} : Fg r r' → Fg (x :: r) (none :: r')
theorem Fg.refl : ∀ ρ : PS, Fg ρ ρ
  | [] => .nil
  | _ :: r => .keep (Fg.refl r)
theorem Fg.len {ρ ρ' : PS} (h : Fg ρ ρ') : ρ'.length = ρ.length := by
  induction h with
  | nil => rfl
  | keep _ ih => simp [ih]
  | drop _ ih => simp [ih]
theorem Fg.get {ρ ρ' : PS} (h : Fg ρ ρ') : ∀ {i : Nat} {s : SV}, ρ'[i]? = some (some s) → ρ[i]? = some (some s) := by
  induction h with
  | nil => intro i s e; exact e
  | keep _ ih =>
    intro i s e
    cases i with
    | zero => exact e
    | succ i => simp only [List.getElem?_cons_succ] at e ⊢; exact ih e
  | drop _ ih =>
    intro i s e
    cases i with
    | zero => simp at e
    | succ i => simp only [List.getElem?_cons_succ] at e ⊢; exact ih e
/-- without the drawn numbers -/
inductive NoMem : PS → PS → Prop
  | nil : NoMem [] []
  | keep {x r r'} : NoMem r r' → x ≠ some .mem → NoMem (x :: r) (x :: r')
  | drop {x r r'} : NoMem r r' → NoMem (x :: r) (none :: r')
theorem NoMem.get {ρ ρ' : PS} (h : NoMem ρ ρ') : Fg ρ ρ' ∧ ∀ i : Nat, ρ'[i]? ≠ some (some .mem) := by
  induction h with
  | nil => exact ⟨.nil, fun i e => by simp at e⟩
  | keep _ nx ih =>
    refine ⟨.keep ih.1, fun i e => ?_⟩
    cases i with
    | zero => simp at e; exact nx e
    | succ i => simp only [List.getElem?_cons_succ] at e; exact ih.2 i e
  | drop _ ih =>
    refine ⟨.drop ih.1, fun i e => ?_⟩
    cases i with
    | zero => simp at e
    | succ i => simp only [List.getElem?_cons_succ] at e; exact ih.2 i e
section
variable {W : Wd} {F F' : Hp} {mp : Option Addr} {n n' : Nat} {ρ ρ' : PS} {σ σ' : L2.St} {H H' : Hp} {v : V} {s : SV} {a : Addr} {xs ys : List PyData} {k : Nat} {o : Option SV}
theorem VOk.re (h : VOk W F mp σ H v s) (hn : ∀ xs, s ≠ .new xs) : VOk W F mp σ' H v s := by
  cases s with
  | new xs => exact absurd rfl (hn xs)
  | _ => exact h
theorem Rel.slot (R : Rel W F mp n ρ σ H) {i : Nat} (h : ρ[i]? = some (some s)) : (∃ v, σ[i]? = some (some v) ∧ VOk W F mp σ H v s) ∧ ∀ xs, s ≠ .new xs := by
  obtain ⟨v, h1, h2⟩ := R.slots i s h
  refine ⟨⟨v, h1, h2⟩, fun xs e => ?_⟩
  subst e
  exact R.nonew i xs h
theorem Rel.forget (R : Rel W F mp n ρ σ H) (g : Fg ρ ρ') : Rel W F mp n ρ' σ H :=
  { R with
    len := g.len.trans R.len
    slots := fun i s h => R.slots i s (g.get h)
    nonew := fun i xs h => R.nonew i xs (g.get h)
    apart := fun i j a xs ys ne h1 h2 => R.apart i j a xs ys ne (g.get h1) (g.get h2) }
def VOw (W : Wd) (F : Hp) (mp : Option Addr) (H : Hp) (v : V) : SV → Prop
  | .d x => Dp W.K F v x
  | .own xs => ∃ a, v = .ref a ∧ OwnAt W F H a xs
  | .new xs => ∃ a, v = .ref a ∧ OwnAt W F H a xs
  | .mem => ∃ p, v = .ref p ∧ mp = some p
  | .raw w => v = w
theorem VOk.w (h : VOk W F mp σ H v s) : VOw W F mp H v s := by
  cases s with
  | _ => exact h
/-- what is new is in no slot of this def's own -/
def UN (ρ : PS) (σ : L2.St) (v : V) (s : SV) : Prop := ∀ ys, s = .new ys → ∀ (i : Nat) zs, ρ[i]? = some (some (.own zs)) → σ[i]? ≠ some (some v)
theorem Rel.un (R : Rel W F mp n ρ σ H) (h : NewIn H v s) (hv : ∀ ys, s = .new ys → ∃ a, v = .ref a) : UN ρ σ v s := fun ys e i zs h1 h2 => by
  subst e
  obtain ⟨a, rfl⟩ := hv ys rfl
  have z := h a rfl
  obtain ⟨w, q1, q2⟩ := R.slots i _ h1
  rw [h2] at q1
  cases q1
  obtain ⟨b, e, ⟨us, y, _⟩, _⟩ := q2
  cases e
  rw [y] at z; cases z
theorem VOk.rf (h : VOk W F mp σ H v s) : ∀ ys, s = .new ys → ∃ a, v = .ref a := fun ys e => by
  subst e
  obtain ⟨a, e, _⟩ := h
  exact ⟨a, e⟩
theorem nset_get {k i : Nat} {o : Option SV} {s : SV} (h : (ρ.set k o)[i]? = some (some s)) : (k = i ∧ o = some s ∧ k < ρ.length) ∨ (k ≠ i ∧ ρ[i]? = some (some s)) := by
  by_cases e : k = i
  · subst e
    by_cases hk : k < ρ.length
    · rw [List.getElem?_set_self hk] at h
      exact .inl ⟨rfl, Option.some.inj h, hk⟩
    · rw [List.getElem?_eq_none (by rw [List.length_set]; omega)] at h
      cases h
  · rw [List.getElem?_set_ne e] at h
    exact .inr ⟨e, h⟩
theorem Rel.setW (R : Rel W F mp n ρ σ H) (hv : VOw W F mp H v s) (hu : UN ρ σ v s) (ho : HoldAs s o) (hk : k < ρ.length) : Rel W F mp n (ρ.set k o) (σ.set k (some v)) H := by
  have hk2 : k < σ.length := by rw [← R.len]; exact hk
  refine { R with len := ?_, slots := fun i s' h => ?_, nonew := fun i xs h => ?_, apart := fun i j b xs ys ne h1 h2 e1 e2 => ?_ }
  · rw [List.length_set, List.length_set]; exact R.len
  · by_cases e : k = i
    · subst e
      rw [List.getElem?_set_self hk] at h
      refine ⟨v, by rw [List.getElem?_set_self hk2], ?_⟩
      cases ho with
      | d => cases h; exact hv
      | new => cases h; exact hv
      | mem => cases h; exact hv
      | raw => cases h; exact hv
    · rw [List.getElem?_set_ne e] at h
      obtain ⟨⟨w, h1, h2⟩, h3⟩ := R.slot h
      exact ⟨w, by rw [List.getElem?_set_ne e]; exact h1, h2.re h3⟩
  · rcases nset_get h with ⟨_, e, _⟩ | ⟨_, e⟩
    · subst e; cases ho
    · exact R.nonew i xs e
  · have key : ∀ (j : Nat) ys zs, k ≠ j → (ρ.set k o)[k]? = some (some (.own zs)) → (ρ.set k o)[j]? = some (some (.own ys)) → (σ.set k (some v))[k]? = some (some (V.ref b)) → (σ.set k (some v))[j]? = some (some (V.ref b)) → False := by
      intro j ys zs ne q1 q2 q3 q4
      rw [List.getElem?_set_self hk] at q1
      rw [List.getElem?_set_self hk2] at q3
      rw [List.getElem?_set_ne ne] at q2 q4
      cases q3
      cases ho with
      | d => cases q1
      | new => exact hu _ rfl j ys q2 q4
      | mem => cases q1
      | raw => cases q1
    by_cases ei : k = i
    · subst ei
      exact key j ys xs ne h1 h2 e1 e2
    · by_cases ej : k = j
      · subst ej
        exact key i xs ys (fun z => ne z.symm) h2 h1 e2 e1
      · rw [List.getElem?_set_ne ei] at h1 e1
        rw [List.getElem?_set_ne ej] at h2 e2
        exact R.apart i j b xs ys ne h1 h2 e1 e2
theorem Rel.set (R : Rel W F mp n ρ σ H) (hv : VOk W F mp σ H v s) (hn : ∀ xs, s ≠ .new xs) (ho : HoldAs s o) (hk : k < ρ.length) : Rel W F mp n (ρ.set k o) (σ.set k (some v)) H := R.setW hv.w (fun ys e => absurd e (hn ys)) ho hk
/-- a list of this def's own is changed -/
theorem Rel.write {vs : List V} (R : Rel W F mp n ρ σ H) (hk : ρ[k]? = some (some (.own xs))) (hs : σ[k]? = some (some (V.ref a))) (hd : DpAll W.K F vs ys) : Rel W F mp n (ρ.set k (some (.own ys))) σ (upd H a (.lst vs)) := by
  have hkl : k < ρ.length := (List.getElem?_eq_some_iff.mp hk).1
  obtain ⟨⟨v, h1, h2⟩, _⟩ := R.slot hk
  rw [hs] at h1
  cases h1
  obtain ⟨b, e, ⟨ws, at_, _⟩, fa, ha⟩ := h2
  cases e
  have offF : ∀ b u, F b = some u → b ≠ a := fun b u h z => by subst z; rw [fa] at h; cases h
  have sub : Same F (upd H a (.lst vs)) := fun b u h => by rw [upd_ne (offF b u h)]; exact R.sub b u h
  refine { R with sub := sub, frame := fun b u h m => ?_, grow := fun b h => ?_, mem := fun p hp => ?_, len := ?_, slots := fun i s h => ?_, nonew := fun i zs h => (nset_get h).elim (fun ⟨_, e, _⟩ => by cases e) (fun ⟨_, e⟩ => R.nonew i zs e), apart := fun i j b xs' ys' ne h1 h2 e1 e2 => ?_ }
  · have : b ≠ a := fun z => by subst z; rw [ha] at h; cases h
    rw [upd_ne this]; exact R.frame b u h m
  · by_cases e : b = a
    · subst e; rw [upd_same]; intro y; cases y
    · rw [upd_ne e]; exact R.grow b h
  · obtain ⟨q1, q2, c, l, sd, sp, ns, d, e⟩ := R.mem p hp
    have pa : p ≠ a := fun z => by subst z; have := d.at_; rw [at_] at this; cases this
    exact ⟨q1, q2, c, l, sd, sp, ns, { d with at_ := by rw [upd_ne pa]; exact d.at_, cells := SqL.up sub e }, e⟩
  · rw [List.length_set]; exact R.len
  · by_cases e : k = i
    · subst e
      rw [List.getElem?_set_self hkl] at h
      cases h
      exact ⟨_, hs, a, rfl, ⟨vs, upd_same, hd⟩, fa, ha⟩
    · rw [List.getElem?_set_ne e] at h
      obtain ⟨⟨w, h1, h2⟩, h3⟩ := R.slot h
      refine ⟨w, h1, ?_⟩
      cases s with
      | own zs =>
        obtain ⟨b, rfl, ⟨us, q1, q2⟩, q3⟩ := h2
        refine ⟨b, rfl, ⟨us, ?_, q2⟩, q3⟩
        have : b ≠ a := fun z => by
          subst z
          exact R.apart k i b xs zs e hk h hs h1
        rw [upd_ne this]; exact q1
      | new zs => exact absurd rfl (h3 zs)
      | d x => exact h2
      | mem => exact h2
      | raw w => exact h2
  · have un : ∀ {i : Nat} {zs}, (ρ.set k (some (.own ys)))[i]? = some (some (.own zs)) → ∃ zs', ρ[i]? = some (some (.own zs')) := fun {i zs} h => by
      by_cases e : k = i
      · subst e; exact ⟨_, hk⟩
      · rw [List.getElem?_set_ne e] at h; exact ⟨_, h⟩
    obtain ⟨z1, q1⟩ := un h1
    obtain ⟨z2, q2⟩ := un h2
    exact R.apart i j b z1 z2 ne q1 q2 e1 e2
/-- a list of this def's own becomes data -/
theorem Rel.freeze (R : Rel W F mp n ρ σ H) (hk : ρ[k]? = some (some (.own xs))) : ∃ F', Same F F' ∧ Rel W F' mp n (ρ.set k (some (.d (.list xs)))) σ H := by
  have hkl : k < ρ.length := (List.getElem?_eq_some_iff.mp hk).1
  obtain ⟨⟨v, h1, h2⟩, _⟩ := R.slot hk
  obtain ⟨a, rfl, ⟨ws, at_, hd⟩, fa, ha⟩ := h2
  have ext : Same F (upd F a (.lst ws)) := same_new fa
  refine ⟨upd F a (.lst ws), ext, ?_⟩
  refine { R with sub := fun b u h => ?_, base := R.base.trans ext, fresh := fun b h => ?_, mem := fun p hp => ?_, len := ?_, slots := fun i s h => ?_, nonew := fun i zs h => (nset_get h).elim (fun ⟨_, e, _⟩ => by cases e) (fun ⟨_, e⟩ => R.nonew i zs e), apart := fun i j b xs' ys' ne h1 h2 e1 e2 => ?_ }
  · by_cases e : b = a
    · subst e; rw [upd_same] at h; cases h; exact at_
    · rw [upd_ne e] at h; exact R.sub b u h
  · by_cases e : b = a
    · subst e; exact .inr ha
    · rw [upd_ne e] at h; exact R.fresh b h
  · obtain ⟨q1, q2, c, l, sd, sp, ns, d, e⟩ := R.mem p hp
    have pa : p ≠ a := fun z => by subst z; have := d.at_; rw [at_] at this; cases this
    exact ⟨by rw [upd_ne pa]; exact q1, q2, c, l, sd, sp, ns, d, SqL.up ext e⟩
  · rw [List.length_set]; exact R.len
  · by_cases e : k = i
    · subst e
      rw [List.getElem?_set_self hkl] at h
      cases h
      exact ⟨_, h1, .lst (sql_of upd_same) (DpAll.same ext hd)⟩
    · rw [List.getElem?_set_ne e] at h
      obtain ⟨⟨w, q1, q2⟩, q3⟩ := R.slot h
      refine ⟨w, q1, ?_⟩
      cases s with
      | own zs =>
        obtain ⟨b, rfl, ⟨us, y1, y2⟩, y3, y4⟩ := q2
        have : b ≠ a := fun z => by
          subst z
          exact R.apart k i b xs zs e hk h h1 q1
        exact ⟨b, rfl, ⟨us, y1, DpAll.same ext y2⟩, by rw [upd_ne this]; exact y3, y4⟩
      | new zs => exact absurd rfl (q3 zs)
      | d x => exact Dp.same ext q2
      | mem => exact q2
      | raw w => exact q2
  · have un : ∀ {i : Nat} {zs}, (ρ.set k (some (.d (.list xs))))[i]? = some (some (.own zs)) → ρ[i]? = some (some (.own zs)) := fun {i zs} h => by
      by_cases e : k = i
      · subst e; rw [List.getElem?_set_self hkl] at h; cases h
      · rw [List.getElem?_set_ne e] at h; exact h
    exact R.apart i j b _ _ ne (un h1) (un h2) e1 e2
/-- new objects alone -/
theorem Rel.grown (R : Rel W F mp n ρ σ H) (t : Step none F H F' H') (sub : Same F' H') : Rel W F' mp n ρ σ H' := by
  have t' : Step mp F H F' H' := ⟨t.ext, t.fresh, fun a o h _ => t.frame a o h (by intro z; cases z), t.grow⟩
  refine R.step t' sub fun p hp => ?_
  obtain ⟨c, l, sd, sp, ns, d, e⟩ := (R.mem p hp).2.2
  exact ⟨c, l, sd, sp, ns, d.same fun a o h => t.frame a o h (by intro z; cases z), SqL.up t.ext e⟩
end
structure PEnds where
  nx : Nat → PS → Prop
  rt : Nat → SV → Prop
  bk : Nat → PS → Prop
  ct : Nat → PS → Prop
inductive RetAs : SV → SV → Prop
  | d {x} : RetAs (.d x) (.d x)
  | own {xs} : RetAs (.own xs) (.d (.list xs))
  | new {xs} : RetAs (.new xs) (.d (.list xs))
  | raw {v} : RetAs (.raw v) (.raw v)
def RtS (s : SV) (P : SV → Prop) : Prop := ∃ s', RetAs s s' ∧ P s'
theorem rt_d {x : PyData} {P : SV → Prop} (h : P (.d x)) : RtS (.d x) P := ⟨_, .d, h⟩
theorem rt_own {xs : List PyData} {P : SV → Prop} (h : P (.d (.list xs))) : RtS (.own xs) P := ⟨_, .own, h⟩
theorem rt_new {xs : List PyData} {P : SV → Prop} (h : P (.d (.list xs))) : RtS (.new xs) P := ⟨_, .new, h⟩
structure DOk (W : Wd) (F : Hp) (E : PEnds) (D : Ends) : Prop where
  nx : ∀ F' mp n ρ σ H, E.nx n ρ → Same F F' → Rel W F' mp n ρ σ H → D.nx σ H
  rt : ∀ F' mp n ρ σ H v s, RtS s (E.rt n) → Same F F' → Rel W F' mp n ρ σ H → VOk W F' mp σ H v s → D.rt v H
  bk : ∀ F' mp n ρ σ H, E.bk n ρ → Same F F' → Rel W F' mp n ρ σ H → D.bk σ H
  ct : ∀ F' mp n ρ σ H, E.ct n ρ → Same F F' → Rel W F' mp n ρ σ H → D.ct σ H
theorem DOk.up {W : Wd} {F F1 : Hp} {E : PEnds} {D : Ends} (d : DOk W F E D) (e : Same F F1) : DOk W F1 E D :=
  ⟨fun F' mp n ρ σ H h s R => d.nx F' mp n ρ σ H h (e.trans s) R, fun F' mp n ρ σ H v x h s R hv => d.rt F' mp n ρ σ H v x h (e.trans s) R hv,
   fun F' mp n ρ σ H h s R => d.bk F' mp n ρ σ H h (e.trans s) R, fun F' mp n ρ σ H h s R => d.ct F' mp n ρ σ H h (e.trans s) R⟩
def PZ (W : Wd) (ts : TS) (n : Nat) (ρ : PS) (E : PEnds) : Prop := ∀ F mp σ H D, Rel W F mp n ρ σ H → DOk W F E D → ts D σ H
def PGd (W : Wd) (g : TG) (s : SV) (n : Nat) (ρ : PS) (N : Nat → PS → Prop) : Prop := ∀ F mp σ H (Q : L2.St → Hp → Prop) v, Rel W F mp n ρ σ H → VOk W F mp σ H v s → UN ρ σ v s → (∀ F' mp' n' ρ' σ' H', N n' ρ' → Same F F' → Rel W F' mp' n' ρ' σ' H' → Q σ' H') → g v σ H Q
def PGs' (W : Wd) (g : TGs) (ds : List PyData) (n : Nat) (ρ : PS) (N : Nat → PS → Prop) : Prop := ∀ F mp σ H (Q : L2.St → Hp → Prop) vs, Rel W F mp n ρ σ H → DpAll W.K F vs ds → (∀ F' mp' n' ρ' σ' H', N n' ρ' → Same F F' → Rel W F' mp' n' ρ' σ' H' → Q σ' H') → g vs σ H Q
def Lp (I : Nat → PS → Prop) (n : Nat) (ρ : PS) : Prop := ∃ n1 ρ1, n ≤ n1 ∧ Fg ρ ρ1 ∧ I n1 ρ1
section
variable {W : Wd} {n : Nat} {ρ ρ' ρ1 ρ2 : PS} {E : PEnds} {N : Nat → PS → Prop} {t u body : TS} {te ti : TE} {ta : TA} {c : TT} {g : TG} {gs : TGs} {k k1 k2 k3 : Nat} {s : SV} {o o1 o2 o3 : Option SV} {i j : Int} {xs : List PyData}
theorem pz_seq (h : PZ W t n ρ { E with nx := fun n1 ρ1 => PZ W u n1 ρ1 E }) : PZ W (tSeq t u) n ρ E := fun F mp σ H D R d =>
  h F mp σ H _ R ⟨fun F' mp' n' ρ' σ' H' h1 s R1 => h1 F' mp' σ' H' D R1 (d.up s), d.rt, d.bk, d.ct⟩
theorem pz_cut (Mid : Nat → PS → Prop) (h : PZ W t n ρ { E with nx := Lp Mid }) (q : ∀ n ρ, Mid n ρ → PZ W u n ρ E) : PZ W (Evl.tCut t u) n ρ E := fun F mp σ H D R d =>
  ⟨fun σ' H' => ∃ F' mp' n' ρ', Mid n' ρ' ∧ Same F F' ∧ Rel W F' mp' n' ρ' σ' H',
   h F mp σ H _ R ⟨fun F' mp' n' ρ' σ' H' ⟨n1, ρ1, l, f, m⟩ s R1 => ⟨F', mp', n1, ρ1, m, s, (R1.more l).forget f⟩, d.rt, d.bk, d.ct⟩,
   fun σ' H' ⟨F', mp', n', ρ', m, s, R1⟩ => q n' ρ' m F' mp' σ' H' D R1 (d.up s)⟩
theorem pz_next (h : E.nx n ρ) : PZ W tNext n ρ E := fun F mp σ H D R d => d.nx F mp n ρ σ H h (Same.refl F) R
theorem pz_break (h : E.bk n ρ) : PZ W tBreak n ρ E := fun F mp σ H D R d => d.bk F mp n ρ σ H h (Same.refl F) R
theorem pz_cont (h : E.ct n ρ) : PZ W tCont n ρ E := fun F mp σ H D R d => d.ct F mp n ρ σ H h (Same.refl F) R
theorem pz_ret (h : PX W te n ρ fun n1 s => RtS s (E.rt n1)) : PZ W (tRet te) n ρ E := fun F mp σ H D R d =>
  h F mp σ H _ R fun n1 F1 v s H1 h1 t1 R1 hv _ => d.rt F1 mp n1 ρ σ H1 v s h1 t1.ext R1 hv
theorem pz_retN (h : E.rt n (.d .none)) : PZ W tRetN n ρ E := fun F mp σ H D R d => d.rt F mp n ρ σ H .non (.d .none) (rt_d h) (Same.refl F) R .non
theorem pz_drop (h : PX W te n ρ fun n1 _ => E.nx n1 ρ) : PZ W (tDrop te) n ρ E := fun F mp σ H D R d =>
  h F mp σ H _ R fun n1 F1 v s H1 h1 t1 R1 _ _ => d.nx F1 mp n1 ρ σ H1 h1 t1.ext R1
theorem pz_ifs (h : PB W c n ρ fun n1 b => Br b (PZ W t n1 ρ E) (PZ W u n1 ρ E)) : PZ W (tIfS c t u) n ρ E := fun F mp σ H D R d =>
  h F mp σ H _ R fun n1 F1 b H1 h1 t1 R1 => Br.ite ⟨fun z => h1.1 z F1 mp σ H1 D R1 (d.up t1.ext), fun z => h1.2 z F1 mp σ H1 D R1 (d.up t1.ext)⟩
theorem pz_asg (h : PX W te n ρ fun n1 s => PGd W g s n1 ρ E.nx) : PZ W (tAsg te g) n ρ E := fun F mp σ H D R d =>
  h F mp σ H _ R fun n1 F1 v s H1 h1 t1 R1 hv hn => h1 F1 mp σ H1 _ v R1 hv (R.un hn hv.rf) fun F' mp' n' ρ' σ' H' q s2 R2 => d.nx F' mp' n' ρ' σ' H' q (t1.ext.trans s2) R2
theorem pg_name' (ho : HoldAs s o) (e : SetAt ρ k o ρ') (h : N n ρ') : PGd W (gName k) s n ρ N := fun F mp σ H Q v R hv hu q => by
  obtain ⟨rfl, hk⟩ := e.set
  exact q F mp n _ _ H h (Same.refl F) (R.setW hv.w hu ho hk)
theorem pg_tup' {K : PySem.W.Frag} {m : Nat} (e : K = W.K) (l : xs.length = m) (h : PGs' W gs xs n ρ N) : PGd W (gTup K m gs) (.d (.tuple xs)) n ρ N := fun F mp σ H Q v R hv _ q => by
  subst e
  obtain ⟨a, vs, rfl, h1, h2⟩ := dT hv
  exact ⟨a, vs, rfl, SqT.up R.sub h1, by rw [DpAll.len h2]; exact l, h F mp σ H Q vs R h2 q⟩
theorem pgs_nil' (h : N n ρ) : PGs' W gNil [] n ρ N := fun F mp σ H Q vs R hv q => by
  cases hv
  exact ⟨rfl, q F mp n ρ σ H h (Same.refl F) R⟩
theorem pgs_cons' {x : PyData} (h : PGd W g (.d x) n ρ fun n1 ρ1 => PGs' W gs xs n1 ρ1 N) : PGs' W (gCons g gs) (x :: xs) n ρ N := fun F mp σ H Q vs R hv q => by
  cases hv with
  | cons h1 h2 =>
    refine ⟨_, _, rfl, h F mp σ H _ _ R h1 (fun _ z => by cases z) fun F' mp' n' ρ' σ' H' q' s R' => ?_⟩
    exact q' F' mp' σ' H' Q _ R' (DpAll.same s h2) fun F2 mp2 n2 ρ2 σ2 H2 z s2 R2 => q F2 mp2 n2 ρ2 σ2 H2 z (s.trans s2) R2
def SetIx (xs : List PyData) (k : Int) (x : PyData) (P : List PyData → Prop) : Prop := ∃ j, ixN xs.length k = some j ∧ P (xs.set j x)
theorem pg_item {x : PyData} (ho : GetAt ρ k (.own xs)) (h : PX W ti n ρ fun n1 s => IsI s fun i => SetIx xs i x fun ys => ∃ ρ', SetAt ρ k (some (.own ys)) ρ' ∧ N n1 ρ') : PGd W (gSub (tVar k) ti rSetL) (.d x) n ρ N := fun F mp σ H Q v R hv _ q => by
  obtain ⟨⟨w, h1, h2⟩, _⟩ := R.slot ho.get
  obtain ⟨a, rfl, ow⟩ := h2
  refine ⟨_, h1, h F mp σ H _ R fun n1 F1 w s H1 q1 t1 R1 hw _ => ?_⟩
  obtain ⟨i, rfl, jj, e1, ρ', e2, hN⟩ := q1
  obtain ⟨rfl, hk⟩ := e2.set
  have ow1 := ow.step R.memAt t1
  obtain ⟨⟨vs, at_, hd⟩, fa, ha⟩ := ow1
  refine ⟨a, vs, i, jj, rfl, dI hw, at_, by rw [DpAll.len hd]; exact e1, ?_⟩
  exact q F1 mp n1 _ σ _ hN t1.ext (R1.write ho.get h1 (DpAll.set (Dp.same t1.ext hv) jj hd))
theorem pz_append {K : PySem.W.Frag} (h : PAs W ta n ρ fun n1 ss => ∃ x xs ρ', ss = [.d x] ∧ GetAt ρ k (.own xs) ∧ xs.length < 16000000 ∧ SetAt ρ k (some (.own (xs ++ [x]))) ρ' ∧ E.nx n1 ρ') (g0 : ∃ xs, GetAt ρ k (.own xs)) : PZ W (tDrop (tBM K "list" rAppend (tVar k) ta)) n ρ E := fun F mp σ H D R d => by
  obtain ⟨xs0, g0⟩ := g0
  obtain ⟨⟨w, h1, h2⟩, _⟩ := R.slot g0.get
  obtain ⟨a, rfl, ow⟩ := h2
  obtain ⟨⟨vs0, at0, _⟩, _⟩ := id ow
  refine ⟨_, h1, .inl ⟨rfl, vs0, sql_of at0⟩, h F mp σ H _ R fun n1 F1 vs ss H1 q1 t1 R1 hvs _ => ?_⟩
  obtain ⟨x, xs, ρ', rfl, g, l, e, hN⟩ := q1
  obtain ⟨rfl, hk⟩ := e.set
  obtain ⟨v, rfl, hv⟩ := aok1 hvs
  have e0 := g.get.symm.trans g0.get
  cases e0
  obtain ⟨⟨vs, at_, hd⟩, fa, ha⟩ := ow.step R.memAt t1
  have esz : sizeLine = 16777216 := by decide
  refine ⟨a, vs, v, rfl, rfl, at_, by rw [DpAll.len hd]; omega, ?_⟩
  exact d.nx F1 mp n1 _ σ _ hN t1.ext (R1.write g.get h1 (DpAll.append hd (.cons hv .nil)))
/-- x, y = a, b -/
def Par2 (ss : List SV) (P : SV → SV → Prop) : Prop := ∃ s1 s2, ss = [s1, s2] ∧ P s1 s2
theorem par2 {s1 s2 : SV} {P : SV → SV → Prop} (h : P s1 s2) : Par2 [s1, s2] P := ⟨_, _, rfl, h⟩
def Set1 (ρ : PS) (k : Nat) (s : SV) (P : PS → Prop) : Prop := ∃ o ρ', HoldAs s o ∧ SetAt ρ k o ρ' ∧ P ρ'
theorem set1 {P : PS → Prop} (ho : HoldAs s o) (e : SetAt ρ k o ρ') (h : P ρ') : Set1 ρ k s P := ⟨o, ρ', ho, e, h⟩
theorem pz_par (h : PAs W ta n ρ fun n1 ss => Par2 ss fun s1 s2 => Set1 ρ k1 s1 fun ρ1 => Set1 ρ1 k2 s2 fun ρ2 => E.nx n1 ρ2) : PZ W (tPar k1 k2 ta) n ρ E := fun F mp σ H D R d =>
  h F mp σ H _ R fun n1 F1 vs ss H1 h1 t1 R1 hvs hns => by
    obtain ⟨s1, s2, rfl, o1, ρ1, ho1, e1, o2, ρ2, ho2, e2, hN⟩ := h1
    obtain ⟨v, w, rfl, hv, hw⟩ := aok2 hvs
    obtain ⟨rfl, l1⟩ := e1.set
    obtain ⟨rfl, l2⟩ := e2.set
    refine ⟨v, w, rfl, d.nx F1 mp n1 _ _ H1 hN t1.ext ((R1.setW hv.w (R.un hns.1 hv.rf) ho1 l1).setW hw.w (fun ys ey i zs q1 q2 => ?_) ho2 l2)⟩
    by_cases z : k1 = i
    · subst z
      rw [List.getElem?_set_self l1] at q1
      rw [List.getElem?_set_self (by rw [← R1.len]; exact l1)] at q2
      cases q2
      cases ho1 with
      | d => cases q1
      | new => subst ey; exact hns.2.1 _ rfl 0 _ ys rfl rfl rfl
      | mem => cases q1
      | raw => cases q1
    · rw [List.getElem?_set_ne z] at q1 q2
      exact (R.un hns.2.2.1 hw.rf) ys ey i zs q1 q2
def Par3 (ss : List SV) (P : SV → SV → SV → Prop) : Prop := ∃ s1 s2 s3, ss = [s1, s2, s3] ∧ P s1 s2 s3
theorem par3 {s1 s2 s3 : SV} {P : SV → SV → SV → Prop} (h : P s1 s2 s3) : Par3 [s1, s2, s3] P := ⟨_, _, _, rfl, h⟩
theorem pz_par3 (h : PAs W ta n ρ fun n1 ss => Par3 ss fun s1 s2 s3 => Set1 ρ k1 s1 fun ρ1 => Set1 ρ1 k2 s2 fun ρ2 => Set1 ρ2 k3 s3 fun ρ3 => E.nx n1 ρ3) : PZ W (tPar3 k1 k2 k3 ta) n ρ E := fun F mp σ H D R d =>
  h F mp σ H _ R fun n1 F1 vs ss H1 h1 t1 R1 hvs hns => by
    obtain ⟨s1, s2, s3, rfl, o1, ρ1, ho1, e1, o2, ρ2, ho2, e2, o3, ρ3, ho3, e3, hN⟩ := h1
    cases hvs with
    | cons hu hvs =>
    obtain ⟨v, w, rfl, hv, hw⟩ := aok2 hvs
    obtain ⟨rfl, l1⟩ := e1.set
    obtain ⟨rfl, l2⟩ := e2.set
    obtain ⟨rfl, l3⟩ := e3.set
    refine ⟨_, v, w, rfl, d.nx F1 mp n1 _ _ H1 hN t1.ext (((R1.setW hu.w (R.un hns.1 hu.rf) ho1 l1).setW hv.w (fun ys ey i zs q1 q2 => ?_) ho2 l2).setW hw.w (fun ys ey i zs q1 q2 => ?_) ho3 l3)⟩
    · by_cases z : k1 = i
      · subst z
        rw [List.getElem?_set_self l1] at q1
        rw [List.getElem?_set_self (by rw [← R1.len]; exact l1)] at q2
        cases q2
        cases ho1 with
        | d => cases q1
        | new => subst ey; exact hns.2.1 _ rfl 0 _ ys rfl rfl rfl
        | mem => cases q1
        | raw => cases q1
      · rw [List.getElem?_set_ne z] at q1 q2
        exact (R.un hns.2.2.1 hv.rf) ys ey i zs q1 q2
    · by_cases z2 : k2 = i
      · subst z2
        rw [List.getElem?_set_self l2] at q1
        rw [List.getElem?_set_self (by rw [List.length_set, ← R1.len]; rw [List.length_set] at l2; exact l2)] at q2
        cases q2
        cases ho2 with
        | d => cases q1
        | new => subst ey; exact hns.2.2.2.1 _ rfl 0 _ ys rfl rfl rfl
        | mem => cases q1
        | raw => cases q1
      · rw [List.getElem?_set_ne z2] at q1 q2
        by_cases z : k1 = i
        · subst z
          rw [List.getElem?_set_self l1] at q1
          rw [List.getElem?_set_self (by rw [← R1.len]; exact l1)] at q2
          cases q2
          cases ho1 with
          | d => cases q1
          | new => subst ey; exact hns.2.1 _ rfl 1 _ ys rfl rfl rfl
          | mem => cases q1
          | raw => cases q1
        · rw [List.getElem?_set_ne z] at q1 q2
          exact (R.un hns.2.2.2.2.1 hw.rf) ys ey i zs q1 q2
theorem pz_aug {f : Int → Int → Int} (ho : GetAt ρ k (.d (.int i))) (h : PX W te n ρ fun n1 s => IsI s fun j => ∃ ρ', SetAt ρ k (some (.d (.int (f i j)))) ρ' ∧ E.nx n1 ρ') : PZ W (tAug k te (ipI f)) n ρ E := fun F mp σ H D R d => by
  obtain ⟨⟨w, h1, h2⟩, _⟩ := R.slot ho.get
  refine ⟨w, h1, h F mp σ H _ R fun n1 F1 v s H1 q1 t1 R1 hv _ => ?_⟩
  obtain ⟨j, rfl, ρ', e, hN⟩ := q1
  obtain ⟨rfl, hk⟩ := e.set
  rw [dI h2, dI hv]
  exact ⟨i, j, rfl, rfl, d.nx F1 mp n1 _ _ H1 hN t1.ext (R1.set (s := .d (.int (f i j))) (.int _) (fun _ z => by cases z) .d hk)⟩
theorem pz_freeze (ho : GetAt ρ k (.own xs)) (e : SetAt ρ k (some (.d (.list xs))) ρ') (h : PZ W t n ρ' E) : PZ W t n ρ E := fun F mp σ H D R d => by
  obtain ⟨F', s, R'⟩ := R.freeze ho.get
  obtain ⟨rfl, _⟩ := e.set
  exact h F' mp σ H D R' (d.up s)
theorem pz_forget (f : Fg ρ ρ') (h : PZ W t n ρ' E) : PZ W t n ρ E := fun F mp σ H D R d => h F mp σ H D (R.forget f) d
theorem pz_more {m : Nat} (l : n ≤ m) (h : PZ W t m ρ E) : PZ W t n ρ E := fun F mp σ H D R d => h F mp σ H D (R.more l) d
end
/-! ### loops -/
structure ItOk (W : Wd) (F : Hp) (J : It) (xs : List PyData) : Prop where
  stop : ∀ F1 H, Same F F1 → Same F1 H → J.stop xs.length H
  turn : ∀ F1 H i d, Same F F1 → Same F1 H → xs[i]? = some d → J.go i H ∧ ∀ x H', J.yld i H x H' → ∃ F2, Step none F1 H F2 H' ∧ Same F2 H' ∧ Dp W.K F2 x d
def PIt (W : Wd) (wi : TI) (n : Nat) (ρ : PS) (Φ : Nat → List PyData → Prop) : Prop := ∀ F mp σ H R', Rel W F mp n ρ σ H → (∀ n' F' J xs H', Φ n' xs → Step mp F H F' H' → Rel W F' mp n' ρ σ H' → ItOk W F' J xs → R' J H') → wi σ H R'
section
variable {W : Wd} {n : Nat} {ρ ρ' ρ1 ρ2 : PS} {E : PEnds} {N : Nat → PS → Prop} {t u body : TS} {te ti : TE} {ta : TA} {c : TT} {g : TG} {wi : TI} {k : Nat} {s : SV} {i j : Int} {xs : List PyData} {Φ : Nat → List PyData → Prop} {K : PySem.W.Frag}
def ForS (W : Wd) (g : TG) (body : TS) (n : Nat) (ρ : PS) (E : PEnds) (xs : List PyData) : Prop := ∃ I : Nat → Nat → PS → Prop, Lp (I 0) n ρ ∧
  (∀ i x n ρ, xs[i]? = some x → I i n ρ → PGd W g (.d x) n ρ fun n' ρ' => PZ W body n' ρ' { nx := Lp (I (i + 1)), ct := Lp (I (i + 1)), bk := E.nx, rt := E.rt }) ∧ ∀ n ρ, I xs.length n ρ → E.nx n ρ
theorem pz_for (h : PIt W wi n ρ fun n1 xs => ForS W g body n1 ρ E xs) : PZ W (tFor wi g body) n ρ E := fun F mp σ H D R d =>
  h F mp σ H _ R fun n1 F1 J xs H1 h1 t1 R1 it => by
    obtain ⟨I, h0, hs, hd⟩ := h1
    obtain ⟨n0, ρ0, l0, f0, i0⟩ := h0
    refine ⟨fun i m σ H => i ≤ xs.length ∧ m = xs.length - i ∧ ∃ F2 mp n ρ, Same F1 F2 ∧ Rel W F2 mp n ρ σ H ∧ I i n ρ, ⟨_, Nat.zero_le _, rfl, F1, mp, n0, ρ0, Same.refl _, (R1.more l0).forget f0, i0⟩, ?_⟩
    rintro i m σ H ⟨hi, rfl, F2, mp2, n2, ρ2, s2, R2, hI⟩
    by_cases z : i = xs.length
    · subst z
      exact .inl ⟨it.stop F2 H s2 R2.sub, d.nx F2 mp2 n2 ρ2 σ H (hd n2 ρ2 hI) (t1.ext.trans s2) R2⟩
    · have lt : i < xs.length := by omega
      have e := List.getElem?_eq_getElem lt
      obtain ⟨go, yl⟩ := it.turn F2 H i xs[i] s2 R2.sub e
      refine .inr ⟨go, fun σ' H' => ∃ F3 mp n ρ, Same F1 F3 ∧ Rel W F3 mp n ρ σ' H' ∧ I (i + 1) n ρ, fun σ' H' ⟨F3, mp3, n3, ρ3, q1, q2, q3⟩ => ⟨xs.length - (i + 1), by omega, by omega, rfl, F3, mp3, n3, ρ3, q1, q2, q3⟩, fun x H' hy => ?_⟩
      obtain ⟨F3, t3, s3, hx⟩ := yl x H' hy
      have R3 := R2.grown t3 s3
      refine hs i xs[i] n2 ρ2 e hI F3 mp2 σ H' _ x R3 hx (fun _ z => by cases z) fun F4 mp4 n4 ρ4 σ4 H4 q s4 R4 => ?_
      have s14 := (s2.trans t3.ext).trans s4
      have lp : ∀ F' mp n ρ σ H, Lp (I (i + 1)) n ρ → Same F4 F' → Rel W F' mp n ρ σ H → ∃ F3 mp n ρ, Same F1 F3 ∧ Rel W F3 mp n ρ σ H ∧ I (i + 1) n ρ := fun F' mp n ρ σ H ⟨n1, ρ1, l, f, hI⟩ s R => ⟨F', mp, n1, ρ1, s14.trans s, (R.more l).forget f, hI⟩
      exact q F4 mp4 σ4 H4 _ R4 ⟨fun F' mp n ρ σ H h s R => lp F' mp n ρ σ H h s R, fun F' mp n ρ σ H v x h s R hv => d.rt F' mp n ρ σ H v x h ((t1.ext.trans s14).trans s) R hv,
        fun F' mp n ρ σ H h s R => d.nx F' mp n ρ σ H h ((t1.ext.trans s14).trans s) R, fun F' mp n ρ σ H h s R => lp F' mp n ρ σ H h s R⟩
theorem forS {I : Nat → Nat → PS → Prop} (h0 : Lp (I 0) n ρ) (hs : ∀ i x n ρ, xs[i]? = some x → I i n ρ → PGd W g (.d x) n ρ fun n' ρ' => PZ W body n' ρ' { nx := Lp (I (i + 1)), ct := Lp (I (i + 1)), bk := E.nx, rt := E.rt })
    (hd : ∀ n ρ, I xs.length n ρ → E.nx n ρ) : ForS W g body n ρ E xs := ⟨I, h0, hs, hd⟩
def rgD (lo c : Int) (m : Nat) : List PyData := (List.range m).map fun (i : Nat) => PyData.int (lo + (i : Int) * c)
theorem forR {lo c : Int} {m : Nat} (I : Nat → Nat → PS → Prop) (h0 : Lp (I 0) n ρ) (hs : ∀ (i : Nat) n ρ, i < m → I i n ρ → PGd W g (.d (.int (lo + (i : Int) * c))) n ρ fun n' ρ' => PZ W body n' ρ' { nx := Lp (I (i + 1)), ct := Lp (I (i + 1)), bk := E.nx, rt := E.rt })
    (hd : ∀ n ρ, I m n ρ → E.nx n ρ) : ForS W g body n ρ E (rgD lo c m) := by
  refine ⟨I, h0, fun i x n ρ e hI => ?_, fun n ρ hI => hd n ρ ?_⟩
  · unfold rgD at e
    rw [List.getElem?_map] at e
    obtain ⟨j, hj, rfl⟩ := Option.map_eq_some_iff.mp e
    have hl := (List.getElem?_eq_some_iff.mp hj).1
    rw [List.length_range] at hl
    have : j = i := by
      rw [List.getElem?_range hl] at hj
      exact (Option.some.inj hj).symm
    subst this
    exact hs j n ρ hl hI
  · unfold rgD at hI
    rwa [List.length_map, List.length_range] at hI
theorem itok_rg (W : Wd) (F : Hp) (lo c : Int) (m : Nat) : ItOk W F (Itc lo c m) (rgD lo c m) := by
  refine ⟨fun F1 H _ _ => ?_, fun F1 H i d _ s2 e => ?_⟩
  · show m ≤ (rgD lo c m).length
    unfold rgD
    rw [List.length_map, List.length_range]
    exact Nat.le_refl _
  · unfold rgD at e
    rw [List.getElem?_map] at e
    obtain ⟨j, hj, rfl⟩ := Option.map_eq_some_iff.mp e
    have hl := (List.getElem?_eq_some_iff.mp hj).1
    rw [List.length_range] at hl
    have : j = i := by
      rw [List.getElem?_range hl] at hj
      exact (Option.some.inj hj).symm
    subst this
    refine ⟨hl, fun x H' hy => ?_⟩
    obtain ⟨rfl, rfl⟩ := hy
    exact ⟨F1, Step.refl _ _ _, s2, .int _⟩
theorem itr_c (lo : Int) (m : Nat) : Itr lo m = Itc lo 1 m := by
  unfold Itr Itc
  simp only [Int.mul_one]
def Rg1 (ss : List SV) (P : List PyData → Prop) : Prop := ∃ j, ss = [.d (.int j)] ∧ -(2 ^ 62) ≤ j ∧ j < 2 ^ 62 ∧ P (rgD 0 1 j.toNat)
theorem rg1 {P : List PyData → Prop} (l : -(2 ^ 62) ≤ j) (l2 : j < 2 ^ 62) (h : P (rgD 0 1 j.toNat)) : Rg1 [.d (.int j)] P := ⟨j, rfl, l, l2, h⟩
theorem pit_rg1 (h : PAs W ta n ρ fun n1 ss => Rg1 ss (Φ n1)) : PIt W (iRng1 ta) n ρ Φ := fun F mp σ H R' R o =>
  h F mp σ H _ R fun n1 F1 vs ss H1 h1 t1 R1 hvs _ => by
    obtain ⟨j, rfl, l1, l2, q⟩ := h1
    obtain ⟨v, rfl, hv⟩ := aok1 hvs
    refine ⟨j, by rw [dI hv], l1, l2, ?_⟩
    rw [itr_c]
    exact o n1 F1 _ _ H1 q t1 R1 (itok_rg ..)
def Rg2 (ss : List SV) (P : List PyData → Prop) : Prop := ∃ i j, ss = [.d (.int i), .d (.int j)] ∧ (-(2 ^ 62) ≤ i ∧ i < 2 ^ 62 ∧ -(2 ^ 62) ≤ j ∧ j < 2 ^ 62) ∧ P (rgD i 1 (j - i).toNat)
theorem rg2 {P : List PyData → Prop} (l : -(2 ^ 62) ≤ i) (l2 : i < 2 ^ 62) (l3 : -(2 ^ 62) ≤ j) (l4 : j < 2 ^ 62) (h : P (rgD i 1 (j - i).toNat)) : Rg2 [.d (.int i), .d (.int j)] P := ⟨i, j, rfl, ⟨l, l2, l3, l4⟩, h⟩
theorem pit_rg2 (h : PAs W ta n ρ fun n1 ss => Rg2 ss (Φ n1)) : PIt W (iRng2 ta) n ρ Φ := fun F mp σ H R' R o =>
  h F mp σ H _ R fun n1 F1 vs ss H1 h1 t1 R1 hvs _ => by
    obtain ⟨i, j, rfl, l, q⟩ := h1
    obtain ⟨v, w, rfl, hv, hw⟩ := aok2 hvs
    refine ⟨i, j, by rw [dI hv, dI hw], l, ?_⟩
    rw [itr_c]
    exact o n1 F1 _ _ H1 q t1 R1 (itok_rg ..)
def Rg3 (ss : List SV) (P : List PyData → Prop) : Prop := ∃ i j c m, ss = [.d (.int i), .d (.int j), .d (.int c)] ∧ RgC i j c m ∧ P (rgD i c m)
theorem rg3d {P : List PyData → Prop} (l : -(2 ^ 62) ≤ i) (l2 : i < 2 ^ 62) (l3 : -(2 ^ 62) ≤ j) (l4 : j < 2 ^ 62) (h : P (rgD i (-1) (i - j).toNat)) : Rg3 [.d (.int i), .d (.int j), .d (.int (-1))] P := ⟨i, j, -1, _, rfl, RgC.neg l l2 l3 l4, h⟩
theorem pit_rg3 (h : PAs W ta n ρ fun n1 ss => Rg3 ss (Φ n1)) : PIt W (iRng3 ta) n ρ Φ := fun F mp σ H R' R o =>
  h F mp σ H _ R fun n1 F1 vs ss H1 h1 t1 R1 hvs _ => by
    obtain ⟨i, j, c, m, rfl, l, q⟩ := h1
    cases hvs with
    | cons hu hvs =>
    obtain ⟨v, w, rfl, hv, hw⟩ := aok2 hvs
    refine ⟨i, j, c, m, by rw [dI hu, dI hv, dI hw], l, ?_⟩
    exact o n1 F1 _ _ H1 q t1 R1 (itok_rg ..)
def RgR (s : SV) (P : List PyData → Prop) : Prop := ∃ j, s = .d (.int j) ∧ -(2 ^ 62) ≤ j ∧ j < 2 ^ 62 ∧ P (rgD (j.toNat - 1) (-1) j.toNat)
theorem rgR {P : List PyData → Prop} (l : -(2 ^ 62) ≤ j) (l2 : j < 2 ^ 62) (h : P (rgD (j.toNat - 1) (-1) j.toNat)) : RgR (.d (.int j)) P := ⟨j, rfl, l, l2, h⟩
theorem pit_rev (h : PX W te n ρ fun n1 s => RgR s (Φ n1)) : PIt W (iRevR (tRg1 te)) n ρ Φ := fun F mp σ H R' R o =>
  h F mp σ H _ R fun n1 F1 v s H1 h1 t1 R1 hv _ => by
    obtain ⟨j, rfl, l1, l2, q⟩ := h1
    refine ⟨j, dI hv, by decide, by decide, l1, l2, ?_⟩
    have e : j - 0 = j := by omega
    have e2 : 0 + ((j.toNat : Nat) : Int) - 1 = (j.toNat : Int) - 1 := by omega
    rw [e, e2]
    exact o n1 F1 _ _ H1 q t1 R1 (itok_rg ..)
theorem pit_L (e : K = W.K) (h : PX W te n ρ fun n1 s => IsLs s (Φ n1)) : PIt W (iList K te) n ρ Φ := fun F mp σ H R' R o =>
  h F mp σ H _ R fun n1 F1 v s H1 h1 t1 R1 hv _ => by
    subst e
    obtain ⟨xs, rfl, q⟩ := h1
    obtain ⟨a, vs, rfl, h3, h4⟩ := dL hv
    refine ⟨a, rfl, ⟨vs, SqL.up R1.sub h3⟩, o n1 F1 _ _ H1 q t1 R1 ⟨fun F2 H s1 s2 => ⟨vs, SqL.up s2 (SqL.up s1 h3), ?_⟩, fun F2 H i d s1 s2 e => ?_⟩⟩
    · rw [DpAll.len h4]; exact Nat.le_refl _
    · obtain ⟨v, e2, hd⟩ := DpAll.at_ h4 e
      refine ⟨⟨vs, v, SqL.up s2 (SqL.up s1 h3), e2⟩, fun x H' hy => ?_⟩
      obtain ⟨rfl, hy⟩ := hy
      have := hy vs (SqL.up s2 (SqL.up s1 h3))
      rw [e2] at this
      cases this
      exact ⟨F2, Step.refl _ _ _, s2, Dp.same s1 hd⟩
theorem pit_T (e : K = W.K) (h : PX W te n ρ fun n1 s => IsT s (Φ n1)) : PIt W (iTup K te) n ρ Φ := fun F mp σ H R' R o =>
  h F mp σ H _ R fun n1 F1 v s H1 h1 t1 R1 hv _ => by
    subst e
    obtain ⟨xs, rfl, q⟩ := h1
    obtain ⟨a, vs, rfl, h3, h4⟩ := dT hv
    refine ⟨a, rfl, ⟨vs, SqT.up R1.sub h3⟩, o n1 F1 _ _ H1 q t1 R1 ⟨fun F2 H s1 s2 => ⟨vs, SqT.up s2 (SqT.up s1 h3), ?_⟩, fun F2 H i d s1 s2 e => ?_⟩⟩
    · rw [DpAll.len h4]; exact Nat.le_refl _
    · obtain ⟨v, e2, hd⟩ := DpAll.at_ h4 e
      refine ⟨⟨vs, v, SqT.up s2 (SqT.up s1 h3), e2⟩, fun x H' hy => ?_⟩
      obtain ⟨rfl, hy⟩ := hy
      have := hy vs (SqT.up s2 (SqT.up s1 h3))
      rw [e2] at this
      cases this
      exact ⟨F2, Step.refl _ _ _, s2, Dp.same s1 hd⟩
theorem pz_while (I : Nat → Nat → PS → Prop) (m0 : Nat) (h0 : Lp (I m0) n ρ) (hs : ∀ m n ρ, I m n ρ → PB W c n ρ fun n1 b => Br b (PZ W body n1 ρ { nx := fun n ρ => ∃ m', m' < m ∧ Lp (I m') n ρ, ct := fun n ρ => ∃ m', m' < m ∧ Lp (I m') n ρ, bk := E.nx, rt := E.rt }) (E.nx n1 ρ)) : PZ W (tWhile c body) n ρ E := fun F mp σ H D R d => by
  obtain ⟨n0, ρ0, l0, f0, i0⟩ := h0
  refine ⟨fun m σ H => ∃ F2 mp n ρ, Same F F2 ∧ Rel W F2 mp n ρ σ H ∧ I m n ρ, ⟨m0, F, mp, n0, ρ0, Same.refl _, (R.more l0).forget f0, i0⟩, ?_⟩
  rintro m σ H ⟨F2, mp2, n2, ρ2, s2, R2, hI⟩
  refine hs m n2 ρ2 hI F2 mp2 σ H _ R2 fun n3 F3 b H3 hb t3 R3 => Br.ite ⟨fun z => ?_, fun z => ?_⟩
  · have s3 := s2.trans t3.ext
    refine ⟨fun σ' H' => ∃ m', m' < m ∧ ∃ F3 mp n ρ, Same F F3 ∧ Rel W F3 mp n ρ σ' H' ∧ I m' n ρ, fun σ' H' ⟨m', l, F3, mp3, n3, ρ3, q1, q2, q3⟩ => ⟨m', l, F3, mp3, n3, ρ3, q1, q2, q3⟩, ?_⟩
    have lp : ∀ F' mp n ρ σ H, (∃ m', m' < m ∧ Lp (I m') n ρ) → Same F3 F' → Rel W F' mp n ρ σ H → ∃ m', m' < m ∧ ∃ F3 mp n ρ, Same F F3 ∧ Rel W F3 mp n ρ σ H ∧ I m' n ρ := fun F' mp n ρ σ H ⟨m', lt, n1, ρ1, l, f, hI⟩ s R => ⟨m', lt, F', mp, n1, ρ1, s3.trans s, (R.more l).forget f, hI⟩
    exact (hb.1 z) F3 mp2 σ H3 _ R3 ⟨fun F' mp n ρ σ H h s R => lp F' mp n ρ σ H h s R, fun F' mp n ρ σ H v x h s R hv => d.rt F' mp n ρ σ H v x h (s3.trans s) R hv,
        fun F' mp n ρ σ H h s R => d.nx F' mp n ρ σ H h (s3.trans s) R, fun F' mp n ρ σ H h s R => lp F' mp n ρ σ H h s R⟩
  · exact d.nx F3 mp2 n3 ρ2 σ H3 (hb.2 z) (s2.trans t3.ext) R3
def Inv {α : Type} (st : Nat → α → Nat × PS) (P : Nat → α → Prop) : Nat → Nat → PS → Prop := fun i n ρ => ∃ a, st i a = (n, ρ) ∧ P i a
theorem lpI {α : Type} {st : Nat → α → Nat × PS} {P : Nat → α → Prop} {i n : Nat} {ρ : PS} (a : α) (l : n ≤ (st i a).1) (f : Fg ρ (st i a).2) (h : P i a) : Lp (Inv st P i) n ρ := ⟨_, _, l, f, a, rfl, h⟩
theorem exS {P : PS → Prop} {o : Option SV} (e : SetAt ρ k o ρ') (h : P ρ') : ∃ ρ', SetAt ρ k o ρ' ∧ P ρ' := ⟨ρ', e, h⟩
end
end GB
namespace GB
open PySem PySem.Spec PyProof.Rows L2
/-- a def of the text, its name's value, how its arguments bind -/
structure Has (K : PySem.W.Frag) (mg : Str → Option Value) (x : Str) (st : Stmt) (ps : List Str) (f : Addr) (fd : FuncData) : Prop where
  fn : Fun K x x st f fd
  gl : mg x = some (.ref f)
  bd : Binds K fd ps []
/-- the truth of an int -/
theorem pb_tru {W : Wd} {n : Nat} {ρ : PS} {Ψ : Nat → Bool → Prop} {te : TE} {K : PySem.W.Frag} (h : PX W te n ρ fun n1 s => IsI s fun i => Ψ n1 (!decide (i = 0))) : PB W (tTru K te) n ρ Ψ := fun F mp σ H Q R o =>
  h F mp σ H _ R fun n1 F1 v s H1 h1 t1 R1 hv _ => by
    obtain ⟨i, rfl, h2⟩ := h1
    rw [dI hv]
    exact r_tru (o n1 F1 _ H1 h2 t1 R1)
/-! ### comprehensions -/
section
variable {W : Wd} {F F' : Hp} {mp : Option Addr} {n n' : Nat} {ρ ρ' ρ1 ρ2 : PS} {σ : L2.St} {H H' : Hp} {a : Addr} {k : Nat} {xs : List PyData} {Φ : Nat → SV → Prop} {wi : TI} {tt : TT} {te : TE} {vs : List Nat}
theorem Rel.wipe (R : Rel W F mp n ρ σ H) (e : SetAt ρ k none ρ') : Rel W F mp n ρ' (σ.set k none) H := by
  obtain ⟨rfl, hk⟩ := e.set
  have un : ∀ {i : Nat} {s}, (ρ.set k none)[i]? = some (some s) → k ≠ i ∧ ρ[i]? = some (some s) := fun {i s} h => by
    by_cases e : k = i
    · subst e; rw [List.getElem?_set_self hk] at h; cases h
    · rw [List.getElem?_set_ne e] at h; exact ⟨e, h⟩
  refine { R with len := by rw [List.length_set, List.length_set]; exact R.len, slots := fun i s h => ?_, nonew := fun i zs h => R.nonew i zs (un h).2, apart := fun i j b xs ys ne h1 h2 e1 e2 => ?_ }
  · obtain ⟨ne, h⟩ := un h
    obtain ⟨⟨w, h1, h2⟩, h3⟩ := R.slot h
    exact ⟨w, by rw [List.getElem?_set_ne ne]; exact h1, h2.re h3⟩
  · obtain ⟨n1, h1⟩ := un h1
    obtain ⟨n2, h2⟩ := un h2
    rw [List.getElem?_set_ne n1] at e1
    rw [List.getElem?_set_ne n2] at e2
    exact R.apart i j b xs ys ne h1 h2 e1 e2
/-- an object beside all that is told changes -/
theorem Rel.side {o : HO} (R : Rel W F mp n ρ σ H) (fa : F a = none) (ha : W.H0 a = none) (hm : mp ≠ some a) (ho : ∀ (i : Nat) zs, ρ[i]? = some (some (.own zs)) → σ[i]? ≠ some (some (V.ref a))) : Rel W F mp n ρ σ (upd H a o) := by
  have sub : Same F (upd H a o) := fun b u h => by
    have : b ≠ a := fun z => by subst z; rw [fa] at h; cases h
    rw [upd_ne this]; exact R.sub b u h
  refine { R with sub := sub, frame := fun b u h m => ?_, grow := fun b h => ?_, mem := fun p hp => ?_, slots := fun i s h => ?_ }
  · have : b ≠ a := fun z => by subst z; rw [ha] at h; cases h
    rw [upd_ne this]; exact R.frame b u h m
  · by_cases e : b = a
    · subst e; rw [upd_same]; intro y; cases y
    · rw [upd_ne e]; exact R.grow b h
  · obtain ⟨q1, q2, c, l, sd, sp, ns, d, e⟩ := R.mem p hp
    have pa : p ≠ a := fun z => by subst z; exact hm hp
    exact ⟨q1, q2, c, l, sd, sp, ns, { d with at_ := by rw [upd_ne pa]; exact d.at_, cells := SqL.up sub e }, e⟩
  · obtain ⟨⟨w, h1, h2⟩, h3⟩ := R.slot h
    refine ⟨w, h1, ?_⟩
    cases s with
    | own zs =>
      obtain ⟨b, rfl, ⟨us, y1, y2⟩, y3⟩ := h2
      have : b ≠ a := fun z => by subst z; exact ho i zs h h1
      exact ⟨b, rfl, ⟨us, by rw [upd_ne this]; exact y1, y2⟩, y3⟩
    | new zs => exact absurd rfl (h3 zs)
    | d x => exact h2
    | mem => exact h2
    | raw w => exact h2
def LcS (W : Wd) (k : Nat) (tt : TT) (te : TE) (n : Nat) (ρ : PS) (Φ : Nat → SV → Prop) (xs : List PyData) : Prop := ∃ I : Nat → Nat → List PyData → Prop, I 0 n [] ∧
  (∀ i x n acc, xs[i]? = some x → I i n acc → ∃ ρ', SetAt ρ k (some (.d x)) ρ' ∧ PB W tt n ρ' fun n2 b => Br b (PX W te n2 ρ' fun n3 s => ∃ y, s = .d y ∧ acc.length < 16000000 ∧ I (i + 1) n3 (acc ++ [y])) (I (i + 1) n2 acc)) ∧ ∀ n acc, I xs.length n acc → Φ n (.d (.list acc))
theorem px_lc (ek : vs = [k]) (h : PIt W wi n ρ fun n1 xs => LcS W k tt te n1 ρ Φ xs) (hk : k < ρ.length) : PX W (tLc wi (gName k) tt te vs) n ρ Φ := fun F mp σ H Q R o => by
  subst ek
  refine h F mp σ H _ R fun n1 F1 J xs H1 h1 t1 R1 it L hL => ?_
  obtain ⟨I, h0, hs, hd⟩ := h1
  have hk2 : k < σ.length := by rw [← R.len]; exact hk
  have own : ∀ (i : Nat) zs, ρ[i]? = some (some (.own zs)) → σ[i]? ≠ some (some (V.ref L)) := fun i zs e1 e2 => by
    obtain ⟨⟨w, q1, q2⟩, _⟩ := R1.slot e1
    rw [e2] at q1
    cases q1
    obtain ⟨b, e, ⟨us, y1, _⟩, _⟩ := q2
    cases e
    rw [hL] at y1; cases y1
  have hL0 := R1.h0 hL
  have mL : ∀ {F2 H2 : Hp} {n2 : Nat}, Rel W F2 mp n2 ρ σ H2 → (∃ u, H2 L = some (.lst u)) → mp ≠ some L := fun {F2 H2 n2} R2 ⟨u, e⟩ z => by
    obtain ⟨kvs, q⟩ := R2.memAt L z
    rw [e] at q; cases q
  obtain ⟨Ra, ta⟩ := R1.allocN (o := .lst []) hL
  refine ⟨fun i m H => i ≤ xs.length ∧ m = xs.length - i ∧ ∃ F2 n acc av, Step mp F1 H1 F2 H ∧ Rel W F2 mp n ρ σ H ∧ H L = some (.lst av) ∧ DpAll W.K F2 av acc ∧ F2 L = none ∧ I i n acc,
    ⟨_, Nat.zero_le _, rfl, F1, n1, [], [], ta, Ra, upd_same, .nil, R1.sub.free hL, h0⟩, ?_⟩
  rintro i m H ⟨hi, rfl, F2, n2, acc, av, t2, R2, atL, hdp, fL, hI⟩
  by_cases z : i = xs.length
  · subst z
    refine .inl ⟨it.stop F2 H t2.ext R2.sub, ?_⟩
    have R3 := R2
    have ext : Same F2 (upd F2 L (.lst av)) := same_new fL
    have t3 : Step mp F1 H1 (upd F2 L (.lst av)) H := ⟨t2.ext.trans ext, fun b hb => by
      by_cases e : b = L
      · subst e; exact .inr hL
      · rw [upd_ne e] at hb; exact t2.fresh b hb, t2.frame, t2.grow⟩
    have sub3 : Same (upd F2 L (.lst av)) H := fun b u hb => by
      by_cases e : b = L
      · subst e; rw [upd_same] at hb; cases hb; exact atL
      · rw [upd_ne e] at hb; exact R2.sub b u hb
    have R4 : Rel W (upd F2 L (.lst av)) mp n2 ρ σ H := R1.step t3 sub3 fun p hp => by
      obtain ⟨c, l, sd, sp, ns, d, e⟩ := (R2.mem p hp).2.2
      exact ⟨c, l, sd, sp, ns, d, SqL.up ext e⟩
    exact o n2 _ _ _ H (hd n2 acc hI) (t1.trans t3) R4 (.lst (sql_of upd_same) (DpAll.same ext hdp)) trivial
  · have lt : i < xs.length := by omega
    have e := List.getElem?_eq_getElem lt
    obtain ⟨go, yl⟩ := it.turn F2 H i xs[i] t2.ext R2.sub e
    refine .inr ⟨go, fun H' => ∃ F3 n acc av, Step mp F1 H1 F3 H' ∧ Rel W F3 mp n ρ σ H' ∧ H' L = some (.lst av) ∧ DpAll W.K F3 av acc ∧ F3 L = none ∧ I (i + 1) n acc, fun H' h => ⟨xs.length - (i + 1), by omega, by omega, rfl, h⟩, fun x H' hy => ?_⟩
    obtain ⟨F3, t3, s3, hx⟩ := yl x H' hy
    have t3' : Step mp F2 H F3 H' := ⟨t3.ext, t3.fresh, fun a o h _ => t3.frame a o h (by intro z; cases z), t3.grow⟩
    have R3 := R2.grown t3 s3
    have keepL : ∀ {F4 H4 : Hp}, Step mp F2 H F4 H4 → H4 L = some (.lst av) ∧ F4 L = none := fun {F4 H4} t => by
      refine ⟨t.frame L _ atL (mL R2 ⟨_, atL⟩), ?_⟩
      cases q : F4 L with
      | none => rfl
      | some u =>
        rcases t.fresh L (by rw [q]; intro y; cases y) with z | z
        · exact absurd fL z
        · rw [atL] at z; cases z
    obtain ⟨ρ', e1, hb⟩ := hs i xs[i] n2 acc e hI
    obtain ⟨rfl, _⟩ := e1.set
    show (wipe ((wipe σ [k]).set k (some x)) [k] = wipe σ [k]) ∧ _
    refine ⟨by show (((σ.set k none).set k (some x)).set k none) = σ.set k none; rw [List.set_set, List.set_set], ?_⟩
    have Rw : Rel W F3 mp n2 (ρ.set k (some (.d xs[i]))) ((σ.set k none).set k (some x)) H' := by
      have := R3.set (s := .d xs[i]) (v := x) (o := some (.d xs[i])) hx (fun _ z => by cases z) .d hk
      rw [List.set_set]
      exact this
    refine hb F3 mp _ H' _ Rw fun n4 F4 b H4 hB t4 R4 => Br.ite ⟨fun z => ?_, fun z => ?_⟩
    · refine hB.1 z F4 mp _ H4 _ R4 fun n5 F5 y s H5 h5 t5 R5 hv _ => ?_
      obtain ⟨yd, rfl, la, hI2⟩ := h5
      have t25 := (t3'.trans t4).trans t5
      obtain ⟨kL, kF⟩ := keepL t25
      have R6 : Rel W F5 mp n5 ρ σ H5 := R2.step t25 R5.sub fun p hp => (R5.mem p hp).2.2
      have esz : sizeLine = 16777216 := by decide
      refine ⟨av, kL, by rw [DpAll.len hdp]; omega, F5, n5, acc ++ [yd], av ++ [y], ?_, R6.side kF hL0 (mL R6 ⟨_, kL⟩) own, upd_same, DpAll.append (DpAll.same t25.ext hdp) (.cons hv .nil), kF, hI2⟩
      have t15 := t2.trans t25
      refine ⟨t15.ext, t15.fresh, fun b u hb m => ?_, fun b hb => ?_⟩
      · rw [upd_ne (ne_of_none hb hL)]; exact t15.frame b u hb m
      · by_cases e : b = L
        · subst e; exact absurd hL hb
        · rw [upd_ne e]; exact t15.grow b hb
    · have t24 := t3'.trans t4
      obtain ⟨kL, kF⟩ := keepL t24
      have R6 : Rel W F4 mp n4 ρ σ H4 := R2.step t24 R4.sub fun p hp => (R4.mem p hp).2.2
      exact ⟨F4, n4, acc, av, t2.trans t24, R6, kL, DpAll.same t24.ext hdp, kF, hB.2 z⟩
end
/-! ### defs -/
def FE (Φ : Nat → SV → Prop) : PEnds := ⟨fun n _ => Φ n (.d .none), Φ, fun _ _ => False, fun _ _ => False⟩
def st0 (m : Nat) (ss : List SV) : PS := ss.map some ++ List.replicate (m - ss.length) none
inductive St0 : List SV → Nat → PS → Prop
  | nil : St0 [] 0 []
  | none {m ρ} : St0 [] m ρ → St0 [] (m + 1) (none :: ρ)
  | cons {s ss m ρ} : St0 ss m ρ → St0 (s :: ss) (m + 1) (some s :: ρ)
theorem St0.eq {ss : List SV} {m : Nat} {ρ : PS} (h : St0 ss m ρ) : st0 m ss = ρ := by
  unfold st0
  induction h with
  | nil => rfl
  | none _ ih => rw [← ih]; simp [List.replicate_succ]
  | cons _ ih => rw [← ih]; simp
theorem pz_st {W : Wd} {t : TS} {n m m' : Nat} {ss : List SV} {ρ : PS} {E : PEnds} (em : m = m') (e : St0 ss m' ρ) (h : PZ W t n ρ E) : PZ W t n (st0 m ss) E := em ▸ e.eq ▸ h
section
variable {P : Program} {w : World} {K : PySem.W.Frag} {mg : Str → Option Value} {base : Heap}
theorem VSs.at_ {F : Hp} {mp : Option Addr} : ∀ {vs : List V} {ss : List SV} {i : Nat} {s : SV}, VSs K F mp vs ss → ss[i]? = some s → ∃ v, vs[i]? = some v ∧ VS K F mp v s
  | _, _, 0, _, .cons h _, e => by cases e; exact ⟨_, rfl, h⟩
  | _, _, i + 1, _, .cons _ g, e => by
    obtain ⟨v, h1, h2⟩ := VSs.at_ (i := i) g (by simpa using e)
    exact ⟨v, by simpa using h1, h2⟩
theorem rel0 {F H : Hp} {mp : Option Addr} {n m : Nat} {vs : List V} {ss : List SV} (sub : Same F H) (dr : ∀ p, mp = some p → F p = none ∧ DrawsF K F p n H) (h : VSs K F mp vs ss) : Rel ⟨K, F, H, mp⟩ F mp n (st0 m ss) (vs.map some ++ List.replicate (m - vs.length) none) H := by
  have key : ∀ (i : Nat) s, (st0 m ss)[i]? = some (some s) → ss[i]? = some s := fun i s e => by
    unfold st0 at e
    by_cases l : i < ss.length
    · rw [List.getElem?_append_left (by rw [List.length_map]; exact l), List.getElem?_map] at e
      obtain ⟨x, h1, h2⟩ := Option.map_eq_some_iff.mp e
      cases h2
      exact h1
    · rw [List.getElem?_append_right (by rw [List.length_map]; omega), List.getElem?_replicate] at e
      split at e
      · cases e
      · cases e
  refine ⟨sub, Same.refl F, fun a h => .inl h, fun a o h _ => h, fun a h => h, fun p hp => ⟨(dr p hp).1, .inl hp, (dr p hp).2⟩, fun p h => h, ?_, fun i s e => ?_, fun i xs e => (let ⟨_, _, h2⟩ := h.at_ (key i _ e); h2), fun i j a xs ys _ e1 _ _ _ => ?_⟩
  · unfold st0
    rw [List.length_append, List.length_append, List.length_map, List.length_map, List.length_replicate, List.length_replicate, h.len]
  · obtain ⟨v, h1, h2⟩ := h.at_ (key i s e)
    refine ⟨v, ?_, (VS.ok h2).1⟩
    have l := (List.getElem?_eq_some_iff.mp h1).1
    rw [List.getElem?_append_left (by rw [List.length_map]; exact l), List.getElem?_map, h1]
    rfl
  · obtain ⟨v, _, h2⟩ := h.at_ (key i _ e1)
    exact h2.elim
theorem fin0 {F H : Hp} {mp : Option Addr} {Φ : Nat → SV → Prop} {Q : VK} (q : ∀ n' s F' v H', Φ n' s → Step mp F H F' H' → Same F' H' → (∀ p, mp = some p → DrawsF K F' p n' H') → VS K F' mp v s → Q v H') :
    DOk ⟨K, F, H, mp⟩ F (FE Φ) { nx := fun _ H' => Q .non H', rt := Q } := by
  have stp : ∀ {F' : Hp} {mp' : Option Addr} {n : Nat} {ρ : PS} {σ : L2.St} {H' : Hp}, Rel ⟨K, F, H, mp⟩ F' mp' n ρ σ H' → Step mp F H F' H' ∧ ∀ p, mp = some p → DrawsF K F' p n H' := fun {F' mp' n ρ σ H'} R =>
    ⟨⟨R.base, R.fresh, fun a o h m => R.frame a o h m, R.grow⟩, fun p hp => (R.mem p (R.keep p hp)).2.2⟩
  refine ⟨fun F' mp' n ρ σ H' h _ R => ?_, fun F' mp' n ρ σ H' v s h _ R hv => ?_, fun _ _ _ _ _ _ h _ _ => h.elim, fun _ _ _ _ _ _ h _ _ => h.elim⟩
  · exact q n (.d .none) F' .non H' h (stp R).1 R.sub (stp R).2 .non
  · obtain ⟨s', ra, h⟩ := h
    obtain ⟨t, dr⟩ := stp R
    have own : ∀ xs a, v = .ref a → OwnAt ⟨K, F, H, mp⟩ F' H' a xs → Φ n (.d (.list xs)) → Q v H' := fun xs a e ow h => by
      subst e
      obtain ⟨⟨vs, h1, h2⟩, fa, ha⟩ := ow
      have ext : Same F' (upd F' a (.lst vs)) := same_new fa
      refine q n (.d (.list xs)) (upd F' a (.lst vs)) (.ref a) H' h ⟨t.ext.trans ext, fun b hb => ?_, t.frame, t.grow⟩ (fun b u hb => ?_) (fun p hp => ?_) (.lst (sql_of upd_same) (DpAll.same ext h2))
      · by_cases e : b = a
        · subst e; exact .inr ha
        · rw [upd_ne e] at hb; exact t.fresh b hb
      · by_cases e : b = a
        · subst e; rw [upd_same] at hb; cases hb; exact h1
        · rw [upd_ne e] at hb; exact R.sub b u hb
      · obtain ⟨c, l, sd, sp, ns, d, e⟩ := dr p hp
        exact ⟨c, l, sd, sp, ns, d, SqL.up ext e⟩
    cases ra with
    | d => exact q n _ F' v H' h t R.sub dr hv
    | own => obtain ⟨a, e, ow⟩ := hv; exact own _ a e ow h
    | new => obtain ⟨a, e, ow⟩ := hv; exact own _ a e ow h
    | raw => exact q n _ F' v H' h t R.sub dr hv
theorem fnU {x : Str} {st : Stmt} {f : Addr} {fd : FuncData} {names ps : List Str} {lev : Nat} (h : Has K mg x st ps f fd) (sc : FnScope names ps (defScope st)) (S : PSp) (ar : ∀ n ss Φ, S n ss Φ → ss.length = ps.length)
    (body : ∀ (cdv : Value) (A : Around) (outer : List Env) (s : Shared) (H : Hp) (E : XK), Room lev (A.deeper (envOfC x (defScope st) s.heap.objs.size f cdv)) → ∀ (F0 : Hp) (m0 : Option Addr) n ss Φ, S n ss Φ →
      ∃ t, PSs (cxOf CX0 P w K mg base names x (defScope st) f cdv A outer s H E).nox (defBody st) t ∧ PZ ⟨K, F0, H, m0⟩ t n (st0 names.length ss) (FE Φ)) : FnOk P w K mg base CX0 (lev + 1) f fd ps (spU K S) := by
  refine h.fn.ok sc (fun vs H Q E h => ?_) (fun cdv A outer s H vs Q E hr h => ?_)
  · obtain ⟨F, mp, n, ss, Φ, _, _, hv, hs, _⟩ := h
    rw [hv.len]; exact ar _ _ _ hs
  · obtain ⟨F, mp, n, ss, Φ, sub, dr, hv, hs, q⟩ := h
    obtain ⟨t, der, rd⟩ := body cdv A outer s H E hr F mp n ss Φ hs
    refine ⟨t, der, rd F mp _ H _ (rel0 sub dr hv) (fin0 q)⟩
theorem fnUG {x : Str} {st : Stmt} {f : Addr} {fd : FuncData} {names ps : List Str} {lev : Nat} (h : Has K mg x st ps f fd) (sc : FnScope names ps (defScope st)) (S : PSp) (ar : ∀ n ss Φ, S n ss Φ → ss.length = ps.length)
    (body : ∀ (cdv : Value) (A : Around) (outer : List Env) (s : Shared) (H : Hp) (E : XK), (A.deeper (envOfC x (defScope st) s.heap.objs.size f cdv)).guards = some [] → Room lev (A.deeper (envOfC x (defScope st) s.heap.objs.size f cdv)) → ∀ (F0 : Hp) (m0 : Option Addr) n ss Φ, S n ss Φ →
      ∃ t, PSs (cxOf CX0 P w K mg base names x (defScope st) f cdv A outer s H E).nox (defBody st) t ∧ PZ ⟨K, F0, H, m0⟩ t n (st0 names.length ss) (FE Φ)) : GOk P w K mg base CX0 (lev + 1) f fd ps (spU K S) := by
  refine fun_okG h.fn sc (fun vs H Q E h => ?_) (fun cdv A outer s H vs Q E ng hr h => ?_)
  · obtain ⟨F, mp, n, ss, Φ, _, _, hv, hs, _⟩ := h
    rw [hv.len]; exact ar _ _ _ hs
  · obtain ⟨F, mp, n, ss, Φ, sub, dr, hv, hs, q⟩ := h
    obtain ⟨t, der, rd⟩ := body cdv A outer s H E ng hr F mp n ss Φ hs
    exact ⟨t, der, rd F mp _ H _ (rel0 sub dr hv) (fin0 q)⟩
def spLaw (K : PySem.W.Frag) : Sp := fun vs H Q _ => ∃ (a : Addr) (ns : List Int), vs = [.ref a] ∧ SqL K H a (ns.map V.int) ∧ ns.length ≤ 63 ∧ (∀ x ∈ ns, Bt 1048576 x) ∧ ∀ H', Q (.bl true) H'
def isTrueV : Nat → SV → Prop := fun _ s => s = .d (.bool true)
/-- the law's own def -/
theorem lawU {x : Str} {st : Stmt} {f : Addr} {fd : FuncData} {names ps : List Str} {lev : Nat} (h : Has K mg x st ps f fd) (sc : FnScope names ps (defScope st)) (one : ps.length = 1)
    (body : ∀ (cdv : Value) (A : Around) (outer : List Env) (s : Shared) (H : Hp) (E : XK), (A.deeper (envOfC x (defScope st) s.heap.objs.size f cdv)).guards = some [] → Room lev (A.deeper (envOfC x (defScope st) s.heap.objs.size f cdv)) → ∀ (F0 : Hp) (ns : List Int), ns.length ≤ 63 → (∀ x ∈ ns, Bt 1048576 x) →
      ∃ t, PSs (cxOf CX0 P w K mg base names x (defScope st) f cdv A outer s H E).nox (defBody st) t ∧ PZ ⟨K, F0, H, none⟩ t 0 (st0 names.length [.d (.list (ns.map PyData.int))]) (FE isTrueV)) : GOk P w K mg base CX0 (lev + 1) f fd ps (spLaw K) := by
  refine fun_okG h.fn sc (fun vs H Q E h => ?_) (fun cdv A outer s H vs Q E ng hr h => ?_)
  · obtain ⟨a, ns, rfl, _⟩ := h
    exact one.symm
  · obtain ⟨a, ns, rfl, hS, hl, hb, q⟩ := h
    obtain ⟨t, der, rd⟩ := body cdv A outer s H E ng hr H ns hl hb
    refine ⟨t, der, rd H none _ H _ (rel0 (Same.refl H) (fun p e => by cases e) (.cons (v := .ref a) (s := .d (.list (ns.map PyData.int))) (Dp.ints hS) .nil)) (fin0 fun n' s F' v H' hs _ _ _ hv => ?_)⟩
    subst hs
    cases hv
    exact q H'
/-! ### the law's drawn numbers -/
def SDraw : PSp := fun n ss Φ => ∃ b : Int, ss = [.mem, .d (.int b)] ∧ n ≤ 1000000000000 ∧ 0 < b ∧ Bt 8999 b ∧ ∀ v : Int, 0 ≤ v → v < b → Φ (n + 1) (.d (.int v))
def SOf : PSp := fun n ss Φ => ∃ xs : List PyData, ss = [.mem, .d (.list xs)] ∧ n ≤ 1000000000000 ∧ xs ≠ [] ∧ xs.length ≤ 100000 ∧ ∀ d ∈ xs, Φ (n + 1) (.d d)
def SLike : PSp := fun n ss Φ => ∃ d : PyData, ss = [.d d, .d d] ∧ Shows d ∧ Φ n (.d (.bool true))
theorem DrawsF.step {F H H' : Hp} {p : Addr} {n : Nat} (h : DrawsF K F p n H) (k : Kd p H H') (h' : Draws K p (n + 1) H') : DrawsF K F p (n + 1) H' := by
  obtain ⟨c, l, sd, sp, ns, d, e⟩ := h
  obtain ⟨l', sd', sp', d'⟩ := d.keep k h'
  exact ⟨c, l', sd', sp', ns, d', e⟩
theorem Step.kd {F H H' : Hp} {p : Addr} (k : Kd p H H') (hp : ∃ kvs, H p = some (.dK kvs)) (h' : ∃ kvs, H' p = some (.dK kvs)) : Step (some p) F H F H' :=
  ⟨Same.refl F, fun _ h => .inl h, fun a o h m => k.1 a o (fun z => m (by rw [z])) h, fun a h => by
    by_cases e : a = p
    · subst e
      obtain ⟨kvs, q⟩ := h'
      rw [q]; intro z; cases z
    · cases q : H a with
      | none => exact absurd q h
      | some o => rw [k.1 a o e q]; intro z; cases z⟩
theorem Same.kd {F H H' : Hp} {p : Addr} (s : Same F H) (fp : F p = none) (k : Kd p H H') : Same F H' := fun b o h => k.1 b o (fun z => by subst z; rw [fp] at h; cases h) (s b o h)
theorem vs_memI {F : Hp} {mp : Option Addr} {vs : List V} {b : Int} (h : VSs K F mp vs [.mem, .d (.int b)]) : ∃ p, mp = some p ∧ vs = [.ref p, .int b] := by
  cases h with
  | cons a r =>
    cases r with
    | cons c r =>
      cases r
      obtain ⟨p, rfl, e⟩ := a
      cases c
      exact ⟨p, e, rfl⟩
theorem draw_U {lev : Nat} {f : Addr} {fd : FuncData} {ps : List Str} (h : FnOk P w K mg base CX0 lev f fd ps (spDrawD K)) : FnOk P w K mg base CX0 lev f fd ps (spU K SDraw) := h.imp fun vs H Q E h => by
  obtain ⟨F, mp, n, ss, Φ, sub, dr, hv, ⟨b, rfl, hn, hb, bb, hd⟩, q⟩ := h
  obtain ⟨p, rfl, rfl⟩ := vs_memI hv
  obtain ⟨fp, dF⟩ := dr p rfl
  refine ⟨p, b, n, rfl, dF.all, hn, hb, bb, fun v H' v0 v1 k d' => ?_⟩
  exact q (n + 1) (.d (.int v)) F (.int v) H' (hd v v0 v1) (Step.kd k dF.at_ d'.at_) (Same.kd sub fp k) (fun p' e => by cases e; exact dF.step k d') (.int v)
theorem of_U {lev : Nat} {f : Addr} {fd : FuncData} {ps : List Str} (h : FnOk P w K mg base CX0 lev f fd ps (spOfD K)) : FnOk P w K mg base CX0 lev f fd ps (spU K SOf) := h.imp fun vs H Q E h => by
  obtain ⟨F, mp, n, ss, Φ, sub, dr, hv, ⟨xs, rfl, hn, ne, hl, hd⟩, q⟩ := h
  cases hv with
  | cons a r =>
    cases r with
    | cons c r =>
      cases r
      obtain ⟨p, rfl, rfl⟩ := a
      obtain ⟨fp, dF⟩ := dr p rfl
      obtain ⟨l, ws, rfl, h3, h4⟩ := dL (W := ⟨K, F, H, none⟩) (mp := none) (σ := []) (H := H) c
      have el := DpAll.len h4
      refine ⟨p, l, n, ws, rfl, dF.all, hn, SqL.up sub h3, fun z => ?_, small_of (by rw [el]; exact hl), fun i v H' hi k d' => ?_⟩
      · rw [z] at el
        exact ne (List.length_eq_zero_iff.mp el.symm)
      · obtain ⟨x, e1, e2⟩ := DpAll.at' h4 hi
        exact q (n + 1) (.d x) F v H' (hd x (List.mem_of_getElem? e1)) (Step.kd k dF.at_ d'.at_) (Same.kd sub fp k) (fun p' e => by cases e; exact dF.step k d') e2
theorem GOk.imp {lev : Nat} {f : Addr} {fd : FuncData} {ps : List Str} {sp sp' : Sp} (F : GOk P w K mg base CX0 lev f fd ps sp) (h : ∀ vs H Q E, sp' vs H Q E → sp vs H Q E) : GOk P w K mg base CX0 lev f fd ps sp' :=
  ⟨fun vs H Q E q => F.arity vs H Q E (h _ _ _ _ q), fun A outer s H args us vs Q E hg hr he hb hv hs => F.go A outer s H args us vs Q E hg hr he hb hv (h _ _ _ _ hs)⟩
theorem like_U {lev : Nat} {f : Addr} {fd : FuncData} {ps : List Str} (h : GOk P w K mg base CX0 lev f fd ps (spLike K)) : GOk P w K mg base CX0 lev f fd ps (spU K SLike) := h.imp fun vs H Q E h => by
  obtain ⟨F, mp, n, ss, Φ, sub, dr, hv, ⟨d, rfl, sh, hΦ⟩, q⟩ := h
  cases hv with
  | cons a r =>
    cases r with
    | cons c r =>
      cases r
      exact ⟨_, _, d, rfl, Dp.same sub a, Dp.same sub c, sh, q n _ F _ H hΦ (Step.refl _ _ _) sub (fun p e => (dr p e).2) (.bl true)⟩
/-- the begun draws, with their cells -/
def spBegunF (K : PySem.W.Frag) : Sp := fun vs H Q _ => ∃ (a : Addr) (k : Int) (ns : List Int), vs = [.ref a, .int k] ∧ SqL K H a (ns.map V.int) ∧ ns.length ≤ 63 ∧ (∀ x ∈ ns, Bt 1048576 x) ∧ 0 ≤ k ∧ k ≤ 1000000 ∧
  ∀ p c l sd sp ns' H', H p = none → H c = none → Same H H' → H' c = some (.lst (ns'.map V.int)) → DrawsAt K p 0 H' c l sd sp ns' → Q (.ref p) H'
end
section
variable {W : Wd} {n : Nat} {ρ ρ' ρ1 : PS} {E : PEnds} {k : Nat} {tA : TA} {K : PySem.W.Frag} {XE : XK}
theorem ints_of {F : Hp} : ∀ {vs : List V} {ns : List Int}, DpAll K F vs (ns.map PyData.int) → vs = ns.map V.int
  | [], [], _ => rfl
  | _ :: _, [], h => by cases h
  | [], _ :: _, h => by cases h
  | v :: vs, m :: ns, h => by
    cases h with
    | cons a b =>
      cases a
      rw [List.map_cons, ints_of b]
def Beg (ss : List SV) (ρ : PS) (k : Nat) (P : PS → Prop) : Prop := ∃ (ns : List Int) (j : Int), ss = [.d (.list (ns.map PyData.int)), .d (.int j)] ∧ ns.length ≤ 63 ∧ (∀ x ∈ ns, Bt 1048576 x) ∧ 0 ≤ j ∧ j ≤ 1000000 ∧ ∃ ρ1 ρ', NoMem ρ ρ1 ∧ SetAt ρ1 k (some .mem) ρ' ∧ P ρ'
theorem beg {ns : List Int} {j : Int} {P : PS → Prop} (l : ns.length ≤ 63) (b : ∀ x ∈ ns, Bt 1048576 x) (j0 : 0 ≤ j) (j1 : j ≤ 1000000) (nm : NoMem ρ ρ1) (e : SetAt ρ1 k (some .mem) ρ') (h : P ρ') : Beg [.d (.list (ns.map PyData.int)), .d (.int j)] ρ k P := ⟨ns, j, rfl, l, b, j0, j1, ρ1, ρ', nm, e, h⟩
theorem nm_keep {x : SV} {r r' : PS} (h : NoMem r r') (n : x ≠ .mem) : NoMem (some x :: r) (some x :: r') := .keep h fun z => n (Option.some.inj z)
theorem pz_begun (eK : K = W.K) (m0 : W.m0 = none) (h : PAs W tA n ρ fun n1 ss => Beg ss ρ k (E.nx 0)) : PZ W (tAsg (tCall (spBegunF K) [] XE tA) (gName k)) n ρ E := fun F mp σ H D R d =>
  h F mp σ H _ R fun n1 F1 vs ss H1 h1 t1 R1 hvs _ => by
    subst eK
    obtain ⟨ns, j, rfl, l63, hb, j0, j1, ρ1, ρ', nm, e, hN⟩ := h1
    obtain ⟨v, w, rfl, hv, hw⟩ := aok2 hvs
    obtain ⟨a, ws, rfl, h3, h4⟩ := dL hv
    rw [ints_of h4] at h3
    rw [dI hw]
    show spBegunF W.K ([V.ref a, V.int j] ++ []) H1 _ _
    refine ⟨a, j, ns, rfl, SqL.up R1.sub h3, l63, hb, j0, j1, fun p c l sd sp ns' H' hp hc sm atc dr => ?_⟩
    obtain ⟨fg, nmem⟩ := nm.get
    obtain ⟨rfl, hk⟩ := e.set
    have pc : p ≠ c := fun z => by subst z; have := dr.at_; rw [atc] at this; cases this
    have fc : F1 c = none := R1.sub.free hc
    have fp : F1 p = none := R1.sub.free hp
    have ext : Same F1 (upd F1 c (.lst (ns'.map V.int))) := same_new fc
    have R1' := R1.forget fg
    -- the told part behind the call
    have R2 : Rel W (upd F1 c (.lst (ns'.map V.int))) (some p) 0 ρ1 σ H' := by
      refine ⟨fun b u hb => ?_, R1.base.trans ext, fun b hb => ?_, fun b u hb m => sm b u (R1.frame b u hb m), fun b hb => ?_, fun p' e => ?_, fun p' e => (by rw [m0] at e; cases e), R1'.len, fun i s hs => ?_, R1'.nonew, R1'.apart⟩
      · by_cases e : b = c
        · subst e; rw [upd_same] at hb; cases hb; exact atc
        · rw [upd_ne e] at hb; exact sm b u (R1.sub b u hb)
      · by_cases e : b = c
        · subst e; exact .inr (R1.h0 hc)
        · rw [upd_ne e] at hb; exact R1.fresh b hb
      · cases q : H1 b with
        | none => exact absurd q (R1.grow b hb)
        | some u => rw [sm b u q]; intro z; cases z
      · cases e
        exact ⟨by rw [upd_ne pc]; exact fp, .inr (R1.h0 hp), c, l, sd, sp, ns', dr, sql_of upd_same⟩
      · obtain ⟨⟨u, q1, q2⟩, q3⟩ := R1'.slot hs
        refine ⟨u, q1, ?_⟩
        cases s with
        | d x => exact Dp.same ext q2
        | own zs =>
          obtain ⟨b, rfl, ⟨us, y1, y2⟩, y3, y4⟩ := q2
          have : b ≠ c := ne_of_none y1 hc
          exact ⟨b, rfl, ⟨us, sm _ _ y1, DpAll.same ext y2⟩, by rw [upd_ne this]; exact y3, y4⟩
        | new zs => exact absurd rfl (q3 zs)
        | mem => exact absurd hs (nmem i)
        | raw z => exact q2
    exact d.nx _ (some p) 0 _ _ H' hN (t1.ext.trans ext) (R2.set (s := .mem) ⟨p, rfl, rfl⟩ (fun _ z => by cases z) .mem hk)
end
instance BtC.lesser {x y : Int} {n m : Nat} [a : BtC x n] [b : BtC y m] : BtC (min x y) (max n m) := ⟨by
  have h1 := a.bt.mono (show n + 1 ≤ max n m + 1 by omega)
  have h2 := b.bt.mono (show m + 1 ≤ max n m + 1 by omega)
  rcases Int.le_total x y with z | z
  · rw [Int.min_eq_left z]; exact h1
  · rw [Int.min_eq_right z]; exact h2⟩
instance BtC.greater {x y : Int} {n m : Nat} [a : BtC x n] [b : BtC y m] : BtC (max x y) (max n m) := ⟨by
  have h1 := a.bt.mono (show n + 1 ≤ max n m + 1 by omega)
  have h2 := b.bt.mono (show m + 1 ≤ max n m + 1 by omega)
  rcases Int.le_total x y with z | z
  · rw [Int.max_eq_right z]; exact h2
  · rw [Int.max_eq_left z]; exact h1⟩
/-! ### short ways -/
theorem pe_powC {X : Cx} {a b : Expr} {pos : Pos} {i j c : Int} (ha : PE X a (tC (.int i))) (hb : PE X b (tC (.int j))) (hc : CPowB i j) (e : i ^ j.toNat = c) : PE X (.BinOp a .Pow b pos) (tC (.int c)) := by
  have h := pe_op (pos := pos) op_powB ha hb
  refine ⟨fun pins s σ H Q I q => h.run pins s σ H Q I ⟨i, j, rfl, rfl, hc, ?_⟩⟩
  show Q (.int (i ^ j.toNat)) H
  rw [e]
  exact q
inductive AllD (P : PyData → Prop) : List PyData → Prop
  | nil : AllD P []
  | cons {x xs} : P x → AllD P xs → AllD P (x :: xs)
theorem AllD.mem {P : PyData → Prop} {xs : List PyData} (h : AllD P xs) : ∀ d ∈ xs, P d := by
  induction h with
  | nil => intro d hd; exact (List.not_mem_nil hd).elim
  | cons a _ ih =>
    intro d hd
    rcases List.mem_cons.mp hd with rfl | hd
    · exact a
    · exact ih d hd
section
variable {n : Nat} {Φ : Nat → SV → Prop} {b : Int} {xs : List PyData} {d e : PyData}
theorem draw_s (h1 : n ≤ 1000000000000) (h2 : 0 < b) (h3 : Bt 8999 b) (h : ∀ v : Int, 0 ≤ v → v < b → Φ (n + 1) (.d (.int v))) : CallS SDraw n [.mem, .d (.int b)] Φ := ⟨rfl, b, rfl, h1, h2, h3, h⟩
/-- a draw below a small bound -/
theorem draw_t (h1 : n ≤ 1000000000000) (h2 : 0 < b) (h3 : b < 2 ^ 62) (h : ∀ v : Int, 0 ≤ v → v < b → Φ (n + 1) (.d (.int v))) : CallS SDraw n [.mem, .d (.int b)] Φ := draw_s h1 h2 ((Bt.small (by omega) h3).mono (by decide)) h
theorem of_s (P : PyData → Prop) (h1 : n ≤ 1000000000000) (ne : xs ≠ []) (l : xs.length ≤ 100000) (h : AllD P xs) (k : ∀ d, P d → Φ (n + 1) (.d d)) : CallS SOf n [.mem, .d (.list xs)] Φ := ⟨rfl, xs, rfl, h1, ne, l, fun d hd => k d (h.mem d hd)⟩
theorem like_s (s : Shows d) (h : Φ n (.d (.bool true))) : CallS SLike n [.d d, .d d] Φ := ⟨rfl, d, rfl, s, h⟩
theorem like_e (z : d = e) (s : Shows d) (h : Φ n (.d (.bool true))) : CallS SLike n [.d d, .d e] Φ := z ▸ like_s s h
theorem po_eqR {W : Wd} {ρ : PS} {K : PySem.W.Frag} {b m l : Nat} (eK : K = W.K) (z : d = e) (f : Fine b m l d) (lm : m ≤ 60) (h : Φ n (.d (.bool true))) : POp W (rEqD K) n ρ (.d d) (.d e) Φ := by
  subst z
  refine po_eqD eK (f.shaped lm) (f.shaped lm) ?_
  rw [f.eqv]; exact h
theorem po_neR {W : Wd} {ρ : PS} {K : PySem.W.Frag} {b m l : Nat} (eK : K = W.K) (z : d = e) (f : Fine b m l d) (lm : m ≤ 60) (h : Φ n (.d (.bool false))) : POp W (rNeD K) n ρ (.d d) (.d e) Φ := by
  subst z
  refine po_neD eK (f.shaped lm) (f.shaped lm) ?_
  rw [f.eqv]; exact h
section
variable {W : Wd} {ρ : PS} {i j : Int}
theorem po_mul (hc : CMulB i j) (h : Φ n (.d (.int (i * j)))) : POp W (rI CMulB fun i j => .int (i * j)) n ρ (.d (.int i)) (.d (.int j)) Φ := po_I hc h
theorem po_mod (hc : 0 < j) (h : Φ n (.d (.int (i % j)))) : POp W (rI (fun _ j => 0 < j) fun i j => .int (i % j)) n ρ (.d (.int i)) (.d (.int j)) Φ := po_I hc h
theorem po_modN (hc : j ≠ 0) (h : Φ n (.d (.int (i.fmod j)))) : POp W (rI (fun _ j => j ≠ 0) fun i j => .int (i.fmod j)) n ρ (.d (.int i)) (.d (.int j)) Φ := po_I hc h
theorem po_div (hc : CDivW i j) (h : Φ n (.d (.int (i / j)))) : POp W (rI CDivW fun i j => .int (i / j)) n ρ (.d (.int i)) (.d (.int j)) Φ := po_I hc h
theorem po_divZ (hc : CDivZ i j) (h : Φ n (.d (.int (i.fdiv j)))) : POp W (rI CDivZ fun i j => .int (i.fdiv j)) n ρ (.d (.int i)) (.d (.int j)) Φ := po_I hc h
theorem po_pow (hc : CPow i j) (h : Φ n (.d (.int (i ^ j.toNat)))) : POp W (rI CPow fun i j => .int (i ^ j.toNat)) n ρ (.d (.int i)) (.d (.int j)) Φ := po_I hc h
theorem po_powB (hc : CPowB i j) (h : Φ n (.d (.int (i ^ j.toNat)))) : POp W (rI CPowB fun i j => .int (i ^ j.toNat)) n ρ (.d (.int i)) (.d (.int j)) Φ := po_I hc h
theorem po_shl (hc : CPow i j) (h : Φ n (.d (.int (i * 2 ^ j.toNat)))) : POp W (rI CPow fun i j => .int (i * 2 ^ j.toNat)) n ρ (.d (.int i)) (.d (.int j)) Φ := po_I hc h
theorem po_shlW (hc : CShl i j) (h : Φ n (.d (.int (i * 2 ^ j.toNat)))) : POp W (rI CShl fun i j => .int (i * 2 ^ j.toNat)) n ρ (.d (.int i)) (.d (.int j)) Φ := po_I hc h
theorem po_shr (hc : 0 ≤ j) (h : Φ n (.d (.int (i / 2 ^ j.toNat)))) : POp W (rI (fun _ j => 0 ≤ j) fun i j => .int (i / 2 ^ j.toNat)) n ρ (.d (.int i)) (.d (.int j)) Φ := po_I hc h
end
end
end GB
namespace GB
open PySem PySem.Spec PyProof.Rows L2 RZ
/-! ### kinds of data -/
def tyD : PyData → String
  | .none => "NoneType"
  | .bool _ => "bool"
  | .int _ => "int"
  | .str _ => "str"
  | .list _ => "list"
  | .tuple _ => "tuple"
  | _ => "object"
theorem tyX_of {K : PySem.W.Frag} {F H : Hp} {v : V} {d : PyData} (S : Same F H) (h : Dp K F v d) : TyX K H v (.type (tyD d)) := by
  cases h with
  | non => exact .base .non
  | bl b => exact .base (.bl b)
  | int i => exact .base (.int i)
  | str x => exact .base (.str x)
  | lst h _ =>
    rcases h with (h | ⟨o, h⟩) | ⟨o, its, n, hk, hc, _⟩
    · exact .base (.lst (S _ _ h))
    · exact .base (.frz (S _ _ h))
    · exact .kList hk hc
  | tup h _ =>
    rcases h with (h | ⟨o, h⟩) | ⟨o, its, n, hk, hc, _⟩
    · exact .base (.tup (S _ _ h))
    · exact .fTuple (S _ _ h)
    · exact .kTuple hk hc
def isD (d : PyData) (t : String) : Bool := tyD d == t || (t == "int" && tyD d == "bool")
def KitD (K : PySem.W.Frag) (t : String) : Prop := ∀ d : PyData, (∃ v F, Dp K F v d) → PySem.W.kitOne K (.type (tyD d)) (.type t) = some (isD d t)
theorem kitD {K : PySem.W.Frag} {t : String} (h : ∀ x ∈ (["NoneType", "bool", "int", "str", "list", "tuple"] : List String), PySem.W.kitOne K (.type x) (.type t) = some (x == t || (t == "int" && x == "bool"))) : KitD K t := fun d ⟨v, F, hd⟩ => by
  cases hd with
  | non => exact h "NoneType" (by decide)
  | bl b => exact h "bool" (by decide)
  | int i => exact h "int" (by decide)
  | str x => exact h "str" (by decide)
  | lst h1 _ => exact h "list" (by decide)
  | tup h1 _ => exact h "tuple" (by decide)
theorem kd_int {K : PySem.W.Frag} : KitD K "int" := kitD fun x hx => L2.kit_ty (by revert x; decide +kernel)
theorem kd_bool {K : PySem.W.Frag} : KitD K "bool" := kitD fun x hx => L2.kit_ty (by revert x; decide +kernel)
theorem kd_tuple {K : PySem.W.Frag} : KitD K "tuple" := kitD fun x hx => L2.kit_ty (by revert x; decide +kernel)
theorem kd_list {K : PySem.W.Frag} : KitD K "list" := kitD fun x hx => L2.kit_ty (by revert x; decide +kernel)
theorem kd_str {K : PySem.W.Frag} : KitD K "str" := kitD fun x hx => L2.kit_ty (by revert x; decide +kernel)
section
variable {W : Wd} {n : Nat} {ρ : PS} {Φ : Nat → SV → Prop} {ΦL : Nat → List PyData → Prop} {K : PySem.W.Frag} {tA : TA} {i j a b c d : Int}
theorem px_ty {t : String} (h : Φ n (.raw (.ty t))) : PX W (tC (.ty t)) n ρ Φ := fun F mp σ H Q R o => o.pure (s := .raw (.ty t)) R h rfl fun _ z => by cases z
theorem pc_isi {x : PyData} {t : String} (e : K = W.K) (kt : KitD W.K t) (h : Φ n (.d (.bool (isD x t)))) : PCa W (rIsi K) n ρ [.d x, .raw (.ty t)] Φ := fun F mp σ H Q vs R hv o => by
  subst e
  obtain ⟨v, w, rfl, h1, h2⟩ := aok2 hv
  cases (show w = V.ty t from h2)
  exact ⟨v, .ty t, _, _, isD x t, rfl, .ty t, tyX_of R.sub h1, kt x ⟨v, F, h1⟩, o.bool R h⟩
/-- (a, b) <= (c, d) -/
theorem po_leP (e : K = W.K) (h : Φ n (.d (.bool (decide (a < c ∨ (a = c ∧ b ≤ d)))))) : POp W (rLeT K) n ρ (.d (.tuple [.int a, .int b])) (.d (.tuple [.int c, .int d])) Φ := fun F mp σ H Q v1 v2 R h1 h2 o => by
  subst e
  obtain ⟨p, vs, rfl, h3, h4⟩ := dT h1
  obtain ⟨q, ws, rfl, h5, h6⟩ := dT h2
  have e1 := ints_of (ns := [a, b]) h4
  have e2 := ints_of (ns := [c, d]) h6
  subst e1 e2
  refine ⟨p, q, [a, b], [c, d], rfl, rfl, SqT.up R.sub h3, SqT.up R.sub h5, ?_⟩
  have e3 : (Ob.lexAt (fun j => decide (([a, b] : List Int).getD j 0 = ([c, d] : List Int).getD j 0)) (fun j => decide (([a, b] : List Int).getD j 0 ≤ ([c, d] : List Int).getD j 0)) (decide (([a, b] : List Int).length ≤ ([c, d] : List Int).length)) 0 (min ([a, b] : List Int).length ([c, d] : List Int).length)) = decide (a < c ∨ (a = c ∧ b ≤ d)) := by
    by_cases z1 : a = c
    · by_cases z2 : b = d
      · subst z1 z2
        simp [Ob.lexAt]
      · simp [Ob.lexAt, z1, z2]
    · have : (a ≤ c) = (a < c) := by apply propext; omega
      simp [Ob.lexAt, z1, this]
  rw [e3]
  exact o.bool R h
/-! ### x in [..] -/
theorem flat_ints : ∀ ns : List Int, (ns.map V.int).all flatV = true
  | [] => rfl
  | _ :: r => flat_ints r
theorem po_inI {ns : List Int} {xs : List PyData} (e : K = W.K) (ex : xs = ns.map PyData.int) (h : Φ n (.d (.bool (inV (.int i) (ns.map V.int))))) : POp W (rIn K false) n ρ (.d (.int i)) (.d (.list xs)) Φ := fun F mp σ H Q v1 v2 R h1 h2 o => by
  subst e ex
  obtain ⟨p, vs, rfl, h3, h4⟩ := dL h2
  rw [ints_of h4] at h3
  rw [dI h1]
  exact ⟨p, ns.map V.int, rfl, .inl (SqL.up R.sub h3), rfl, flat_ints ns, o.bool R h⟩
/-! ### zip of two tuples -/
def pairs : List PyData → List PyData → List PyData
  | x :: xs, y :: ys => .tuple [x, y] :: pairs xs ys
  | _, _ => []
theorem pairs_at : ∀ {xs ys : List PyData} {i : Nat} {d : PyData}, (pairs xs ys)[i]? = some d → ∃ x y, xs[i]? = some x ∧ ys[i]? = some y ∧ d = .tuple [x, y]
  | x :: xs, y :: ys, 0, d, h => by cases h; exact ⟨x, y, rfl, rfl, rfl⟩
  | x :: xs, y :: ys, i + 1, d, h => by
    obtain ⟨u, v, h1, h2, h3⟩ := pairs_at (xs := xs) (ys := ys) (i := i) (by simpa [pairs] using h)
    exact ⟨u, v, by simpa using h1, by simpa using h2, h3⟩
  | [], _, i, d, h => by simp [pairs] at h
  | _ :: _, [], i, d, h => by simp [pairs] at h
theorem pairs_len : ∀ xs ys : List PyData, (pairs xs ys).length = min xs.length ys.length
  | x :: xs, y :: ys => by
    show (pairs xs ys).length + 1 = min (xs.length + 1) (ys.length + 1)
    rw [pairs_len xs ys]
    omega
  | [], _ => by simp [pairs]
  | _ :: _, [] => by simp [pairs]
def Zp (ss : List SV) (P : List PyData → Prop) : Prop := ∃ xs ys, ss = [.d (.tuple xs), .d (.tuple ys)] ∧ P (pairs xs ys)
theorem zp {xs ys : List PyData} {P : List PyData → Prop} (h : P (pairs xs ys)) : Zp [.d (.tuple xs), .d (.tuple ys)] P := ⟨xs, ys, rfl, h⟩
theorem pit_zipT (e : K = W.K) (h : PAs W tA n ρ fun n1 ss => Zp ss (ΦL n1)) : PIt W (iZipA K tA) n ρ ΦL := fun F mp σ H R' R o =>
  h F mp σ H _ R fun n1 F1 vs ss H1 h1 t1 R1 hvs _ => by
    subst e
    obtain ⟨xs, ys, rfl, q⟩ := h1
    obtain ⟨v, w, rfl, hv, hw⟩ := aok2 hvs
    obtain ⟨p, us, rfl, h3, h4⟩ := dT hv
    obtain ⟨r, ws, rfl, h5, h6⟩ := dT hw
    refine ⟨p, r, us, ws, rfl, .inr ⟨SqT.up R1.sub h3, SqT.up R1.sub h5, o n1 F1 _ _ H1 q t1 R1 ⟨fun F2 H s1 s2 => ⟨us, ws, SqT.up s2 (SqT.up s1 h3), SqT.up s2 (SqT.up s1 h5), ?_⟩, fun F2 H i d s1 s2 e => ?_⟩⟩⟩
    · rw [pairs_len, DpAll.len h4, DpAll.len h6]
      omega
    · obtain ⟨x, y, e1, e2, rfl⟩ := pairs_at e
      obtain ⟨v, g1, d1⟩ := DpAll.at_ h4 e1
      obtain ⟨u, g2, d2⟩ := DpAll.at_ h6 e2
      have a1 := SqT.up s2 (SqT.up s1 h3)
      have a2 := SqT.up s2 (SqT.up s1 h5)
      refine ⟨⟨us, ws, v, u, a1, a2, g1, g2⟩, fun z H' hy => ?_⟩
      obtain ⟨T, x', y', rfl, hT, rfl, k1, k2⟩ := hy
      have q1 := k1 us a1
      have q2 := k2 ws a2
      rw [g1] at q1
      rw [g2] at q2
      cases q1
      cases q2
      have fT : F2 T = none := s2.free hT
      have t : Step none F2 H (upd F2 T (.tup [v, u])) (upd H T (.tup [v, u])) := ⟨same_new fT, fun b hb => by
          by_cases e : b = T
          · subst e; exact .inr hT
          · rw [upd_ne e] at hb; exact .inl hb, fun b o hb _ => same_new hT b o hb, fun b hb => by
          by_cases e : b = T
          · subst e; rw [upd_same]; intro z; cases z
          · rw [upd_ne e]; exact hb⟩
      refine ⟨_, t, fun b o hb => ?_, .tup (sqt_of upd_same) (.cons (Dp.same (s1.trans t.ext) d1) (.cons (Dp.same (s1.trans t.ext) d2) .nil))⟩
      by_cases e : b = T
      · subst e; rw [upd_same] at hb; rw [upd_same]; exact hb
      · rw [upd_ne e] at hb; rw [upd_ne e]; exact s2 b o hb
end
/-- a test told by a proposition -/
theorem pb_by {W : Wd} {tt : TT} {n : Nat} {ρ : PS} {Ψ : Nat → Bool → Prop} (P : Prop) (h : PB W tt n ρ fun n' b => n' = n ∧ (b = true ↔ P)) (h1 : P → Ψ n true) (h2 : ¬ P → Ψ n false) : PB W tt n ρ Ψ := fun F mp σ H Q R o =>
  h F mp σ H Q R fun n' F' b H' ⟨e, hb⟩ t R' => by
    subst e
    refine o n' F' b H' ?_ t R'
    cases b with
    | true => exact h1 (hb.mp rfl)
    | false => exact h2 fun z => Bool.noConfusion (hb.mpr z)
theorem px_by {W : Wd} {te : TE} {n : Nat} {ρ : PS} {Φ : Nat → SV → Prop} (P : Prop) (h : PX W te n ρ fun n' s => n' = n ∧ ∃ b, s = .d (.bool b) ∧ (b = true ↔ P)) (h1 : P → Φ n (.d (.bool true))) (h2 : ¬ P → Φ n (.d (.bool false))) : PX W te n ρ Φ := fun F mp σ H Q R o =>
  h F mp σ H Q R fun n' F' v s H' ⟨e, b, es, hb⟩ t R' hv hn => by
    subst e es
    refine o n' F' v _ H' ?_ t R' hv hn
    cases b with
    | true => exact h1 (hb.mp rfl)
    | false => exact h2 fun z => Bool.noConfusion (hb.mpr z)
theorem br_isT {d : PyData} {t : String} {A B : Prop} (e : isD d t = true) (h : A) : Br (isD d t) A B := by rw [e]; exact br_t h
theorem br_isF {d : PyData} {t : String} {A B : Prop} (e : isD d t = false) (h : B) : Br (isD d t) A B := by rw [e]; exact br_f h
theorem br_isNT {d : PyData} {t : String} {A B : Prop} (e : isD d t = true) (h : B) : Br (!isD d t) A B := by rw [e]; exact br_nt h
theorem br_isNF {d : PyData} {t : String} {A B : Prop} (e : isD d t = false) (h : A) : Br (!isD d t) A B := by rw [e]; exact br_nf h
theorem br_nb {b : Bool} {A B : Prop} (h1 : b = true → B) (h2 : b = false → A) : Br (!b) A B := by
  cases b with
  | true => exact br_nt (h1 rfl)
  | false => exact br_nf (h2 rfl)
end GB
namespace M16
/-! ### neighbours of a ratio -/
structure Nb (a b m p q r s : Int) : Prop where
  q0 : 0 < q
  s0 : 0 < s
  qm : q ≤ m
  sm : s ≤ m
  lo : p * b < a * q
  hi : a * s < r * b
  det : r * q - p * s = 1
/-- a ratio not above a / b -/
theorem Nb.low {a b m p q r s x y : Int} (h : Nb a b m p q r s) (b0 : 0 < b) (big : m < q + s) (y0 : 0 < y) (ym : y ≤ m) (le : x * b ≤ a * y) : x * q ≤ p * y := by
  obtain ⟨q0, s0, qm, sm, lo, hi, det⟩ := h
  apply Int.not_lt.mp
  intro c
  have c1 : 1 ≤ x * q - p * y := by omega
  have c2 : x * s < r * y := by
    have e1 : x * b * s ≤ a * y * s := Int.mul_le_mul_of_nonneg_right le (by omega)
    have e2 : a * s * y < r * b * y := Int.mul_lt_mul_of_pos_right hi y0
    have e3 : x * b * s = x * s * b := by grind
    have e4 : a * y * s = a * s * y := by grind
    have e5 : r * b * y = r * y * b := by grind
    have e6 : x * s * b < r * y * b := by omega
    exact Int.lt_of_mul_lt_mul_right e6 (by omega)
  have c3 : 1 ≤ r * y - x * s := by omega
  have e : y = q * (r * y - x * s) + s * (x * q - p * y) := by
    have : q * (r * y - x * s) + s * (x * q - p * y) = y * (r * q - p * s) := by grind
    rw [this, det, Int.mul_one]
  have m1 : q * 1 ≤ q * (r * y - x * s) := Int.mul_le_mul_of_nonneg_left c3 (by omega)
  have m2 : s * 1 ≤ s * (x * q - p * y) := Int.mul_le_mul_of_nonneg_left c1 (by omega)
  omega
theorem Nb.high {a b m p q r s x y : Int} (h : Nb a b m p q r s) (b0 : 0 < b) (big : m < q + s) (y0 : 0 < y) (ym : y ≤ m) (ge : a * y ≤ x * b) : r * y ≤ x * s := by
  obtain ⟨q0, s0, qm, sm, lo, hi, det⟩ := h
  apply Int.not_lt.mp
  intro c
  have c1 : 1 ≤ r * y - x * s := by omega
  have c2 : p * y < x * q := by
    have e1 : a * y * q ≤ x * b * q := Int.mul_le_mul_of_nonneg_right ge (by omega)
    have e2 : p * b * y < a * q * y := Int.mul_lt_mul_of_pos_right lo y0
    have e3 : p * b * y = p * y * b := by grind
    have e4 : a * q * y = a * y * q := by grind
    have e5 : x * b * q = x * q * b := by grind
    have e6 : p * y * b < x * q * b := by omega
    exact Int.lt_of_mul_lt_mul_right e6 (by omega)
  have c3 : 1 ≤ x * q - p * y := by omega
  have e : y = q * (r * y - x * s) + s * (x * q - p * y) := by
    have : q * (r * y - x * s) + s * (x * q - p * y) = y * (r * q - p * s) := by grind
    rw [this, det, Int.mul_one]
  have m1 : q * 1 ≤ q * (r * y - x * s) := Int.mul_le_mul_of_nonneg_left c1 (by omega)
  have m2 : s * 1 ≤ s * (x * q - p * y) := Int.mul_le_mul_of_nonneg_left c3 (by omega)
  omega
/-- ratios in lowest terms that are equal -/
theorem same_low {p q x y u v : Int} (q0 : 0 < q) (y0 : 0 < y) (d1 : ∃ r s : Int, r * q - p * s = 1) (d2 : ∃ r s : Int, r * y - x * s = 1) (e : x * q = p * y) : x = p ∧ y = q := by
  obtain ⟨r, s, h1⟩ := d1
  obtain ⟨t, w, h2⟩ := d2
  have a1 : y = q * (r * y - x * s) := by
    have : q * (r * y - x * s) = y * (r * q) - (x * q) * s := by grind
    rw [this, e]
    have : y * (r * q) - p * y * s = y * (r * q - p * s) := by grind
    rw [this, h1, Int.mul_one]
  have a2 : q = y * (t * q - p * w) := by
    have : y * (t * q - p * w) = q * (t * y) - (p * y) * w := by grind
    rw [this, ← e]
    have : q * (t * y) - x * q * w = q * (t * y - x * w) := by grind
    rw [this, h2, Int.mul_one]
  have l1 : q ≤ y := Int.le_of_dvd y0 ⟨_, a1⟩
  have l2 : y ≤ q := Int.le_of_dvd q0 ⟨_, a2⟩
  have ey : y = q := by omega
  subst ey
  exact ⟨Int.eq_of_mul_eq_mul_right (by omega) e, rfl⟩
theorem Nb.uniq {a b m p q r s p' q' r' s' : Int} (h : Nb a b m p q r s) (g : Nb a b m p' q' r' s') (b0 : 0 < b) (big : m < q + s) (big' : m < q' + s') : p' = p ∧ q' = q ∧ r' = r ∧ s' = s := by
  have l1 := h.low b0 big g.q0 g.qm (Int.le_of_lt g.lo)
  have l2 := g.low b0 big' h.q0 h.qm (Int.le_of_lt h.lo)
  have h1 := h.high b0 big g.s0 g.sm (Int.le_of_lt g.hi)
  have h2 := g.high b0 big' h.s0 h.sm (Int.le_of_lt h.hi)
  have e1 := same_low (u := 0) (v := 0) h.q0 g.q0 ⟨r, s, h.det⟩ ⟨r', s', g.det⟩ (by omega)
  have e2 := same_low (u := 0) (v := 0) h.s0 g.s0 (p := r) (x := r') ⟨-p, -q, by have := h.det; grind⟩ ⟨-p', -q', by have := g.det; grind⟩ (by omega)
  exact ⟨e1.1, e1.2, e2.1, e2.2⟩
/-! ### lowest terms -/
theorem low_det {a b : Int} (b0 : 0 < b) : 0 < (Int.gcd a b : Int) ∧ 0 < b / (Int.gcd a b : Int) ∧ a = a / (Int.gcd a b : Int) * (Int.gcd a b : Int) ∧ b = b / (Int.gcd a b : Int) * (Int.gcd a b : Int) ∧ Int.gcd (a / (Int.gcd a b : Int)) (b / (Int.gcd a b : Int)) = 1 := by
  have g0 : 0 < Int.gcd a b := Int.gcd_pos_of_ne_zero_right _ (by omega)
  have e1 : a / (Int.gcd a b : Int) * (Int.gcd a b : Int) = a := Int.ediv_mul_cancel (Int.gcd_dvd_left a b)
  have e2 : b / (Int.gcd a b : Int) * (Int.gcd a b : Int) = b := Int.ediv_mul_cancel (Int.gcd_dvd_right a b)
  refine ⟨by omega, ?_, e1.symm, e2.symm, ?_⟩
  · apply Int.not_le.mp
    intro z
    have : b / (Int.gcd a b : Int) * (Int.gcd a b : Int) ≤ 0 := Int.mul_nonpos_of_nonpos_of_nonneg z (by omega)
    omega
  · exact Int.gcd_ediv_gcd_ediv_gcd g0
/-- coprime numbers -/
theorem cop_dvd {A B q p : Int} (c : Int.gcd A B = 1) (e : A * q = B * p) : B ∣ q := by
  have h : B ∣ A * q := ⟨p, e⟩
  have c' : Nat.Coprime B.natAbs A.natAbs := by
    rw [Nat.coprime_comm]
    exact c
  have h2 := Int.natAbs_dvd_natAbs.mpr h
  rw [Int.natAbs_mul] at h2
  exact Int.natAbs_dvd_natAbs.mp (c'.dvd_of_dvd_mul_left h2)
/-! ### one turn of the loop -/
theorem turn_lo {A B m p q r s k : Int} (h : Nb A B m p q r s) (c : Int.gcd A B = 1) (Bm : m < B) (k0 : 0 ≤ k) (k1 : k ≤ (A * q - B * p) / (B * r - A * s)) (k2 : k ≤ (m - q) / s) : Nb A B m (p + k * r) (q + k * s) r s := by
  obtain ⟨q0, s0, qm, sm, lo, hi, det⟩ := h
  have x0 : 0 < A * q - B * p := by rw [Int.mul_comm B p]; omega
  have y0 : 0 < B * r - A * s := by rw [Int.mul_comm B r]; omega
  have l1 : k * (B * r - A * s) ≤ A * q - B * p := Int.mul_le_of_le_ediv y0 k1
  have l2 : k * s ≤ m - q := Int.mul_le_of_le_ediv s0 k2
  have ks : 0 ≤ k * s := Int.mul_nonneg k0 (by omega)
  have e : A * (q + k * s) - B * (p + k * r) = (A * q - B * p) - k * (B * r - A * s) := by grind
  have ne : A * (q + k * s) - B * (p + k * r) ≠ 0 := fun z => by
    have d := cop_dvd c (q := q + k * s) (p := p + k * r) (by omega)
    have := Int.le_of_dvd (by omega) d
    omega
  refine ⟨by omega, s0, by omega, sm, ?_, hi, ?_⟩
  · rw [Int.mul_comm (p + k * r) B]; omega
  · have : r * (q + k * s) - (p + k * r) * s = r * q - p * s := by grind
    rw [this]; exact det
theorem turn_hi {A B m p q r s k : Int} (h : Nb A B m p q r s) (c : Int.gcd A B = 1) (Bm : m < B) (k0 : 0 ≤ k) (k1 : k ≤ (B * r - A * s) / (A * q - B * p)) (k2 : k ≤ (m - s) / q) : Nb A B m p q (r + k * p) (s + k * q) := by
  obtain ⟨q0, s0, qm, sm, lo, hi, det⟩ := h
  have x0 : 0 < A * q - B * p := by rw [Int.mul_comm B p]; omega
  have y0 : 0 < B * r - A * s := by rw [Int.mul_comm B r]; omega
  have l1 : k * (A * q - B * p) ≤ B * r - A * s := Int.mul_le_of_le_ediv x0 k1
  have l2 : k * q ≤ m - s := Int.mul_le_of_le_ediv q0 k2
  have ks : 0 ≤ k * q := Int.mul_nonneg k0 (by omega)
  have e : B * (r + k * p) - A * (s + k * q) = (B * r - A * s) - k * (A * q - B * p) := by grind
  have ne : B * (r + k * p) - A * (s + k * q) ≠ 0 := fun z => by
    have d := cop_dvd c (q := s + k * q) (p := r + k * p) (by omega)
    have := Int.le_of_dvd (by omega) d
    omega
  refine ⟨q0, by omega, qm, by omega, lo, ?_, ?_⟩
  · rw [Int.mul_comm (r + k * p) B]; omega
  · have : (r + k * p) * q - p * (s + k * q) = r * q - p * s := by grind
    rw [this]; exact det
theorem div_nn {x y : Int} (hx : 0 ≤ x) (hy : 0 < y) : 0 ≤ x / y := Int.ediv_nonneg hx (by omega)
theorem div_pos {x y : Int} (hy : 0 < y) (h : y ≤ x) : 1 ≤ x / y := by
  have : 1 * y ≤ x := by omega
  exact Int.le_ediv_of_mul_le hy this
theorem Nb.pos {A B m p q r s : Int} (h : Nb A B m p q r s) : 0 < A * q - B * p ∧ 0 < B * r - A * s := by
  have lo := h.lo
  have hi := h.hi
  rw [Int.mul_comm] at lo
  rw [Int.mul_comm r] at hi
  omega
/-- the turn goes on -/
theorem turn_on {A B m p q r s : Int} (h : Nb A B m p q r s) (l : q + s ≤ m) (k1 k2 : Int) (e1 : k1 = min ((A * q - B * p) / (B * r - A * s)) ((m - q) / s)) (e2 : k2 = min ((B * r - A * s) / (A * (q + k1 * s) - B * (p + k1 * r))) ((m - s) / (q + k1 * s)))
    (h' : Nb A B m (p + k1 * r) (q + k1 * s) r s) : 0 ≤ k1 ∧ 0 ≤ k2 ∧ q + s < q + k1 * s + (s + k2 * (q + k1 * s)) := by
  obtain ⟨x0, y0⟩ := h.pos
  obtain ⟨x0', _⟩ := h'.pos
  have q0' := h'.q0
  have a1 : 0 ≤ k1 := by
    have := div_nn (Int.le_of_lt x0) y0
    have := div_pos h.s0 (show s ≤ m - q by omega)
    omega
  have a2 : 0 ≤ k2 := by
    have := div_nn (Int.le_of_lt y0) x0'
    have := div_nn (show 0 ≤ m - s by have := h.sm; omega) q0'
    omega
  refine ⟨a1, a2, ?_⟩
  have s0 := h.s0
  by_cases z : k1 = 0
  · subst z
    rw [Int.zero_mul, Int.zero_mul, Int.add_zero, Int.add_zero] at e2
    have q0 := h.q0
    have w : (A * q - B * p) / (B * r - A * s) = 0 := by
      have := div_nn (Int.le_of_lt x0) y0
      have := div_pos h.s0 (show s ≤ m - q by omega)
      omega
    have w2 : A * q - B * p < B * r - A * s := by
      apply Int.not_le.mp
      intro y
      have := div_pos y0 y
      omega
    have v1 := div_pos x0 (Int.le_of_lt w2)
    have v2 := div_pos q0 (show q ≤ m - s by omega)
    have k21 : 1 ≤ k2 := by omega
    have m1 : 1 * q ≤ k2 * q := Int.mul_le_mul_of_nonneg_right k21 (by omega)
    rw [Int.zero_mul, Int.add_zero]
    omega
  · have m1 : 1 * s ≤ k1 * s := Int.mul_le_mul_of_nonneg_right (by omega) (by omega)
    have m2 : 0 ≤ k2 * (q + k1 * s) := Int.mul_nonneg a2 (by omega)
    omega
/-- the start -/
theorem Nb.start {A B m : Int} (B0 : 0 < B) (m0 : 1 ≤ m) (Bm : m < B) (c : Int.gcd A B = 1) : Nb A B m (A / B) 1 (A / B + 1) 1 := by
  have d := Int.mul_ediv_add_emod A B
  have r0 := Int.emod_nonneg A (b := B) (by omega)
  have r1 := Int.emod_lt_of_pos A B0
  have ne : A % B ≠ 0 := fun z => by
    have dv : B ∣ A := Int.dvd_of_emod_eq_zero z
    have g : (Int.gcd A B : Int) = B := by
      rw [Int.gcd_comm]
      have := Int.gcd_eq_natAbs_left dv
      omega
    rw [c] at g
    omega
  have e : A / B * B = B * (A / B) := Int.mul_comm _ _
  have e2 : (A / B + 1) * B = B * (A / B) + B := by rw [Int.add_mul]; omega
  exact ⟨by omega, by omega, m0, m0, by omega, by omega, by omega⟩
/-- how great the upper numbers are -/
theorem Nb.size {A B m p q r s : Int} (h : Nb A B m p q r s) (B0 : 0 < B) : p.natAbs ≤ A.natAbs * q.natAbs + 1 ∧ r.natAbs ≤ A.natAbs * s.natAbs + 1 := by
  obtain ⟨q0, s0, qm, sm, lo, hi, det⟩ := h
  have a1 : A ≤ (A.natAbs : Int) := by omega
  have a2 : -(A.natAbs : Int) ≤ A := by omega
  have aB : ∀ x : Int, 0 < x → x ≤ x * B := fun x hx => by
    have := Int.mul_le_mul_of_nonneg_left (show 1 ≤ B by omega) (Int.le_of_lt hx)
    omega
  -- p from above, r from below
  have p1 : p ≤ (A.natAbs : Int) * q := by
    apply Int.not_lt.mp
    intro z
    have h0 : 0 ≤ (A.natAbs : Int) * q := Int.mul_nonneg (by omega) (by omega)
    have := aB p (by omega)
    have h2 : A * q ≤ (A.natAbs : Int) * q := Int.mul_le_mul_of_nonneg_right a1 (by omega)
    omega
  have r1 : -((A.natAbs : Int) * s) ≤ r := by
    apply Int.not_lt.mp
    intro z
    have h0 : 0 ≤ (A.natAbs : Int) * s := Int.mul_nonneg (by omega) (by omega)
    have := aB (-r) (by omega)
    have h2 : -(A.natAbs : Int) * s ≤ A * s := Int.mul_le_mul_of_nonneg_right a2 (by omega)
    rw [Int.neg_mul] at h2 this
    omega
  have p2 : -((A.natAbs : Int) * q + 1) ≤ p := by
    apply Int.not_lt.mp
    intro z
    have h1 : (p + ((A.natAbs : Int) * q + 1) + 1) * s ≤ 0 := Int.mul_nonpos_of_nonpos_of_nonneg (by omega) (by omega)
    have h2 : -((A.natAbs : Int) * s) * q ≤ r * q := Int.mul_le_mul_of_nonneg_right r1 (by omega)
    have e : (p + ((A.natAbs : Int) * q + 1) + 1) * s = p * s + (A.natAbs : Int) * s * q + 2 * s := by grind
    rw [Int.neg_mul] at h2
    omega
  have r2 : r ≤ (A.natAbs : Int) * s + 1 := by
    apply Int.not_lt.mp
    intro z
    have h1 : 0 ≤ (r - ((A.natAbs : Int) * s + 1) - 1) * q := Int.mul_nonneg (by omega) (by omega)
    have h2 : p * s ≤ (A.natAbs : Int) * q * s := Int.mul_le_mul_of_nonneg_right p1 (by omega)
    have e : (r - ((A.natAbs : Int) * s + 1) - 1) * q = r * q - (A.natAbs : Int) * q * s - 2 * q := by grind
    omega
  have eq : (A.natAbs : Int) * q = ((A.natAbs * q.natAbs : Nat) : Int) := by
    rw [Int.natCast_mul]
    have : (q.natAbs : Int) = q := by omega
    rw [this]
  have es : (A.natAbs : Int) * s = ((A.natAbs * s.natAbs : Nat) : Int) := by
    rw [Int.natCast_mul]
    have : (s.natAbs : Int) = s := by omega
    rw [this]
  rw [eq] at p1 p2
  rw [es] at r1 r2
  generalize A.natAbs * q.natAbs = X at p1 p2
  generalize A.natAbs * s.natAbs = Y at r1 r2
  omega
/-! ### what is told -/
def Told (a b m p q r s : Int) : Prop := (p = a / (Int.gcd a b : Int) ∧ q = b / (Int.gcd a b : Int) ∧ r = p ∧ s = q ∧ q ≤ m) ∨ (m < b / (Int.gcd a b : Int) ∧ Nb a b m p q r s ∧ m < q + s)
theorem nb_scale {a b g m p q r s : Int} (g0 : 0 < g) : Nb (a * g) (b * g) m p q r s ↔ Nb a b m p q r s := by
  have key : ∀ x y : Int, x * g < y * g ↔ x < y := fun x y => ⟨fun h => Int.lt_of_mul_lt_mul_right h (by omega), fun h => Int.mul_lt_mul_of_pos_right h g0⟩
  constructor
  · rintro ⟨h1, h2, h3, h4, h5, h6, h7⟩
    refine ⟨h1, h2, h3, h4, (key _ _).mp ?_, (key _ _).mp ?_, h7⟩
    · have : p * b * g = p * (b * g) := by grind
      have : a * q * g = a * g * q := by grind
      omega
    · have : a * s * g = a * g * s := by grind
      have : r * b * g = r * (b * g) := by grind
      omega
  · rintro ⟨h1, h2, h3, h4, h5, h6, h7⟩
    have k1 := (key _ _).mpr h5
    have k2 := (key _ _).mpr h6
    refine ⟨h1, h2, h3, h4, ?_, ?_, h7⟩
    · have : p * b * g = p * (b * g) := by grind
      have : a * q * g = a * g * q := by grind
      omega
    · have : a * s * g = a * g * s := by grind
      have : r * b * g = r * (b * g) := by grind
      omega
/-- what the law asks of two pairs -/
def RightP (a b m p q r s : Int) : Prop := 0 < q ∧ 0 < s ∧ q ≤ m ∧ s ≤ m ∧ ((p = r ∧ q = s ∧ p = a / (Int.gcd a b : Int) ∧ q = b / (Int.gcd a b : Int)) ∨ (¬ (p = r ∧ q = s) ∧ p * b < a * q ∧ a * s < r * b ∧ r * q - p * s = 1 ∧ q + s > m))
theorem Told.right {a b m p q r s : Int} (b0 : 0 < b) (h : Told a b m p q r s) : RightP a b m p q r s := by
  obtain ⟨g0, B0, _⟩ := low_det (a := a) b0
  rcases h with ⟨h1, h2, h3, h4, h5⟩ | ⟨_, h, big⟩
  · subst h3 h4
    exact ⟨by omega, by omega, h5, h5, .inl ⟨rfl, rfl, h1, h2⟩⟩
  · refine ⟨h.q0, h.s0, h.qm, h.sm, .inr ⟨fun ⟨e1, e2⟩ => ?_, h.lo, h.hi, h.det, big⟩⟩
    subst e1 e2
    have := h.lo
    have := h.hi
    omega
theorem RightP.told {a b m p q r s : Int} (b0 : 0 < b) (h : RightP a b m p q r s) : Told a b m p q r s := by
  obtain ⟨g0, B0, ea, eb, _⟩ := low_det (a := a) b0
  obtain ⟨h1, h2, h3, h4, ⟨e1, e2, e3, e4⟩ | ⟨_, lo, hi, det, big⟩⟩ := h
  · exact .inl ⟨e3, e4, e1.symm, e2.symm, h3⟩
  · refine .inr ⟨?_, ⟨h1, h2, h3, h4, lo, hi, det⟩, big⟩
    have N : Nb (a / (Int.gcd a b : Int)) (b / (Int.gcd a b : Int)) m p q r s := by
      rw [← nb_scale g0, ← ea, ← eb]
      exact ⟨h1, h2, h3, h4, lo, hi, det⟩
    apply Int.not_le.mp
    intro z
    have := N.low B0 big B0 z (Int.le_refl _)
    have := N.lo
    omega
theorem Told.uniq {a b m p q r s p' q' r' s' : Int} (b0 : 0 < b) (h : Told a b m p q r s) (g : Told a b m p' q' r' s') : p' = p ∧ q' = q ∧ r' = r ∧ s' = s := by
  rcases h with ⟨h1, h2, h3, h4, h5⟩ | ⟨x, h, big⟩
  · rcases g with ⟨g1, g2, g3, g4, g5⟩ | ⟨y, g, big'⟩
    · omega
    · omega
  · rcases g with ⟨g1, g2, g3, g4, g5⟩ | ⟨y, g, big'⟩
    · omega
    · exact h.uniq g b0 big big'
theorem Told.cop {a b m p q r s : Int} (b0 : 0 < b) (h : Told a b m p q r s) : 0 < q ∧ 0 < s ∧ Int.gcd p q = 1 ∧ Int.gcd r s = 1 := by
  obtain ⟨g0, B0, ea, eb, c⟩ := low_det (a := a) b0
  rcases h with ⟨h1, h2, h3, h4, h5⟩ | ⟨x, h, big⟩
  · subst h3 h4
    rw [h1, h2]
    exact ⟨B0, B0, c, c⟩
  · refine ⟨h.q0, h.s0, ?_, ?_⟩
    · have d : ((Int.gcd p q : Nat) : Int) ∣ 1 := by
        rw [← h.det]
        exact Int.dvd_sub (Int.dvd_trans (Int.gcd_dvd_right p q) (Int.dvd_mul_left _ _)) (Int.dvd_trans (Int.gcd_dvd_left p q) (Int.dvd_mul_right _ _))
      have := Int.le_of_dvd (by decide) d
      have : 0 < Int.gcd p q := Int.gcd_pos_of_ne_zero_right _ (by have := h.q0; omega)
      omega
    · have d : ((Int.gcd r s : Nat) : Int) ∣ 1 := by
        rw [← h.det]
        exact Int.dvd_sub (Int.dvd_trans (Int.gcd_dvd_left r s) (Int.dvd_mul_right _ _)) (Int.dvd_trans (Int.gcd_dvd_right r s) (Int.dvd_mul_left _ _))
      have := Int.le_of_dvd (by decide) d
      have : 0 < Int.gcd r s := Int.gcd_pos_of_ne_zero_right _ (by have := h.s0; omega)
      omega
/-- the nearest below, of those with a denominator to m -/
theorem Told.low {a b m p q r s x y : Int} (b0 : 0 < b) (h : Told a b m p q r s) (y0 : 0 < y) (ym : y ≤ m) (le : x * b ≤ a * y) : x * q ≤ p * y := by
  obtain ⟨g0, B0, ea, eb, c⟩ := low_det (a := a) b0
  rcases h with ⟨h1, h2, h3, h4, h5⟩ | ⟨z, h, big⟩
  · rw [h1, h2]
    generalize a / (Int.gcd a b : Int) = A at *
    generalize b / (Int.gcd a b : Int) = B at *
    generalize (Int.gcd a b : Int) = g at *
    have e : x * B * g ≤ A * y * g := by
      have : x * B * g = x * b := by rw [eb]; grind
      have : A * y * g = a * y := by rw [ea]; grind
      omega
    exact Int.le_of_mul_le_mul_right e g0
  · exact h.low b0 big y0 ym le
theorem Told.high {a b m p q r s x y : Int} (b0 : 0 < b) (h : Told a b m p q r s) (y0 : 0 < y) (ym : y ≤ m) (ge : a * y ≤ x * b) : r * y ≤ x * s := by
  obtain ⟨g0, B0, ea, eb, c⟩ := low_det (a := a) b0
  rcases h with ⟨h1, h2, h3, h4, h5⟩ | ⟨z, h, big⟩
  · rw [h3, h4, h1, h2]
    generalize a / (Int.gcd a b : Int) = A at *
    generalize b / (Int.gcd a b : Int) = B at *
    generalize (Int.gcd a b : Int) = g at *
    have e : A * y * g ≤ x * B * g := by
      have : x * B * g = x * b := by rw [eb]; grind
      have : A * y * g = a * y := by rw [ea]; grind
      omega
    exact Int.le_of_mul_le_mul_right e g0
  · exact h.high b0 big y0 ym ge
/-- it lies on both sides -/
theorem Told.sides {a b m p q r s : Int} (b0 : 0 < b) (h : Told a b m p q r s) : p * b ≤ a * q ∧ a * s ≤ r * b ∧ q ≤ m ∧ s ≤ m := by
  obtain ⟨g0, B0, ea, eb, c⟩ := low_det (a := a) b0
  rcases h with ⟨h1, h2, h3, h4, h5⟩ | ⟨z, h, big⟩
  · rw [h3, h4]
    have e : p * b = a * q := by
      rw [h1, h2]
      generalize a / (Int.gcd a b : Int) = A at *
      generalize b / (Int.gcd a b : Int) = B at *
      generalize (Int.gcd a b : Int) = g at *
      rw [ea, eb]
      grind
    omega
  · exact ⟨Int.le_of_lt h.lo, Int.le_of_lt h.hi, h.qm, h.sm⟩
theorem lowest_of {p q x y : Int} (q0 : 0 < q) (y0 : 0 < y) (c : Int.gcd p q = 1) (e : x * q = p * y) : x / (Int.gcd x y : Int) = p ∧ y / (Int.gcd x y : Int) = q := by
  have d : q ∣ y := cop_dvd (A := p) (B := q) c (q := y) (p := x) (by rw [Int.mul_comm q x]; exact e.symm)
  obtain ⟨t, rfl⟩ := d
  have t0 : 0 < t := Int.pos_of_mul_pos_right y0 (by omega)
  have ex : x = p * t := by
    have : x * q = p * t * q := by rw [e]; grind
    exact Int.eq_of_mul_eq_mul_right (by omega) this
  subst ex
  have g : (Int.gcd (p * t) (q * t) : Int) = t := by
    rw [Int.gcd_mul_right, c]
    omega
  rw [g, Int.mul_ediv_cancel _ (by omega), Int.mul_ediv_cancel _ (by omega)]
  exact ⟨rfl, rfl⟩
/-- multiplied alike, told alike -/
theorem Told.times {a b m p q r s : Int} (b0 : 0 < b) {k : Int} (k0 : 0 < k) (h : Told (k * a) (k * b) m p q r s) : Told a b m p q r s := by
  have g : (Int.gcd (k * a) (k * b) : Int) = k * (Int.gcd a b : Int) := by
    rw [Int.gcd_mul_left]
    have : (k.natAbs : Int) = k := by omega
    rw [Int.natCast_mul, this]
  have e1 : k * a / (k * (Int.gcd a b : Int)) = a / (Int.gcd a b : Int) := Int.mul_ediv_mul_of_pos _ _ k0
  have e2 : k * b / (k * (Int.gcd a b : Int)) = b / (Int.gcd a b : Int) := Int.mul_ediv_mul_of_pos _ _ k0
  unfold Told at h ⊢
  rw [g, e1, e2] at h
  rcases h with h | ⟨h1, h2, h3⟩
  · exact .inl h
  · refine .inr ⟨h1, ?_, h3⟩
    rw [Int.mul_comm k a, Int.mul_comm k b] at h2
    exact (nb_scale k0).mp h2
/-- no ratio strictly between them has a lesser denominator than both together -/
theorem Told.between {a b m p q r s d : Int} (b0 : 0 < b) (h : Told a b m p q r s) (d0 : 1 ≤ d) (dl : d < q + s) : ¬ (p * d / q + 1) * s < r * d := fun z => by
  have q0 := (h.cop b0).1
  have s0 := (h.cop b0).2.1
  have dm := Int.mul_ediv_add_emod (p * d) q
  have r1 := Int.emod_lt_of_pos (p * d) q0
  generalize hn : p * d / q + 1 = n at z
  have nq : p * d < n * q := by
    have : n * q = q * (p * d / q) + q := by rw [← hn, Int.add_mul, Int.mul_comm, Int.one_mul]
    omega
  rcases h with ⟨h1, h2, h3, h4, h5⟩ | ⟨_, h, big⟩
  · rw [h3, h4] at z
    omega
  · have e : d = q * (r * d - n * s) + s * (n * q - p * d) := by
      have : q * (r * d - n * s) + s * (n * q - p * d) = d * (r * q - p * s) := by grind
      rw [this, h.det, Int.mul_one]
    have m1 : q * 1 ≤ q * (r * d - n * s) := Int.mul_le_mul_of_nonneg_left (by omega) (by omega)
    have m2 : s * 1 ≤ s * (n * q - p * d) := Int.mul_le_mul_of_nonneg_left (by omega) (by omega)
    omega
end M16
local macro_rules | `(tactic| walk_at "rd1") => `(tactic| first
  | with_reducible refine GB.r_seq ?_
  | with_reducible refine GB.r_asg ?_
  | (with_reducible refine GB.r_gname ?_; try dsimp only [List.set_cons_zero, List.set_cons_succ])
  | (with_reducible apply GB.r_var; (with_unfolding_all exact rfl))
  | with_reducible refine GB.r_c ?_
  | with_reducible refine GB.r_op ?_
  | with_reducible refine GB.r_I0 ?_
  | with_reducible refine GB.r_ifs ?_
  | with_reducible refine GB.r_test ?_
  | with_reducible refine GB.r_bl ?_
  | with_reducible refine GB.r_eqI ?_
  | with_reducible refine GB.r_neI ?_
  | with_reducible refine GB.r_eqS ?_
  | with_reducible refine GB.r_and ?_
  | with_reducible refine GB.r_or ?_
  | with_reducible refine GB.r_not ?_
  | with_reducible refine GB.r_B ?_
  | with_reducible refine GB.r_if ?_
  | with_reducible refine GB.r_CB ?_
  | with_reducible refine GB.r_call ?_
  | with_reducible refine GB.r_callK ?_
  | (with_reducible refine GB.r_dnewT (fun p H' sm np at' => ?_))
  | with_reducible refine GB.r_nil ?_
  | with_reducible refine GB.r_cons ?_
  | with_reducible refine GB.r_ret ?_
  | with_reducible refine GB.r_retN ?_
  | with_reducible refine GB.r_drop ?_
  | with_reducible refine GB.r_next ?_
  | with_reducible refine GB.r_par ?_
  | (with_reducible refine GB.r_two ?_; try dsimp only [List.set_cons_zero, List.set_cons_succ])
  | with_reducible refine GB.r_un ?_
  | with_reducible refine GB.r_U ?_
  | with_reducible refine GB.r_tup ?_
  | with_reducible refine GB.r_lst ?_
  | (with_reducible apply GB.r_aug; (with_unfolding_all exact rfl))
  | with_reducible refine GB.r_ipI ?_
  | with_reducible refine GB.r_dget ?_
  | with_reducible refine GB.r_dput ?_
  | with_reducible refine GB.r_int1 ?_
  | with_reducible refine GB.r_max ?_
  | with_reducible refine GB.r_min ?_
  | with_reducible refine GB.r_abs ?_
  | with_reducible refine GB.r_for ?_
  | with_reducible refine GB.r_rng1 ?_
  | with_reducible refine GB.r_rng2 ?_
  | with_reducible refine GB.r_il ?_
  | with_reducible refine GB.r_it ?_
  | with_reducible refine GB.r_lc ?_
  | with_reducible refine GB.r_yes ?_
  | with_reducible refine GB.r_sl ?_
  | with_reducible refine GB.r_backT0 ?_
  | with_reducible refine GB.r_bm ?_
  | with_reducible refine GB.r_p0 ?_
  | with_reducible refine GB.r_gcons ?_
  | with_reducible refine GB.r_gnil ?_
  | (with_reducible apply GB.r_gtup; (first | assumption | exact GB.sqt_of L2.upd_same | exact GB.sqt_of (by assumption) | with_unfolding_all assumption); (with_unfolding_all exact rfl))
  | (with_reducible refine GB.r_newT ?_ (fun p H' sm np at' => ?_); (exact GB.few_le (by with_unfolding_all exact rfl)))
  | with_reducible refine GB.r_p1 ?_
  | with_reducible refine GB.r_no ?_
  | with_reducible refine GB.r_din ?_
  | with_reducible refine GB.r_dnin ?_
  | with_reducible refine GB.r_part ?_
  | with_reducible refine GB.r_int ?_
  | (with_reducible apply GB.g_left; (first | assumption | exact L2.upd_same))
  | (with_reducible apply GB.g_seed; (first | assumption | exact L2.upd_same))
  | (with_reducible apply GB.g_cells; (first | assumption | exact L2.upd_same))
  | (with_reducible apply GB.g_spot; (first | assumption | exact L2.upd_same))
  | (with_reducible apply GB.p_left; (first | assumption | exact L2.upd_same))
  | (with_reducible apply GB.p_spot; (first | assumption | exact L2.upd_same))
  | with_reducible refine GB.r_and1 ?_
  | with_reducible refine GB.r_bits0 ?_
  | with_reducible refine GB.r_bits ?_
  | with_reducible refine GB.r_rev0 ?_
  | with_reducible refine GB.r_rng3 ?_
  | with_reducible refine GB.r_tru0 ?_
  | with_reducible refine GB.r_tru ?_
  | with_reducible refine L2.iteT ?_
  | with_reducible refine L2.iteF ?_
  | with_reducible refine GB.r_nT ?_
  | (with_reducible refine GB.r_rngN ?_ ?_ ?_; (decide); (decide))
  | with_reducible refine GB.r_nF ?_
  | (with_reducible refine GB.r_I ?_ ?_; (exact GB.CMulB.auto (by rfl)))
  | (with_reducible refine GB.r_I ?_ ?_; (exact GB.CPowB.auto (by rfl)))
  | (with_reducible refine GB.r_I ?_ ?_; (exact GB.CDivW.auto (by omega) (by rfl)))
  | (with_reducible refine GB.r_I ?_ ?_; (first | assumption | (with_unfolding_all decide) | omega))
  | (with_reducible refine GB.r_I ?_ ?_; (exact GB.CDivW.small (by omega) (by omega)))
  | (with_reducible refine GB.r_I ?_ ?_; (exact GB.CPow.small (by omega) (by omega) (by omega) (by omega)))
  | (with_reducible refine GB.r_I ?_ ?_; (exact GB.CMulB.small (by omega) (by omega) (by omega) (by omega)))
  | (dsimp only [List.set_cons_zero, List.set_cons_succ]))
local macro_rules | `(tactic| walk_at "rd") => `(tactic| (repeat walk_at "rd1"))
local macro_rules | `(tactic| walk_at "two") => `(tactic| first | with_reducible refine GB.r_ite (fun h => ?_) (fun h => ?_) | with_reducible refine GB.r_iteN (fun h => ?_) (fun h => ?_) | with_reducible refine GB.r_iteB (fun h => ?_) (fun h => ?_))
local macro_rules | `(tactic| walk_at "all") => `(tactic| (repeat' (first | walk_at "rd1" | walk_at "two")))

namespace L16
open PySem PySem.Spec PyProof.Rows L2 GB RZ
def topS (i : Nat) : Stmt := PySem.Challenge.pw_numberpapers_k16_whole_neighbours.main.body.getD i (.Pass ⟨0, 0, 0, 0⟩)
abbrev s_common_part : Stmt := topS 1
theorem sc_common_part : FnScope ["a", "b"] ["a", "b"] (defScope s_common_part) := ⟨rfl, rfl, rfl, by decide +kernel, rfl, by decide +kernel, by decide +kernel⟩
abbrev s_lowest : Stmt := topS 2
theorem sc_lowest : FnScope ["a", "b", "g"] ["a", "b"] (defScope s_lowest) := ⟨rfl, rfl, rfl, by decide +kernel, rfl, by decide +kernel, by decide +kernel⟩
abbrev s_is_number : Stmt := topS 4
theorem sc_is_number : FnScope ["value"] ["value"] (defScope s_is_number) := ⟨rfl, rfl, rfl, by decide +kernel, rfl, by decide +kernel, by decide +kernel⟩
abbrev s_is_tuple : Stmt := topS 5
theorem sc_is_tuple : FnScope ["value", "size"] ["value", "size"] (defScope s_is_tuple) := ⟨rfl, rfl, rfl, by decide +kernel, rfl, by decide +kernel, by decide +kernel⟩
abbrev s_same_nest : Stmt := topS 6
theorem sc_same_nest : FnScope ["value", "wanted", "entry", "other"] ["value", "wanted"] (defScope s_same_nest) := ⟨rfl, rfl, rfl, by decide +kernel, rfl, by decide +kernel, by decide +kernel⟩
abbrev s_neighbours : Stmt := topS 8
theorem sc_neighbours : FnScope ["a", "b", "most", "p", "q", "r", "s", "k"] ["a", "b", "most"] (defScope s_neighbours) := ⟨rfl, rfl, rfl, by decide +kernel, rfl, by decide +kernel, by decide +kernel⟩
abbrev s_nearest : Stmt := topS 9
theorem sc_nearest : FnScope ["a", "b", "most", "p", "q", "r", "s", "below", "above"] ["a", "b", "most"] (defScope s_nearest) := ⟨rfl, rfl, rfl, by decide +kernel, rfl, by decide +kernel, by decide +kernel⟩
abbrev s_is_neighbours : Stmt := topS 10
theorem sc_is_neighbours : FnScope ["a", "b", "most", "value"] ["a", "b", "most", "value"] (defScope s_is_neighbours) := ⟨rfl, rfl, rfl, by decide +kernel, rfl, by decide +kernel, by decide +kernel⟩
abbrev s_law_begun : Stmt := topS 12
theorem sc_law_begun : FnScope ["script", "k", "cells", "great", "cell", "seed"] ["script", "k"] (defScope s_law_begun) := ⟨rfl, rfl, rfl, by decide +kernel, rfl, by decide +kernel, by decide +kernel⟩
abbrev s_law_draw : Stmt := topS 13
theorem sc_law_draw : FnScope ["m", "bound", "found", "spot", "cells", "extra", "cell", "blend"] ["m", "bound"] (defScope s_law_draw) := ⟨rfl, rfl, rfl, by decide +kernel, rfl, by decide +kernel, by decide +kernel⟩
abbrev s_law_of : Stmt := topS 14
theorem sc_law_of : FnScope ["m", "some"] ["m", "some"] (defScope s_law_of) := ⟨rfl, rfl, rfl, by decide +kernel, rfl, by decide +kernel, by decide +kernel⟩
abbrev s_law_like : Stmt := topS 15
theorem sc_law_like : FnScope ["got", "due"] ["got", "due"] (defScope s_law_like) := ⟨rfl, rfl, rfl, by decide +kernel, rfl, by decide +kernel, by decide +kernel⟩
abbrev s_law_sized : Stmt := topS 16
theorem sc_law_sized : FnScope ["m", "most", "found", "step"] ["m", "most"] (defScope s_law_sized) := ⟨rfl, rfl, rfl, by decide +kernel, rfl, by decide +kernel, by decide +kernel⟩
abbrev s_law_signed : Stmt := topS 17
theorem sc_law_signed : FnScope ["m", "most"] ["m", "most"] (defScope s_law_signed) := ⟨rfl, rfl, rfl, by decide +kernel, rfl, by decide +kernel, by decide +kernel⟩
abbrev s_law_common : Stmt := topS 18
theorem sc_law_common : FnScope ["a", "b", "twos"] ["a", "b"] (defScope s_law_common) := ⟨rfl, rfl, rfl, by decide +kernel, rfl, by decide +kernel, by decide +kernel⟩
abbrev s_law_turned : Stmt := topS 19
theorem sc_law_turned : FnScope ["a", "m", "r", "s", "x", "y", "q"] ["a", "m"] (defScope s_law_turned) := ⟨rfl, rfl, rfl, by decide +kernel, rfl, by decide +kernel, by decide +kernel⟩
abbrev s_law_lowest : Stmt := topS 20
theorem sc_law_lowest : FnScope ["p", "q", "g"] ["p", "q"] (defScope s_law_lowest) := ⟨rfl, rfl, rfl, by decide +kernel, rfl, by decide +kernel, by decide +kernel⟩
abbrev s_law_tried : Stmt := topS 21
theorem sc_law_tried : FnScope ["a", "b", "most", "low", "high", "q", "p", "r"] ["a", "b", "most"] (defScope s_law_tried) := ⟨rfl, rfl, rfl, by decide +kernel, rfl, by decide +kernel, by decide +kernel⟩
abbrev s_law_is_number : Stmt := topS 22
theorem sc_law_is_number : FnScope ["value"] ["value"] (defScope s_law_is_number) := ⟨rfl, rfl, rfl, by decide +kernel, rfl, by decide +kernel, by decide +kernel⟩
abbrev s_law_is_pair : Stmt := topS 23
theorem sc_law_is_pair : FnScope ["value"] ["value"] (defScope s_law_is_pair) := ⟨rfl, rfl, rfl, by decide +kernel, rfl, by decide +kernel, by decide +kernel⟩
abbrev s_law_is_right : Stmt := topS 24
theorem sc_law_is_right : FnScope ["a", "b", "most", "value", "p", "q", "r", "s"] ["a", "b", "most", "value"] (defScope s_law_is_right) := ⟨rfl, rfl, rfl, by decide +kernel, rfl, by decide +kernel, by decide +kernel⟩
abbrev s_law_nearest : Stmt := topS 25
theorem sc_law_nearest : FnScope ["a", "b", "low", "high", "p", "q", "r", "s", "near", "far"] ["a", "b", "low", "high"] (defScope s_law_nearest) := ⟨rfl, rfl, rfl, by decide +kernel, rfl, by decide +kernel, by decide +kernel⟩
abbrev s_law_bent : Stmt := topS 26
theorem sc_law_bent : FnScope ["m", "value", "p", "q", "r", "s", "word", "entry"] ["m", "value"] (defScope s_law_bent) := ⟨rfl, rfl, rfl, by decide +kernel, rfl, by decide +kernel, by decide +kernel⟩
abbrev s_law_told_right : Stmt := topS 27
theorem sc_law_told_right : FnScope ["m", "a", "b", "most", "told", "step", "value"] ["m", "a", "b", "most"] (defScope s_law_told_right) := ⟨rfl, rfl, rfl, by decide +kernel, rfl, by decide +kernel, by decide +kernel⟩
abbrev s_law_between_right : Stmt := topS 28
theorem sc_law_between_right : FnScope ["a", "b", "most", "p", "q", "r", "s", "d", "n"] ["a", "b", "most"] (defScope s_law_between_right) := ⟨rfl, rfl, rfl, by decide +kernel, rfl, by decide +kernel, by decide +kernel⟩
abbrev s_law_made : Stmt := topS 29
theorem sc_law_made : FnScope ["m", "p", "q", "r", "s", "step", "j", "k"] ["m"] (defScope s_law_made) := ⟨rfl, rfl, rfl, by decide +kernel, rfl, by decide +kernel, by decide +kernel⟩
abbrev s_law : Stmt := topS 30
theorem sc_law : FnScope ["script", "told", "due", "turn", "m", "a", "b", "most"] ["script"] (defScope s_law) := ⟨rfl, rfl, rfl, by decide +kernel, rfl, by decide +kernel, by decide +kernel⟩
section
variable {P : Program} {w : World} {K : PySem.W.Frag} {mg : Str → Option Value} {base : Heap}
theorem ok_draw {f : Addr} {fd : FuncData} (h : Has K mg "_law_draw" s_law_draw ["m", "bound"] f fd) (z_int : mg "int" = none) (z_len : mg "len" = none) : FnOk P w K mg base CX0 1 f fd ["m", "bound"] (spDrawD K) := by
  refine h.fn.ok sc_law_draw (fun vs H Q E h => ?_) (fun cdv A outer s H vs Q E hr h => ?_)
  · obtain ⟨p, b, n, rfl, _⟩ := h
    rfl
  · obtain ⟨p, b, n, rfl, ⟨c, l, sd, sp, ns, d⟩, hn, hb, hbb, q⟩ := h
    refine ⟨_, (pss_cons (ps_if (pt_cmpR op_gt (pe_dget (hu_of hr) (pv 0) pe_str (fun _ _ => rfl)) pe_int (nomark _)) (pss_cons (ps_set (i := 2) sc_law_draw.nd rfl (.inl rfl) (pe_op op_mod (pe_callTy call_intB (by rfl) z_int (by decide +kernel) (pa_cons (pe_dget (hu_of hr) (pv 0) pe_str (fun _ _ => rfl)) pa_nil)) (pv 1)))
      (pss_cons (ps_dput (hu_of hr) (pv 0) pe_str (pe_op op_fdivW (pe_dget (hu_of hr) (pv 0) pe_str (fun _ _ => rfl)) (pv 1)) rfl)
      (pss_one (ps_ret (pv 2))))) pss_nil)
      (pss_cons (ps_set (i := 3) sc_law_draw.nd rfl (.inl rfl) (pe_dget (hu_of hr) (pv 0) pe_str (fun _ _ => rfl)))
      (pss_cons (ps_dput (hu_of hr) (pv 0) pe_str (pe_op op_add (pv 3) pe_int) rfl)
      (pss_cons (ps_par (i := 4) (j := 5) (by rfl) sc_law_draw.nd rfl rfl (by decide) rfl rfl (pa_cons (pe_dget (hu_of hr) (pv 0) pe_str (fun _ _ => rfl)) (pa_cons (pe_op op_add (pe_dget (hu_of hr) (pv 0) pe_str (fun _ _ => rfl)) (pe_op op_mulB (pe_op op_mulB pe_int (pv 3)) (pv 3))) pa_nil)) (by rfl))
      (pss_cons (ps_set (i := 6) sc_law_draw.nd rfl (.inl rfl) (pe_ix ix_list (pv 4) (pe_op op_mod (pe_callTy call_intB (by rfl) z_int (by decide +kernel) (pa_cons (pv 3) pa_nil)) (pe_callB call_lenB (by rfl) z_len (by decide +kernel) (pa_cons (pv 4) pa_nil))) (fun _ _ => rfl)))
      (pss_cons (ps_set (i := 7) sc_law_draw.nd rfl (.inl rfl) (pe_op op_mod (pe_callTy call_intB (by rfl) z_int (by decide +kernel) (pa_cons (pe_op op_add (pe_op op_mulB (pv 6) (pe_op op_add (pe_op op_mulB pe_int (pv 3)) pe_int)) (pv 5)) pa_nil)) pe_int))
      (pss_cons (ps_set (i := 7) sc_law_draw.nd rfl (.inl rfl) (pe_op op_mod (pe_callTy call_intB (by rfl) z_int (by decide +kernel) (pa_cons (pe_op op_add (pe_op op_add (pe_op op_mulB (pv 7) (pv 7)) (pe_op op_mulB pe_int (pv 3))) (pe_dget (hu_of hr) (pv 0) pe_str (fun _ _ => rfl))) pa_nil)) pe_int))
      (pss_one (ps_ret (pe_op op_mod (pe_op op_fdivW (pe_op op_mod (pe_callTy call_intB (by rfl) z_int (by decide +kernel) (pa_cons (pe_op op_add (pe_op op_mulB (pv 7) pe_int) (pv 3)) pa_nil)) pe_int) pe_int) (pv 1))))))))))), ?_⟩
    have at_ := d.at_
    have l0 := d.l0
    have s0 := d.s0
    have s1 := d.s1
    have p0 := d.p0
    have p1 := d.p1
    have lb := d.lb
    have cd : CDivW l b := ⟨hb, by
      have h1 := (hbb.mono (show 8999 ≤ 8998 + 1 by decide)).log
      omega⟩
    walk_at "rd"
    walk_at "two"
    · walk_at "rd"
      refine q _ _ (Int.emod_nonneg _ (by omega)) (Int.emod_lt_of_pos _ hb) (Kd.put at_) ⟨c, l / b, sd, sp, ns, ?_⟩
      exact { at_ := upd_same, cells := (SqL.kp at_ Kp.put d.cells), some_ := d.some_, few := d.few, bits := d.bits, l0 := Int.ediv_nonneg l0 (by omega), lb := lb.ediv l0 (by omega), s0 := s0, s1 := s1, p0 := p0, p1 := by omega }
    · walk_at "rd"
      refine r_lenL (SqL.kp at_ Kp.put d.cells) ?_
      have cd2 : (fun (_ j : Int) => 0 < j) sp ((List.map V.int ns).length : Int) := by
        have h1 := List.length_pos_iff.mpr d.some_
        show (0 : Int) < ((List.map V.int ns).length : Int)
        rw [List.length_map]
        omega
      walk_at "rd"
      have h1 := List.length_pos_iff.mpr d.some_
      have e0 : (sp % ((List.map V.int ns).length : Int)).toNat < ns.length := by
        rw [List.length_map]
        have h2 := Int.emod_nonneg sp (b := (ns.length : Int)) (by omega)
        have h3 := Int.emod_lt_of_pos sp (b := (ns.length : Int)) (by omega)
        omega
      have e1 : sp % ((List.map V.int ns).length : Int) = ((sp % ((List.map V.int ns).length : Int)).toNat : Int) := by
        have h2 := Int.emod_nonneg sp (b := ((List.map V.int ns).length : Int)) (by rw [List.length_map]; omega)
        omega
      have bc : Bt 1048577 ns[(sp % ((List.map V.int ns).length : Int)).toNat] := d.bits _ (List.getElem_mem e0)
      refine r_ixL (SqL.kp at_ Kp.put d.cells) (v := .int ns[(sp % ((List.map V.int ns).length : Int)).toNat]) (at_of e1 ?_) ?_
      · rw [List.getElem?_map, List.getElem?_eq_getElem e0]
        rfl
      · generalize ns[(sp % ((List.map V.int ns).length : Int)).toNat] = cell at bc
        walk_at "rd"
        refine r_I ⟨1048576, 61, bc, Bt.small (by omega) (by omega), by decide⟩ ?_
        walk_at "rd"
        refine q _ _ (Int.emod_nonneg _ (by omega)) (Int.emod_lt_of_pos _ hb) (Kd.put at_) ⟨c, l, sd, sp + 1, ns, ?_⟩
        exact { at_ := upd_same, cells := (SqL.kp at_ Kp.put d.cells), some_ := d.some_, few := d.few, bits := d.bits, l0 := l0, lb := lb, s0 := s0, s1 := s1, p0 := by omega, p1 := by omega }
theorem ok_of {f g : Addr} {fd gd : FuncData} (h : Has K mg "_law_of" s_law_of ["m", "some"] f fd) (h_law_draw : Has K mg "_law_draw" s_law_draw ["m", "bound"] g gd) (F_law_draw : FnOk P w K mg base CX0 1 g gd ["m", "bound"] (spDrawD K)) (z_len : mg "len" = none) :
    FnOk P w K mg base CX0 2 f fd ["m", "some"] (spOfD K) := by
  refine h.fn.ok sc_law_of (fun vs H Q E h => ?_) (fun cdv A outer s H vs Q E hr h => ?_)
  · obtain ⟨p, a, n, xs, rfl, _⟩ := h
    rfl
  · obtain ⟨p, a, n, xs, rfl, dr, hn, hx, ne, hz, q⟩ := h
    obtain ⟨kvs, at_⟩ := dr.at_
    have h1 := List.length_pos_iff.mpr ne
    have e1 : sizeLine = 16777216 := by decide
    refine ⟨_, (pss_one (ps_ret (pe_ix ix_list (pv 1) (pe_call F_law_draw (hr.mono (by decide)) (by rfl) h_law_draw.gl h_law_draw.fn.kp h_law_draw.bd .nil pass0 (pa_cons (pv 0) (pa_cons (pe_callB call_lenB (by rfl) z_len (by decide +kernel) (pa_cons (pv 1) pa_nil)) pa_nil))) (fun _ _ => rfl)))), ?_⟩
    walk_at "rd"
    refine r_lenL hx ?_
    walk_at "rd"
    refine ⟨p, (xs.length : Int), n, rfl, dr, hn, by omega, (Bt.small (by omega) (by omega)).mono (by decide), fun v H' v0 v1 k dr' => ?_⟩
    have e2 : v.toNat < xs.length := by omega
    refine r_ixL (SqL.kp at_ k.1 hx) (v := xs[v.toNat]) (at_of (j := v.toNat) (by omega) (List.getElem?_eq_getElem e2)) ?_
    exact q _ _ H' (List.getElem?_eq_getElem e2) k dr'
theorem ok_like {f : Addr} {fd : FuncData} (h : Has K mg "_law_like" s_law_like ["got", "due"] f fd) (z_repr : mg "repr" = none) : GOk P w K mg base CX0 1 f fd ["got", "due"] (spLike K) := by
  refine fun_okG h.fn sc_law_like (fun vs H Q E h => ?_) (fun cdv A outer s H vs Q E ng hr h => ?_)
  · obtain ⟨v, u, d, rfl, _⟩ := h
    rfl
  · obtain ⟨v, u, d, rfl, h1, h2, sh, q⟩ := h
    refine ⟨_, (pss_one (ps_ret (pe_cmpR op_eq (pe_callB (call_repr ng hr.units) (by rfl) z_repr (by decide +kernel) (pa_cons (pv 0) pa_nil)) (pe_callB (call_repr ng hr.units) (by rfl) z_repr (by decide +kernel) (pa_cons (pv 1) pa_nil)) (nomark _)))), ?_⟩
    walk_at "rd"
    refine ⟨v, d, rfl, h1, sh, ?_⟩
    walk_at "rd"
    refine ⟨u, d, rfl, h2, sh, ?_⟩
    walk_at "rd"
    rw [decide_eq_true rfl]
    exact q
theorem cut_ints (ns : List Int) (lo hi : Option Int) : ∃ ms : List Int, cutV (ns.map V.int) lo hi = ms.map V.int ∧ (∀ x ∈ ms, x ∈ ns) ∧ ms.length ≤ ns.length := by
  unfold cutV
  rw [← List.map_drop, ← List.map_take]
  refine ⟨_, rfl, fun x hx => ?_, ?_⟩
  · exact List.mem_of_mem_drop (List.mem_of_mem_take hx)
  · rw [List.length_take, List.length_drop]
    omega
theorem ok_begun {f : Addr} {fd : FuncData} (h : Has K mg "_law_begun" s_law_begun ["script", "k"] f fd) (z_int : mg "int" = none) : FnOk P w K mg base CX0 1 f fd ["script", "k"] (spBegunF K) := by
  refine h.fn.ok sc_law_begun (fun vs H Q E h => ?_) (fun cdv A outer s H vs Q E hr h => ?_)
  · obtain ⟨a, k, ns, rfl, _⟩ := h
    rfl
  · obtain ⟨a, k, ns, rfl, hS, hl, hb, k0, k1, q⟩ := h
    have esz : sizeLine = 16777216 := by decide
    refine ⟨_, (pss_cons (ps_set (i := 2) sc_law_begun.nd rfl (.inl rfl) (pe_op op_cat (pe_slice sl_list (pv 0) (po_some (pv 1)) po_none) (pe_slice sl_list (pv 0) po_none (po_some (pv 1)))))
      (pss_cons (ps_setLc (i := 3) (own := [("cell", 4)]) (g := gName 4) (tt := _) rfl sc_law_begun.nd rfl rfl (sw_true rfl rfl rfl (by decide +kernel)) (pi_list (pv 2)) (blkOk_by (own := [("cell", 4)]) (N := ["script", "k", "cells", "great", "cell", "seed"]) (sc := defScope s_law_begun) (by decide +kernel)) (fun _ _ _ _ _ => pg_name (i := 4) sc_law_begun.nd rfl (Or.inl rfl)) (fun _ _ _ _ _ => pts_one (pt_cmpR op_ge (pv 4) (pe_op op_pow pe_int pe_int) (nomark _))) (fun _ _ _ _ _ => (pv 4)))
      (pss_cons (ps_set (i := 5) sc_law_begun.nd rfl (.inl rfl) (pe_op op_add pe_int (pv 1)))
      (pss_cons (ps_for PassesOwn.never rfl (pi_list (pv 2)) (pg_name (i := 4) sc_law_begun.nd rfl (Or.inl rfl)) (pss_one (ps_set (i := 5) sc_law_begun.nd rfl (.inl rfl) (pe_op op_mod (pe_callTy call_intB (by rfl) z_int (by decide +kernel) (pa_cons (pe_op op_add (pe_op op_mulB (pv 5) pe_int) (pv 4)) pa_nil)) pe_int))))
      (pss_one (ps_ret (pe_disp (pps_cons pe_str (pe_ifExp (pt_cmpR (op_neD hr.units) (pv 3) (pe_lst pa_nil) (nomark _)) (pe_ix ix_list (pv 3) pe_int (fun _ _ => rfl)) pe_int) (pps_cons pe_str (pv 5) (pps_cons pe_str (pe_op op_cat (pv 2) (pe_lst (pa_cons (pe_op op_add (pe_op op_mulB pe_int (pv 1)) pe_int) pa_nil))) (pps_cons pe_str pe_int pps_nil)))) (by rfl) (by rfl) (fun z => by cases z) (by decide)))))))), ?_⟩
    walk_at "rd"
    refine r_slL hS fun c1 n1 => ?_
    obtain ⟨m1, e1, i1, l1⟩ := cut_ints ns (some k) none
    rw [e1]
    walk_at "rd"
    have sm1 : Same H (upd H c1 (.lst (m1.map V.int))) := same_new n1
    refine r_slL (sm1.seq hS) fun c2 n2 => ?_
    obtain ⟨m2, e2, i2, l2⟩ := cut_ints ns none (some k)
    rw [e2]
    walk_at "rd"
    have sm2 : Same H (upd (upd H c1 (.lst (m1.map V.int))) c2 (.lst (m2.map V.int))) := sm1.trans (same_new n2)
    have at1 : (upd (upd H c1 (.lst (m1.map V.int))) c2 (.lst (m2.map V.int))) c1 = some (.lst (m1.map V.int)) := same_new n2 _ _ upd_same
    refine r_cat at1 upd_same (by rw [List.length_map, List.length_map]; omega) fun c3 n3 => ?_
    rw [← List.map_append]
    have iA : ∀ x ∈ m1 ++ m2, Bt 1048576 x := fun x hx => (List.mem_append.mp hx).elim (fun z => hb x (i1 x z)) (fun z => hb x (i2 x z))
    have lA : (m1 ++ m2).length ≤ 126 := by rw [List.length_append]; omega
    generalize m1 ++ m2 = cs at iA lA ⊢
    have sm3 := sm2.trans (same_new (o := .lst (cs.map V.int)) n3)
    generalize upd (upd H c1 (.lst (m1.map V.int))) c2 (.lst (m2.map V.int)) = H2 at n3 sm3 ⊢
    have at3 : (upd H2 c3 (.lst (cs.map V.int))) c3 = some (.lst (cs.map V.int)) := upd_same
    generalize upd H2 c3 (.lst (cs.map V.int)) = H3 at sm3 at3 ⊢
    walk_at "rd"
    refine r_ill (.inl (.inl at3)) fun L nL => ?_
    refine cl_list (xs := cs.map V.int) (fun i H' => ∃ gs : List Int, (∀ x ∈ gs, Bt 1048576 x ∧ 0 < x) ∧ gs.length ≤ i ∧ H' L = some (.lst (gs.map V.int)) ∧ Same H3 H')
      ⟨[], fun x hx => (List.not_mem_nil hx).elim, Nat.le_refl _, upd_same, same_new nL⟩ (fun i H' _ hp => ?_) (fun i x H' hi hp => ?_) (fun H' hp => ?_)
    · obtain ⟨gs, _, _, _, sm⟩ := hp
      exact .inl (.inl (sm _ _ at3))
    · obtain ⟨gs, hg, lg, atL, sm⟩ := hp
      rw [List.getElem?_map] at hi
      obtain ⟨z, hz, rfl⟩ := Option.map_eq_some_iff.mp hi
      have hzc : z ∈ cs := List.mem_of_getElem? hz
      have hlt : i < cs.length := (List.getElem?_eq_some_iff.mp hz).1
      refine ⟨rfl, ?_⟩
      walk_at "rd"
      walk_at "two"
      · rename_i hge
        have e18 : (10 : Int) ^ Int.toNat 18 = 1000000000000000000 := by decide +kernel
        rw [e18] at hge
        walk_at "rd"
        refine ⟨gs.map V.int, atL, by rw [List.length_map]; omega, gs ++ [z], fun x hx => ?_, by rw [List.length_append, List.length_singleton]; omega, ?_, same_mut sm nL⟩
        · rcases List.mem_append.mp hx with y | y
          · exact hg x y
          · rw [List.mem_singleton.mp y]
            exact ⟨iA z hzc, by omega⟩
        · rw [upd_same, List.map_append]
          rfl
      · exact ⟨gs, hg, by omega, atL, sm⟩
    · obtain ⟨gs, hg, lg, atL, sm4⟩ := hp
      rw [List.length_map] at lg
      walk_at "rd"
      refine r_ill (.inl (.inl (sm4 _ _ at3))) ?_
      refine fl_list (xs := cs.map V.int) (fun i σ H1 => ∃ (y : Option V) (sd : Int), σ = [some (.ref a), some (.int k), some (.ref c3), some (.ref L), y, some (.int sd)] ∧ 0 ≤ sd ∧ sd < 2147483647 ∧ H1 = H')
        ⟨none, 71 + k, rfl, by omega, by omega, rfl⟩ (fun i σ H1 _ hp => ?_) (fun i x σ H1 hi hp => ?_) (fun σ H1 hp => ?_)
      · obtain ⟨y, sd, rfl, s0, s1, rfl⟩ := hp
        exact .inl (.inl (sm4 _ _ at3))
      · obtain ⟨y, sd, rfl, s0, s1, rfl⟩ := hp
        rw [List.getElem?_map] at hi
        obtain ⟨z, hz, rfl⟩ := Option.map_eq_some_iff.mp hi
        walk_at "rd"
        exact ⟨_, _, rfl, Int.emod_nonneg _ (by decide), Int.emod_lt_of_pos _ (by decide), rfl⟩
      · obtain ⟨y, sd, rfl, s0, s1, rfl⟩ := hp
        walk_at "rd"
        refine r_disp fun p np => ?_
        have npc : c3 ≠ p := ne_of_none (sm4 _ _ at3) np
        have smp : Same H (upd H1 p (.dK [])) := (sm3.trans sm4).trans (same_new np)
        have nHp : H p = none := (sm3.trans sm4).free np
        have atc : (upd H1 p (.dK [])) c3 = some (.lst (cs.map V.int)) := same_new np _ _ (sm4 _ _ at3)
        have atg : (upd H1 p (.dK [])) L = some (.lst (gs.map V.int)) := same_new np _ _ atL
        have atp : (upd H1 p (.dK [])) p = some (.dK []) := upd_same
        -- what the end needs of any later heap
        have fin : ∀ (l : Int) (H5 : Hp), 0 ≤ l → Bt 1048577 l → Same (upd H1 p (.dK [])) H5 → ∀ c5, H5 c5 = none → (upd H5 c5 (.lst ([.int (53 * k + 11)]))) c5 = some (.lst [.int (53 * k + 11)]) →
            rCat (.ref c3) (.ref c5) (upd H5 c5 (.lst ([.int (53 * k + 11)]))) (fun y H6 => rDisp p [(.str "left", .int l), (.str "seed", .int sd), (.str "cells", y), (.str "spot", .int 0)] H6 Q) := by
          intro l H5 l0 lb sm5 c5 n5 at5
          have sm6 : Same (upd H1 p (.dK [])) (upd H5 c5 (.lst [.int (53 * k + 11)])) := sm5.trans (same_new n5)
          refine r_cat (sm6 _ _ atc) at5 (by rw [List.length_map]; show cs.length + 1 ≤ _; omega) fun c7 n7 => ?_
          have sm7 := sm6.trans (same_new (o := .lst (cs.map V.int ++ [.int (53 * k + 11)])) n7)
          refine r_Mk (sm7 _ _ atp) ?_
          have n7p : c7 ≠ p := (ne_of_none (sm6 _ _ atp) n7).symm
          have cat : (upd (upd (upd H5 c5 (.lst [.int (53 * k + 11)])) c7 (.lst (cs.map V.int ++ [.int (53 * k + 11)]))) p (.dK (Mk l sd c7 0))) c7 = some (.lst ((cs ++ [53 * k + 11]).map V.int)) := by
            rw [upd_ne n7p, upd_same, List.map_append]
            rfl
          exact q p c7 l sd 0 (cs ++ [53 * k + 11]) _ nHp ((smp.trans sm6).free n7) (same_mut (smp.trans sm7) nHp) cat {
            at_ := upd_same
            cells := sql_of cat
            some_ := by simp
            few := by rw [List.length_append, List.length_singleton]; omega
            bits := fun x hx => by
              rcases List.mem_append.mp hx with z | z
              · exact (iA x z).mono (by decide)
              · rw [List.mem_singleton.mp z]
                exact (Bt.small (by omega) (by omega)).mono (by decide)
            l0 := l0, lb := lb, s0 := s0, s1 := s1, p0 := by omega, p1 := by omega }
        walk_at "rd"
        refine r_mkL (few_le rfl) fun e ne => ?_
        have sme : Same (upd H1 p (.dK [])) (upd (upd H1 p (.dK [])) e (.lst [])) := same_new ne
        have dg : Fine 1900 1 0 (.list ([].map PyData.int)) := (FineAll.ints (ns := []) (fun x hx => (List.not_mem_nil hx).elim) (by decide)).list
        have hgd : SeqAt.shaped (.list (gs.map PyData.int)) = true := by
          have c1 : ∀ l : List Int, PyData.canLayAll0 (l.map PyData.int) = true := fun l => by
            induction l with
            | nil => simp only [List.map_nil, PyData.canLayAll0]
            | cons x r ih => simp only [List.map_cons, PyData.canLayAll0, PyData.canLay0, ih]; rfl
          have c2 : ∀ l : List Int, PyData.depthAll (l.map PyData.int) = 0 := fun l => by
            induction l with
            | nil => simp only [List.map_nil, PyData.depthAll]
            | cons x r ih => simp only [List.map_cons, PyData.depthAll, PyData.depth, ih]; rfl
          unfold SeqAt.shaped
          simp only [PyData.canLay0, PyData.depth, c1, c2]
          rfl
        refine r_neD (Dp.ints (.inl (.inl (sme _ _ atg)))) (Dp.ints (ns := []) (.inl (.inl upd_same))) hgd (dg.shaped (by decide)) ?_
        walk_at "rd"
        cases gs with
        | nil =>
          have e0 : PyData.eqv (.list (([] : List Int).map PyData.int)) (.list (([] : List Int).map PyData.int)) = true := dg.eqv
          rw [e0]
          walk_at "rd"
          refine r_mkL (few_le rfl) fun c5 n5 => ?_
          exact fin 0 _ (by decide) ((Bt.small (by decide) (by decide)).mono (by decide)) sme c5 n5 upd_same
        | cons z r =>
          have e0 : PyData.eqv (.list ((z :: r).map PyData.int)) (.list (([] : List Int).map PyData.int)) = false := by
            simp only [List.map_cons, List.map_nil, PyData.eqv, PyData.eqvAll]
          rw [e0]
          walk_at "rd"
          refine r_ixL (.inl (.inl (sme _ _ atg))) (v := .int z) (atI_nat (j := 0) rfl) ?_
          walk_at "rd"
          refine r_mkL (few_le rfl) fun c5 n5 => ?_
          have hz := hg z List.mem_cons_self
          exact fin z _ (by omega) (hz.1.mono (by decide)) sme c5 n5 upd_same
end

end L16
local macro_rules | `(tactic| walk_at "set") => `(tactic| (repeat (first | with_reducible exact GB.SetAt.zero | with_reducible apply GB.SetAt.succ)))
local macro_rules | `(tactic| walk_at "get") => `(tactic| (repeat (first | with_reducible exact GB.GetAt.zero | with_reducible apply GB.GetAt.succ)))
local macro_rules | `(tactic| walk_at "fg") => `(tactic| (repeat (first | exact GB.Fg.nil | apply GB.Fg.keep | apply GB.Fg.drop)))
local macro_rules | `(tactic| walk_at "hold") => `(tactic| first | with_reducible exact GB.HoldAs.d | with_reducible exact GB.HoldAs.new | with_reducible exact GB.HoldAs.mem | with_reducible exact GB.HoldAs.raw)
local macro_rules | `(tactic| walk_at "dall") => `(tactic| (repeat (first | with_reducible exact GB.DAll.nil | with_reducible apply GB.DAll.cons)))
local macro_rules | `(tactic| walk_at "asl") => `(tactic| first | with_reducible exact GB.AsL.d | with_reducible exact GB.AsL.own | with_reducible exact GB.AsL.new)
local macro_rules | `(tactic| walk_at "nomem") => `(tactic| (repeat (first | exact GB.NoMem.nil | exact (fun z => by cases z) | exact GB.NoMem.drop (x := none) (by assumption) | (with_reducible apply GB.nm_keep) | (with_reducible apply GB.NoMem.drop))))
local macro_rules | `(tactic| walk_at "st") => `(tactic| ((repeat (first | exact GB.St0.nil | apply GB.St0.cons | apply GB.St0.none))))
local macro_rules | `(tactic| walk_at "p1") => `(tactic| first
  | with_reducible refine GB.pz_seq ?_
  | ((with_reducible refine GB.pz_begun ?_ ?_ ?_); (exact rfl); (exact rfl))
  | with_reducible refine GB.pz_asg ?_
  | ((with_reducible apply GB.px_var); (walk_at "get"))
  | with_reducible refine GB.px_op ?_
  | with_reducible refine GB.px_int ?_
  | with_reducible refine GB.po_I0 ?_
  | ((with_reducible apply GB.pg_name'); (walk_at "hold"); (walk_at "set"))
  | with_reducible refine GB.pz_ifs ?_
  | with_reducible refine GB.pb_test ?_
  | with_reducible refine GB.pb_B ?_
  | with_reducible refine GB.isB ?_
  | with_reducible refine GB.isI ?_
  | with_reducible refine GB.po_B0 ?_
  | with_reducible refine GB.po_eqI ?_
  | with_reducible refine GB.po_neI ?_
  | with_reducible refine GB.br_t ?_
  | with_reducible refine GB.br_f ?_
  | with_reducible refine GB.br_nt ?_
  | with_reducible refine GB.br_nf ?_
  | with_reducible refine GB.pb_and ?_
  | with_reducible refine GB.pb_or ?_
  | with_reducible refine GB.pb_not ?_
  | with_reducible refine GB.px_if ?_
  | with_reducible refine GB.pa_nil' ?_
  | with_reducible refine GB.pa_cons' ?_
  | with_reducible refine GB.px_cb ?_
  | ((with_reducible refine GB.px_call ?_ ?_); (exact rfl))
  | with_reducible refine GB.pz_ret ?_
  | with_reducible refine GB.rt_d ?_
  | with_reducible refine GB.rt_own ?_
  | with_reducible refine GB.rt_new ?_
  | with_reducible refine GB.pz_next ?_
  | with_reducible refine GB.pz_par ?_
  | with_reducible refine GB.pz_par3 ?_
  | with_reducible refine GB.par2 ?_
  | with_reducible refine GB.par3 ?_
  | ((with_reducible apply GB.set1); (walk_at "hold"); (walk_at "set"))
  | with_reducible refine GB.px_tup ?_
  | with_reducible refine GB.px_lst ?_
  | with_reducible refine GB.px_new ?_
  | ((with_reducible apply GB.mkD); (walk_at "dall"); (exact rfl))
  | with_reducible refine GB.px_un ?_
  | with_reducible refine GB.pu_I ?_
  | with_reducible refine GB.px_bl ?_
  | with_reducible refine GB.px_str ?_
  | with_reducible refine GB.px_non ?_
  | with_reducible refine GB.pc_int1 ?_
  | with_reducible refine GB.pc_max ?_
  | with_reducible refine GB.pc_min ?_
  | with_reducible refine GB.pc_abs ?_
  | ((with_reducible refine GB.pc_lenT ?_ ?_); (exact rfl))
  | ((with_reducible apply GB.pc_lenL); (walk_at "asl"); (exact rfl))
  | ((with_reducible refine GB.pc_tupT ?_ ?_); (exact rfl))
  | ((with_reducible apply GB.pc_tupL); (walk_at "asl"); (exact rfl))
  | with_reducible refine GB.px_andV ?_
  | with_reducible refine GB.px_orV ?_
  | with_reducible refine GB.px_notV ?_
  | ((with_reducible refine GB.pg_tup' ?_ ?_ ?_); (exact rfl); (with_unfolding_all exact rfl))
  | with_reducible refine GB.pgs_cons' ?_
  | with_reducible refine GB.pgs_nil' ?_
  | with_reducible refine GB.pz_drop ?_
  | with_reducible refine GB.pz_retN ?_
  | ((with_reducible apply GB.pz_aug); (walk_at "get"))
  | ((with_reducible apply GB.exS); (walk_at "set"))
  | with_reducible refine GB.px_sl ?_
  | with_reducible refine GB.po_no ?_
  | with_reducible refine GB.po_part ?_
  | ((with_reducible refine GB.psl_T ?_ ?_); (exact rfl))
  | ((with_reducible apply GB.psl_L); (walk_at "asl"); (exact rfl))
  | with_reducible refine GB.pz_for ?_
  | with_reducible refine GB.pit_rg1 ?_
  | with_reducible refine GB.pit_rg2 ?_
  | with_reducible refine GB.pit_rg3 ?_
  | with_reducible refine GB.pit_rev ?_
  | ((with_reducible refine GB.pit_L ?_ ?_); (exact rfl))
  | ((with_reducible refine GB.pit_T ?_ ?_); (exact rfl))
  | with_reducible refine GB.isT ?_
  | with_reducible refine GB.isLs ?_
  | ((with_reducible refine GB.px_backT ?_ ?_); (exact rfl))
  | ((with_reducible refine GB.rg1 ?_ ?_ ?_); (omega); (omega))
  | ((with_reducible refine GB.rg2 ?_ ?_ ?_ ?_ ?_); (omega); (omega); (omega); (omega))
  | ((with_reducible refine GB.rg3d ?_ ?_ ?_ ?_ ?_); (omega); (omega); (omega); (omega))
  | ((with_reducible refine GB.rgR ?_ ?_ ?_); (omega); (omega))
  | ((with_reducible apply GB.po_ixT); (exact rfl); (with_unfolding_all exact rfl))
  | ((with_reducible apply GB.po_ixL); (exact rfl); (walk_at "asl"); (with_unfolding_all exact rfl))
  | ((with_reducible apply GB.beg); (assumption); (assumption); (omega); (omega); (walk_at "nomem"); (walk_at "set"))
  | with_reducible refine GB.px_ty ?_
  | ((with_reducible refine GB.pc_isi ?_ ?_ ?_); (exact rfl); (first | with_reducible exact GB.kd_int | with_reducible exact GB.kd_bool | with_reducible exact GB.kd_tuple | with_reducible exact GB.kd_list | with_reducible exact GB.kd_str))
  | ((with_reducible refine GB.po_leP ?_ ?_); (exact rfl))
  | ((with_reducible refine GB.pit_zipT ?_ ?_); (exact rfl))
  | with_reducible refine GB.zp ?_
  | ((with_reducible refine GB.br_isT ?_ ?_); (exact rfl))
  | ((with_reducible refine GB.br_isF ?_ ?_); (exact rfl))
  | ((with_reducible refine GB.br_isNT ?_ ?_); (exact rfl))
  | ((with_reducible refine GB.br_isNF ?_ ?_); (exact rfl))
  | with_reducible refine GB.pb_yes ?_
  | with_reducible refine GB.pb_tru ?_
  | with_reducible refine GB.px_bits ?_
  | with_reducible refine GB.po_and1 ?_
  | with_reducible refine GB.po_eqS ?_
  | ((with_reducible refine GB.po_mul ?_ ?_); (first | exact GB.CMulB.auto (by rfl) | exact GB.CMulB.small (by omega) (by omega) (by omega) (by omega)))
  | ((with_reducible refine GB.po_mod ?_ ?_); (first | omega | with_reducible assumption))
  | ((with_reducible refine GB.po_div ?_ ?_); (first | exact GB.CDivW.auto (by omega) (by rfl) | exact GB.CDivW.small (by omega) (by omega)))
  | ((with_reducible refine GB.po_divZ ?_ ?_); (exact GB.CDivZ.auto (by omega) (by rfl)))
  | ((with_reducible refine GB.po_modN ?_ ?_); (first | omega | with_reducible assumption))
  | ((with_reducible refine GB.po_shr ?_ ?_); (omega))
  | ((with_reducible refine GB.po_shl ?_ ?_); (first | exact GB.CPow.small (by omega) (by omega) (by omega) (by omega) | (with_unfolding_all decide)))
  | ((with_reducible refine GB.po_pow ?_ ?_); (first | exact GB.CPow.small (by omega) (by omega) (by omega) (by omega) | (with_unfolding_all decide)))
  | ((with_reducible refine GB.po_powB ?_ ?_); (exact GB.CPowB.auto (by rfl)))
  | ((with_reducible refine GB.po_shlW ?_ ?_); (exact GB.CShl.auto (by omega) (by omega) (by rfl)))
  | (dsimp only))
local macro_rules | `(tactic| walk_at "p") => `(tactic| (repeat walk_at "p1"))
local macro_rules | `(tactic| walk_at "p2") => `(tactic| first | with_reducible refine GB.br_d (fun h => ?_) (fun h => ?_) | with_reducible refine GB.br_n (fun h => ?_) (fun h => ?_) | with_reducible refine GB.br_nb (fun h => ?_) (fun h => ?_) | with_reducible refine GB.br_b (fun h => ?_) (fun h => ?_))
local macro_rules | `(tactic| walk_at "pa") => `(tactic| (repeat' (first | walk_at "p1" | walk_at "p2")))

namespace L16
open PySem PySem.Spec PyProof.Rows L2 GB RZ M16
section
variable {P : Program} {w : World} {K : PySem.W.Frag} {mg : Str → Option Value} {base : Heap}
theorem half_left {u v : Nat} (h : u % 2 = 0) (g : v % 2 = 1) : Nat.gcd (u / 2) v = Nat.gcd u v := by
  have e : u = 2 * (u / 2) := by omega
  have c : Nat.Coprime 2 v := by
    have : Nat.gcd 2 v ∣ 2 := Nat.gcd_dvd_left 2 v
    have d2 : Nat.gcd 2 v ∣ v := Nat.gcd_dvd_right 2 v
    have l := Nat.le_of_dvd (by decide) this
    have p : 0 < Nat.gcd 2 v := Nat.gcd_pos_of_pos_left _ (by decide)
    rcases (show Nat.gcd 2 v = 1 ∨ Nat.gcd 2 v = 2 by omega) with z | z
    · exact z
    · rw [z] at d2
      omega
  conv => rhs; rw [e]
  exact (Nat.Coprime.gcd_mul_left_cancel _ c).symm
theorem half_right {u v : Nat} (h : v % 2 = 0) (g : u % 2 = 1) : Nat.gcd u (v / 2) = Nat.gcd u v := by
  rw [Nat.gcd_comm, half_left h g, Nat.gcd_comm]
theorem half_sub {u v : Nat} (h : u % 2 = 1) (g : v % 2 = 1) (l : v < u) : Nat.gcd ((u - v) / 2) v = Nat.gcd u v := by
  rw [half_left (by omega) g]
  have e : u = u - v + v := by omega
  conv => rhs; rw [e]
  exact (Nat.gcd_add_self_left _ _).symm
theorem half_sub' {u v : Nat} (h : u % 2 = 1) (g : v % 2 = 1) (l : u < v) : Nat.gcd u ((v - u) / 2) = Nat.gcd u v := by
  rw [Nat.gcd_comm, half_sub g h l, Nat.gcd_comm]
abbrev dI (i : Int) : Option SV := some (.d (.int i))
theorem sb {x : Int} (h1 : -(2 ^ 62) < x) (h2 : x < 2 ^ 62) {k : Nat} (h : 62 ≤ k := by decide) : Bt k x := (Bt.small h1 h2).mono h
theorem ten_bits (k : Nat) : 10 ^ k ≤ 2 ^ (4 * k) := by
  rw [Nat.pow_mul]
  exact Nat.pow_le_pow_left (by decide) k
/-- a drawn number of so many figures -/
def SSized : PSp := fun m ss Φ => ∃ k : Nat, ss = [.mem, .d (.int (k : Int))] ∧ m ≤ 1000000000 ∧ k ≤ 1000 ∧ ∀ v : Nat, v < 10 ^ k → Φ (m + k + 1) (.d (.int (v : Int)))
theorem ok_law_sized {f_ f0 : Addr} {fd_ g0 : FuncData} (h : Has K mg "_law_sized" s_law_sized ["m", "most"] f_ fd_) (z_range : mg "range" = none) (h_law_draw : Has K mg "_law_draw" s_law_draw ["m", "bound"] f0 g0) (F_law_draw : FnOk P w K mg base CX0 1 f0 g0 ["m", "bound"] (spU K SDraw)) : FnOk P w K mg base CX0 2 f_ fd_ ["m", "most"] (spU K SSized) := by
  refine fnU h sc_law_sized SSized (fun n ss Φ h => ?_) (fun cdv A outer s H E hr F0 m0 cnt ss Φ hs => ?_)
  · obtain ⟨_, rfl, _⟩ := h
    rfl
  obtain ⟨k, rfl, hm, hk, done⟩ := hs
  refine ⟨_, (pss_cons (ps_set (i := 2) sc_law_sized.nd rfl (.inl rfl) pe_int)
      (pss_cons (ps_for PassesOwn.never rfl (pi_range1 rfl z_range (pa_cons (pe_call F_law_draw (hr.mono (by decide)) (by rfl) h_law_draw.gl h_law_draw.fn.kp h_law_draw.bd .nil pass0 (pa_cons (pv 0) (pa_cons (pe_op op_add (pv 1) pe_int) pa_nil))) pa_nil)) (pg_name (i := 3) sc_law_sized.nd rfl (Or.inl rfl)) (pss_one (ps_set (i := 2) sc_law_sized.nd rfl (.inl rfl) (pe_op op_add (pe_op op_mulB (pv 2) pe_int) (pe_call F_law_draw (hr.mono (by decide)) (by rfl) h_law_draw.gl h_law_draw.fn.kp h_law_draw.bd .nil pass0 (pa_cons (pv 0) (pa_cons pe_int pa_nil)))))))
      (pss_one (ps_ret (pv 2))))), ?_⟩
  with_reducible apply GB.pz_st (m' := 4)
  · exact rfl
  walk_at "st"
  walk_at "p"
  refine draw_t (by omega) (by omega) (by omega) fun t t0 t1 => ?_
  obtain ⟨j, rfl⟩ := Int.eq_ofNat_of_zero_le t0
  walk_at "p"
  rw [Int.toNat_natCast]
  refine forR (Inv (fun i (v : Nat) => (cnt + 1 + i, [some .mem, dI k, dI v, none])) fun i v => v < 10 ^ i) (lpI 0 (Nat.le_refl _) (by walk_at "fg") (by decide)) (fun i n' ρ hi hI => ?_) (fun n' ρ hI => ?_)
  · obtain ⟨v, e, hv⟩ := hI
    injection e with e1 e2
    subst e1 e2
    have b1 : v < 2 ^ 4000 := Nat.lt_of_lt_of_le hv (Nat.le_trans (ten_bits i) (Nat.pow_le_pow_right (by decide) (by omega)))
    haveI : BtC (v : Int) 3999 := ⟨by show (v : Int).natAbs < _; rw [Int.natAbs_natCast]; exact b1⟩
    walk_at "p"
    refine draw_t (by omega) (by decide) (by decide) fun x x0 x1 => ?_
    obtain ⟨y, rfl⟩ := Int.eq_ofNat_of_zero_le x0
    walk_at "p"
    have e3 : (v : Int) * 10 + (y : Int) = ((v * 10 + y : Nat) : Int) := by omega
    rw [e3]
    exact lpI (v * 10 + y) (by dsimp only; omega) (by walk_at "fg") (by show v * 10 + y < 10 ^ (i + 1); rw [Nat.pow_succ]; omega)
  · obtain ⟨v, e, hv⟩ := hI
    injection e with e1 e2
    subst e1 e2
    refine pz_more (m := cnt + k + 1) (by omega) ?_
    walk_at "p"
    exact done v (Nat.lt_of_lt_of_le hv (Nat.pow_le_pow_right (by decide) (by omega)))
def SSigned : PSp := fun m ss Φ => ∃ k : Nat, ss = [.mem, .d (.int (k : Int))] ∧ m ≤ 900000000 ∧ k ≤ 1000 ∧ ∀ v : Int, v.natAbs < 10 ^ k → Φ (m + k + 2) (.d (.int v))
theorem ok_law_signed {f_ f0 f1 : Addr} {fd_ g0 g1 : FuncData} (h : Has K mg "_law_signed" s_law_signed ["m", "most"] f_ fd_) (h_law_sized : Has K mg "_law_sized" s_law_sized ["m", "most"] f0 g0) (F_law_sized : FnOk P w K mg base CX0 2 f0 g0 ["m", "most"] (spU K SSized)) (h_law_of : Has K mg "_law_of" s_law_of ["m", "some"] f1 g1) (F_law_of : FnOk P w K mg base CX0 2 f1 g1 ["m", "some"] (spU K SOf)) : FnOk P w K mg base CX0 3 f_ fd_ ["m", "most"] (spU K SSigned) := by
  refine fnU h sc_law_signed SSigned (fun n ss Φ h => ?_) (fun cdv A outer s H E hr F0 m0 cnt ss Φ hs => ?_)
  · obtain ⟨_, rfl, _⟩ := h
    rfl
  obtain ⟨k, rfl, hm, hk, done⟩ := hs
  refine ⟨_, (pss_one (ps_ret (pe_op op_mulB (pe_call F_law_sized (hr.mono (by decide)) (by rfl) h_law_sized.gl h_law_sized.fn.kp h_law_sized.bd .nil pass0 (pa_cons (pv 0) (pa_cons (pv 1) pa_nil))) (pe_call F_law_of (hr.mono (by decide)) (by rfl) h_law_of.gl h_law_of.fn.kp h_law_of.bd .nil pass0 (pa_cons (pv 0) (pa_cons (pe_lst (pa_cons pe_int (pa_cons pe_int (pa_cons (pe_un un_neg pe_int) pa_nil)))) pa_nil)))))), ?_⟩
  with_reducible apply GB.pz_st (m' := 2)
  · exact rfl
  walk_at "st"
  walk_at "p"
  refine ⟨rfl, k, rfl, by omega, hk, fun v hv => ?_⟩
  have b1 : v < 2 ^ 4000 := Nat.lt_of_lt_of_le hv (Nat.le_trans (ten_bits k) (Nat.pow_le_pow_right (by decide) (by omega)))
  haveI : BtC (v : Int) 3999 := ⟨by show (v : Int).natAbs < _; rw [Int.natAbs_natCast]; exact b1⟩
  walk_at "p"
  refine of_s (fun d => d = .int 1 ∨ d = .int (-1)) (by omega) (by simp) (Nat.le_of_ble_eq_true rfl) (.cons (.inl rfl) (.cons (.inl rfl) (.cons (.inr rfl) .nil))) fun d hd => ?_
  rcases hd with rfl | rfl
  · walk_at "p"
    exact done _ (by omega)
  · walk_at "p"
    exact done _ (by omega)
/-- the common part, by halving -/
def SCommon : PSp := fun m ss Φ => ∃ a b : Int, ss = [.d (.int a), .d (.int b)] ∧ Bt 8000 a ∧ Bt 8000 b ∧ Φ m (.d (.int (Int.gcd a b : Nat)))
theorem ok_law_common {f_  : Addr} {fd_  : FuncData} (h : Has K mg "_law_common" s_law_common ["a", "b"] f_ fd_) (z_abs : mg "abs" = none) : FnOk P w K mg base CX0 1 f_ fd_ ["a", "b"] (spU K SCommon) := by
  refine fnU h sc_law_common SCommon (fun n ss Φ h => ?_) (fun cdv A outer s H E hr F0 m0 cnt ss Φ hs => ?_)
  · obtain ⟨_, _, rfl, _⟩ := h
    rfl
  obtain ⟨a, b, rfl, ba, bb, done⟩ := hs
  refine ⟨_, (pss_cons (ps_par3 (i := 0) (j := 1) (l := 2) (by rfl) sc_law_common.nd rfl rfl rfl (by decide) (by decide) (by decide) rfl rfl rfl (pa_cons (pe_callB call_absB (by rfl) z_abs (by decide +kernel) (pa_cons (pv 0) pa_nil)) (pa_cons (pe_callB call_absB (by rfl) z_abs (by decide +kernel) (pa_cons (pv 1) pa_nil)) (pa_cons pe_int pa_nil))) (by rfl))
      (pss_cons (ps_if (PW.pt (pw_or (pt_cmpR op_eq (pv 0) pe_int (nomark _)) (pw_or1 (pt_cmpR op_eq (pv 1) pe_int (nomark _))))) (pss_one (ps_ret (pe_op op_add (pv 0) (pv 1)))) pss_nil)
      (pss_cons (ps_while PassesOwn.never (PW.pt (pw_and (pt_cmpR op_eq (pe_op op_mod (pv 0) pe_int) pe_int (nomark _)) (pw_and1 (pt_cmpR op_eq (pe_op op_mod (pv 1) pe_int) pe_int (nomark _))))) (pss_one (ps_par3 (i := 0) (j := 1) (l := 2) (by rfl) sc_law_common.nd rfl rfl rfl (by decide) (by decide) (by decide) rfl rfl rfl (pa_cons (pe_op op_fdivW (pv 0) pe_int) (pa_cons (pe_op op_fdivW (pv 1) pe_int) (pa_cons (pe_op op_mulB (pv 2) pe_int) pa_nil))) (by rfl))))
      (pss_cons (ps_while PassesOwn.never (pt_cmpR op_ne (pv 0) (pv 1) (nomark _)) (pss_one (ps_if (pt_cmpR op_eq (pe_op op_mod (pv 0) pe_int) pe_int (nomark _)) (pss_one (ps_set (i := 0) sc_law_common.nd rfl (.inl rfl) (pe_op op_fdivW (pv 0) pe_int))) (pss_one (ps_if (pt_cmpR op_eq (pe_op op_mod (pv 1) pe_int) pe_int (nomark _)) (pss_one (ps_set (i := 1) sc_law_common.nd rfl (.inl rfl) (pe_op op_fdivW (pv 1) pe_int))) (pss_one (ps_if (pt_cmpR op_gt (pv 0) (pv 1) (nomark _)) (pss_one (ps_set (i := 0) sc_law_common.nd rfl (.inl rfl) (pe_op op_fdivW (pe_op op_sub (pv 0) (pv 1)) pe_int))) (pss_one (ps_set (i := 1) sc_law_common.nd rfl (.inl rfl) (pe_op op_fdivW (pe_op op_sub (pv 1) (pv 0)) pe_int))))))))))
      (pss_one (ps_ret (pe_op op_mulB (pv 0) (pv 2)))))))), ?_⟩
  with_reducible apply GB.pz_st (m' := 3)
  · exact rfl
  walk_at "st"
  have eg : Int.gcd a b = Nat.gcd a.natAbs b.natAbs := rfl
  rw [eg] at done
  have ba' : a.natAbs < 2 ^ 8000 := ba
  have bb' : b.natAbs < 2 ^ 8000 := bb
  walk_at "p"
  generalize a.natAbs = X at done ba' ⊢
  generalize b.natAbs = Y at done bb' ⊢
  clear eg ba bb
  have bX : ∀ x : Nat, x ≤ X → BtC (x : Int) 7999 := fun x hx => ⟨by
    show (x : Int).natAbs < _
    rw [Int.natAbs_natCast]
    omega⟩
  walk_at "p2"
  · have e : Nat.gcd X Y = Y := by
      have : X = 0 := by omega
      rw [this, Nat.gcd_zero_left]
    rw [e] at done
    have e2 : (X : Int) + (Y : Int) = (Y : Int) := by omega
    walk_at "p"
    rw [e2]
    exact done
  walk_at "p"
  walk_at "p2"
  · have e : Nat.gcd X Y = X := by
      have : Y = 0 := by omega
      rw [this, Nat.gcd_zero_right]
    rw [e] at done
    have e2 : (X : Int) + (Y : Int) = (X : Int) := by omega
    walk_at "p"
    rw [e2]
    exact done
  have X0 : 0 < X := by omega
  have Y0 : 0 < Y := by omega
  walk_at "p"
  refine pz_while (Inv (fun (m : Nat) ((y, t) : Nat × Nat) => (cnt, [dI m, dI y, dI t])) fun m (y, t) => 0 < m ∧ 0 < y ∧ 0 < t ∧ t * m = X ∧ t * y = Y) X (lpI (Y, 1) (Nat.le_refl _) (by walk_at "fg") ⟨X0, Y0, Nat.one_pos, Nat.one_mul _, Nat.one_mul _⟩) (fun m n' ρ hI => ?_)
  obtain ⟨⟨y, t⟩, e, x0, y0, t0, ex, ey⟩ := hI
  injection e with e1 e2
  subst e1 e2
  have tX : t ≤ X := by
    rw [← ex]
    exact Nat.le_mul_of_pos_right _ x0
  have xX : m ≤ X := by
    rw [← ex]
    exact Nat.le_mul_of_pos_left _ t0
  have gG : t * Nat.gcd m y = Nat.gcd X Y := by rw [← ex, ← ey, Nat.gcd_mul_left]
  haveI := bX t tX
  refine pb_by (m % 2 = 0 ∧ y % 2 = 0) ?_ (fun ev => ?_) (fun od => ?_)
  · walk_at "pa" <;> exact ⟨rfl, by simp; omega⟩
  · walk_at "p"
    refine ⟨m / 2, by omega, lpI (y / 2, t * 2) (Nat.le_refl _) ?_ ⟨by omega, by omega, by omega, ?_, ?_⟩⟩
    · have e1 : ((m / 2 : Nat) : Int) = (m : Int) / 2 := by omega
      have e2 : ((y / 2 : Nat) : Int) = (y : Int) / 2 := by omega
      have e3 : ((t * 2 : Nat) : Int) = (t : Int) * 2 := by omega
      dsimp only
      rw [e1, e2, e3]
      walk_at "fg"
    · rw [← ex, Nat.mul_assoc]
      have : 2 * (m / 2) = m := by omega
      rw [this]
    · rw [← ey, Nat.mul_assoc]
      have : 2 * (y / 2) = y := by omega
      rw [this]
  · walk_at "p"
    refine pz_while (Inv (fun (k : Nat) ((u, v) : Nat × Nat) => (cnt, [dI u, dI v, dI t])) fun k (u, v) => k = u + v ∧ 0 < u ∧ 0 < v ∧ Nat.gcd u v = Nat.gcd m y ∧ ¬ (u % 2 = 0 ∧ v % 2 = 0) ∧ u ≤ m) (m + y) (lpI (m, y) (Nat.le_refl _) (by walk_at "fg") ⟨rfl, x0, y0, rfl, od, Nat.le_refl _⟩) (fun k n' ρ hI => ?_)
    obtain ⟨⟨u, v⟩, e, rfl, u0, v0, eg, ou, um⟩ := hI
    injection e with e1 e2
    subst e1 e2
    haveI := bX u (by omega)
    walk_at "p"
    walk_at "p2"
    · have e : u = v := by omega
      subst e
      rw [Nat.gcd_self] at eg
      walk_at "p"
      rw [← gG, ← eg, Nat.mul_comm] at done
      have e2 : ((u * t : Nat) : Int) = (u : Int) * (t : Int) := Int.natCast_mul _ _
      rw [e2] at done
      exact done
    · walk_at "pa"
      · refine ⟨u / 2 + v, by omega, lpI (u / 2, v) (Nat.le_refl _) (by have e1 : ((u / 2 : Nat) : Int) = (u : Int) / 2 := by omega
                                                                        dsimp only; rw [e1]; walk_at "fg") ⟨rfl, by omega, v0, ?_, by omega, by omega⟩⟩
        rw [← eg]
        exact half_left (by omega) (by omega)
      · refine ⟨u + v / 2, by omega, lpI (u, v / 2) (Nat.le_refl _) (by have e1 : ((v / 2 : Nat) : Int) = (v : Int) / 2 := by omega
                                                                        dsimp only; rw [e1]; walk_at "fg") ⟨rfl, u0, by omega, ?_, by omega, um⟩⟩
        rw [← eg]
        exact half_right (by omega) (by omega)
      · refine ⟨(u - v) / 2 + v, by omega, lpI ((u - v) / 2, v) (Nat.le_refl _) (by have e1 : (((u - v) / 2 : Nat) : Int) = ((u : Int) - (v : Int)) / 2 := by omega
                                                                                    dsimp only; rw [e1]; walk_at "fg") ⟨rfl, by omega, v0, ?_, by omega, by omega⟩⟩
        rw [← eg]
        exact half_sub (by omega) (by omega) (by omega)
      · refine ⟨u + (v - u) / 2, by omega, lpI (u, (v - u) / 2) (Nat.le_refl _) (by have e1 : (((v - u) / 2 : Nat) : Int) = ((v : Int) - (u : Int)) / 2 := by omega
                                                                                    dsimp only; rw [e1]; walk_at "fg") ⟨rfl, u0, by omega, ?_, by omega, um⟩⟩
        rw [← eg]
        exact half_sub' (by omega) (by omega) (by omega)
end
end L16
namespace L16
open PySem PySem.Spec PyProof.Rows L2 GB RZ M16
section
variable {P : Program} {w : World} {K : PySem.W.Frag} {mg : Str → Option Value} {base : Heap}
def SGcd : PSp := fun m ss Φ => ∃ a b : Int, ss = [.d (.int a), .d (.int b)] ∧ Φ m (.d (.int (Int.gcd a b : Nat)))
theorem ok_common_part {f_  : Addr} {fd_  : FuncData} (h : Has K mg "common_part" s_common_part ["a", "b"] f_ fd_) (z_abs : mg "abs" = none) : FnOk P w K mg base CX0 1 f_ fd_ ["a", "b"] (spU K SGcd) := by
  refine fnU h sc_common_part SGcd (fun n ss Φ h => ?_) (fun cdv A outer s H E hr F0 m0 cnt ss Φ hs => ?_)
  · obtain ⟨_, _, rfl, _⟩ := h
    rfl
  obtain ⟨a, b, rfl, done⟩ := hs
  refine ⟨_, (pss_cons (ps_par (i := 0) (j := 1) (by rfl) sc_common_part.nd rfl rfl (by decide) rfl rfl (pa_cons (pe_callB call_absB (by rfl) z_abs (by decide +kernel) (pa_cons (pv 0) pa_nil)) (pa_cons (pe_callB call_absB (by rfl) z_abs (by decide +kernel) (pa_cons (pv 1) pa_nil)) pa_nil)) (by rfl))
      (pss_cons (ps_while PassesOwn.never (pt_cmpR op_gt (pv 1) pe_int (nomark _)) (pss_one (ps_par (i := 0) (j := 1) (by rfl) sc_common_part.nd rfl rfl (by decide) rfl rfl (pa_cons (pv 1) (pa_cons (pe_op op_mod (pv 0) (pv 1)) pa_nil)) (by rfl))))
      (pss_one (ps_ret (pv 0))))), ?_⟩
  with_reducible apply GB.pz_st (m' := 2)
  · exact rfl
  walk_at "st"
  have eg : Int.gcd a b = Nat.gcd a.natAbs b.natAbs := rfl
  rw [eg] at done
  walk_at "p"
  generalize a.natAbs = X at done ⊢
  generalize b.natAbs = Y at done ⊢
  refine pz_while (Inv (fun (k : Nat) (u : Nat) => (cnt, [dI u, dI k])) fun k u => Nat.gcd u k = Nat.gcd X Y) Y (lpI X (Nat.le_refl _) (by walk_at "fg") rfl) (fun k n' ρ hI => ?_)
  obtain ⟨u, e, hg⟩ := hI
  injection e with e1 e2
  subst e1 e2
  walk_at "p"
  walk_at "p2"
  · walk_at "p"
    refine ⟨u % k, Nat.mod_lt _ (by omega), lpI k (Nat.le_refl _) (by dsimp only; rw [show ((u % k : Nat) : Int) = (u : Int) % (k : Int) by omega]; walk_at "fg") ?_⟩
    show Nat.gcd k (u % k) = _
    rw [Nat.gcd_comm, ← Nat.gcd_rec, Nat.gcd_comm, hg]
  · have e : k = 0 := by omega
    subst e
    rw [Nat.gcd_zero_right] at hg
    subst hg
    walk_at "p"
    exact done
def SLowest : PSp := fun m ss Φ => ∃ a b : Int, ss = [.d (.int a), .d (.int b)] ∧ 0 < b ∧ Bt 700 a ∧ Bt 700 b ∧ Φ m (.d (.tuple [.int (a / (Int.gcd a b : Int)), .int (b / (Int.gcd a b : Int))]))
theorem gcd_pos {a b : Int} (b0 : 0 < b) : 0 < (Int.gcd a b : Int) := (low_det b0).1
theorem gcd_bt {a b : Int} {n : Nat} (b0 : 0 < b) (h : Bt (n + 1) b) : BtC (Int.gcd a b : Int) n := ⟨h.le (by
  have := Nat.le_of_dvd (by omega) (Int.gcd_dvd_natAbs_right a b)
  omega)⟩
theorem ok_lowest {f_ f0 : Addr} {fd_ g0 : FuncData} (h : Has K mg "lowest" s_lowest ["a", "b"] f_ fd_) (h_common_part : Has K mg "common_part" s_common_part ["a", "b"] f0 g0) (F_common_part : FnOk P w K mg base CX0 1 f0 g0 ["a", "b"] (spU K SGcd)) : FnOk P w K mg base CX0 2 f_ fd_ ["a", "b"] (spU K SLowest) := by
  refine fnU h sc_lowest SLowest (fun n ss Φ h => ?_) (fun cdv A outer s H E hr F0 m0 cnt ss Φ hs => ?_)
  · obtain ⟨_, _, rfl, _⟩ := h
    rfl
  obtain ⟨a, b, rfl, b0, ba, bb, done⟩ := hs
  refine ⟨_, (pss_cons (ps_set (i := 2) sc_lowest.nd rfl (.inl rfl) (pe_call F_common_part (hr.mono (by decide)) (by rfl) h_common_part.gl h_common_part.fn.kp h_common_part.bd .nil pass0 (pa_cons (pv 0) (pa_cons (pv 1) pa_nil))))
      (pss_one (ps_ret (pe_tup (pa_cons (pe_op op_fdivW (pv 0) (pv 2)) (pa_cons (pe_op op_fdivW (pv 1) (pv 2)) pa_nil)))))), ?_⟩
  with_reducible apply GB.pz_st (m' := 3)
  · exact rfl
  walk_at "st"
  walk_at "p"
  refine ⟨rfl, a, b, rfl, ?_⟩
  have g0 := gcd_pos (a := a) b0
  haveI := gcd_bt (a := a) b0 bb
  generalize (Int.gcd a b : Int) = g at *
  walk_at "p"
  exact done
theorem ok_law_lowest {f_ f0 : Addr} {fd_ g0 : FuncData} (h : Has K mg "_law_lowest" s_law_lowest ["p", "q"] f_ fd_) (h_law_common : Has K mg "_law_common" s_law_common ["a", "b"] f0 g0) (F_law_common : FnOk P w K mg base CX0 1 f0 g0 ["a", "b"] (spU K SCommon)) : FnOk P w K mg base CX0 2 f_ fd_ ["p", "q"] (spU K SLowest) := by
  refine fnU h sc_law_lowest SLowest (fun n ss Φ h => ?_) (fun cdv A outer s H E hr F0 m0 cnt ss Φ hs => ?_)
  · obtain ⟨_, _, rfl, _⟩ := h
    rfl
  obtain ⟨a, b, rfl, b0, ba, bb, done⟩ := hs
  refine ⟨_, (pss_cons (ps_set (i := 2) sc_law_lowest.nd rfl (.inl rfl) (pe_call F_law_common (hr.mono (by decide)) (by rfl) h_law_common.gl h_law_common.fn.kp h_law_common.bd .nil pass0 (pa_cons (pv 0) (pa_cons (pv 1) pa_nil))))
      (pss_one (ps_ret (pe_tup (pa_cons (pe_op op_fdivW (pv 0) (pv 2)) (pa_cons (pe_op op_fdivW (pv 1) (pv 2)) pa_nil)))))), ?_⟩
  with_reducible apply GB.pz_st (m' := 3)
  · exact rfl
  walk_at "st"
  walk_at "p"
  refine ⟨rfl, a, b, rfl, ba.mono (by decide), bb.mono (by decide), ?_⟩
  have g0 := gcd_pos (a := a) b0
  haveI := gcd_bt (a := a) b0 bb
  generalize (Int.gcd a b : Int) = g at *
  walk_at "p"
  exact done
/-! what is told, as data -/
abbrev pr (p q : Int) : PyData := .tuple [.int p, .int q]
abbrev tt (p q r s : Int) : PyData := .tuple [pr p q, pr r s]
theorem told_bits {a b m p q r s : Int} (b0 : 0 < b) (h : Told a b m p q r s) (ba : Bt 700 a) (bm : Bt 200 m) : Bt 902 p ∧ Bt 200 q ∧ Bt 902 r ∧ Bt 200 s := by
  obtain ⟨q0, s0, _⟩ := h.cop b0
  obtain ⟨_, _, qm, sm⟩ := h.sides b0
  have bq : Bt 200 q := bm.le (by omega)
  have bs : Bt 200 s := bm.le (by omega)
  have key : ∀ {x y : Int}, Bt 200 y → x.natAbs ≤ a.natAbs * y.natAbs + 1 → Bt 902 x := fun {x y} hy hx => by
    have h1 := Nat.mul_le_mul (Nat.le_of_lt ba) (Nat.le_of_lt hy)
    rw [← Nat.pow_add] at h1
    have h2 : 2 ^ (700 + 200) + 1 < 2 ^ 902 := by decide +kernel
    exact Nat.lt_of_le_of_lt (Nat.le_trans hx (Nat.add_le_add_right h1 1)) h2
  refine ⟨?_, bq, ?_, bs⟩
  all_goals
    rcases h with ⟨h1, h2, h3, h4, h5⟩ | ⟨_, h, _⟩
  · have := Int.natAbs_ediv_le_natAbs a (Int.gcd a b : Int)
    rw [← h1] at this
    exact (ba.le this).mono (by decide)
  · exact key bq (h.size b0).1
  · have := Int.natAbs_ediv_le_natAbs a (Int.gcd a b : Int)
    rw [← h1, ← h3] at this
    exact (ba.le this).mono (by decide)
  · exact key bs (h.size b0).2
def SNb : PSp := fun m ss Φ => ∃ a b M : Int, ss = [.d (.int a), .d (.int b), .d (.int M)] ∧ 0 < b ∧ 1 ≤ M ∧ Bt 700 a ∧ Bt 700 b ∧ Bt 200 M ∧ ∀ p q r s, Told a b M p q r s → Φ m (.d (tt p q r s))
theorem ok_neighbours {f_ f0 : Addr} {fd_ g0 : FuncData} (h : Has K mg "neighbours" s_neighbours ["a", "b", "most"] f_ fd_) (z_min : mg "min" = none) (h_lowest : Has K mg "lowest" s_lowest ["a", "b"] f0 g0) (F_lowest : FnOk P w K mg base CX0 2 f0 g0 ["a", "b"] (spU K SLowest)) : FnOk P w K mg base CX0 3 f_ fd_ ["a", "b", "most"] (spU K SNb) := by
  refine fnU h sc_neighbours SNb (fun n ss Φ h => ?_) (fun cdv A outer s H E hr F0 m0 cnt ss Φ hs => ?_)
  · obtain ⟨_, _, _, rfl, _⟩ := h
    rfl
  obtain ⟨a, b, M, rfl, b0, M0, ba, bb, bM, done⟩ := hs
  refine ⟨_, (pss_cons (ps_asg (pe_call F_lowest (hr.mono (by decide)) (by rfl) h_lowest.gl h_lowest.fn.kp h_lowest.bd .nil pass0 (pa_cons (pv 0) (pa_cons (pv 1) pa_nil))) (pg_tup rfl (pgs_cons (pg_name (i := 0) sc_neighbours.nd rfl (Or.inl rfl)) (pgs_cons (pg_name (i := 1) sc_neighbours.nd rfl (Or.inl rfl)) pgs_nil))))
      (pss_cons (ps_if (pt_cmpR op_le (pv 1) (pv 2) (nomark _)) (pss_one (ps_ret (pe_tup (pa_cons (pe_tup (pa_cons (pv 0) (pa_cons (pv 1) pa_nil))) (pa_cons (pe_tup (pa_cons (pv 0) (pa_cons (pv 1) pa_nil))) pa_nil))))) pss_nil)
      (pss_cons (ps_par (i := 3) (j := 4) (by rfl) sc_neighbours.nd rfl rfl (by decide) rfl rfl (pa_cons (pe_op op_fdivW (pv 0) (pv 1)) (pa_cons pe_int pa_nil)) (by rfl))
      (pss_cons (ps_par (i := 5) (j := 6) (by rfl) sc_neighbours.nd rfl rfl (by decide) rfl rfl (pa_cons (pe_op op_add (pv 3) pe_int) (pa_cons pe_int pa_nil)) (by rfl))
      (pss_cons (ps_while PassesOwn.never (pt_cmpR op_le (pe_op op_add (pv 4) (pv 6)) (pv 2) (nomark _)) (pss_cons (ps_set (i := 7) sc_neighbours.nd rfl (.inl rfl) (pe_callB (call_minB rfl) (by rfl) z_min (by decide +kernel) (pa_cons (pe_op op_fdivW (pe_op op_sub (pe_op op_mulB (pv 0) (pv 4)) (pe_op op_mulB (pv 1) (pv 3))) (pe_op op_sub (pe_op op_mulB (pv 1) (pv 5)) (pe_op op_mulB (pv 0) (pv 6)))) (pa_cons (pe_op op_fdivW (pe_op op_sub (pv 2) (pv 4)) (pv 6)) pa_nil))))
      (pss_cons (ps_par (i := 3) (j := 4) (by rfl) sc_neighbours.nd rfl rfl (by decide) rfl rfl (pa_cons (pe_op op_add (pv 3) (pe_op op_mulB (pv 7) (pv 5))) (pa_cons (pe_op op_add (pv 4) (pe_op op_mulB (pv 7) (pv 6))) pa_nil)) (by rfl))
      (pss_cons (ps_set (i := 7) sc_neighbours.nd rfl (.inl rfl) (pe_callB (call_minB rfl) (by rfl) z_min (by decide +kernel) (pa_cons (pe_op op_fdivW (pe_op op_sub (pe_op op_mulB (pv 1) (pv 5)) (pe_op op_mulB (pv 0) (pv 6))) (pe_op op_sub (pe_op op_mulB (pv 0) (pv 4)) (pe_op op_mulB (pv 1) (pv 3)))) (pa_cons (pe_op op_fdivW (pe_op op_sub (pv 2) (pv 6)) (pv 4)) pa_nil))))
      (pss_one (ps_par (i := 5) (j := 6) (by rfl) sc_neighbours.nd rfl rfl (by decide) rfl rfl (pa_cons (pe_op op_add (pv 5) (pe_op op_mulB (pv 7) (pv 3))) (pa_cons (pe_op op_add (pv 6) (pe_op op_mulB (pv 7) (pv 4))) pa_nil)) (by rfl)))))))
      (pss_one (ps_ret (pe_tup (pa_cons (pe_tup (pa_cons (pv 3) (pa_cons (pv 4) pa_nil))) (pa_cons (pe_tup (pa_cons (pv 5) (pa_cons (pv 6) pa_nil))) pa_nil)))))))))), ?_⟩
  with_reducible apply GB.pz_st (m' := 8)
  · exact rfl
  walk_at "st"
  walk_at "p"
  refine ⟨rfl, a, b, rfl, b0, ba, bb, ?_⟩
  obtain ⟨g0, B0, ea, eb, cop⟩ := low_det (a := a) b0
  have bA : Bt 700 (a / (Int.gcd a b : Int)) := ba.le (Int.natAbs_ediv_le_natAbs _ _)
  have bB : Bt 700 (b / (Int.gcd a b : Int)) := bb.le (Int.natAbs_ediv_le_natAbs _ _)
  walk_at "p"
  walk_at "p2"
  · walk_at "p"
    exact done _ _ _ _ (.inl ⟨rfl, rfl, rfl, rfl, by assumption⟩)
  · rename_i hM
    have hM : M < b / (Int.gcd a b : Int) := by omega
    have fin : ∀ p q r s : Int, Nb (a / (Int.gcd a b : Int)) (b / (Int.gcd a b : Int)) M p q r s → M < q + s → Φ cnt (.d (tt p q r s)) := fun p q r s h big => by
      refine done p q r s (.inr ⟨hM, ?_, big⟩)
      have h2 := (nb_scale (g := (Int.gcd a b : Int)) g0).mpr h
      rw [← ea, ← eb] at h2
      exact h2
    have st := Nb.start B0 M0 hM cop
    clear done
    generalize a / (Int.gcd a b : Int) = A at *
    generalize b / (Int.gcd a b : Int) = B at *
    haveI : BtC A 699 := ⟨bA⟩
    haveI : BtC B 699 := ⟨bB⟩
    haveI : BtC M 199 := ⟨bM⟩
    walk_at "p"
    refine pz_while (Inv (fun (k : Nat) ((p, q, r, s) : Int × Int × Int × Int) => (cnt, [dI A, dI B, dI M, dI p, dI q, dI r, dI s, none])) fun k (p, q, r, s) => k = (2 * M - q - s).toNat ∧ Nb A B M p q r s) (2 * M - 1 - 1).toNat (lpI (A / B, 1, A / B + 1, 1) (Nat.le_refl _) (by walk_at "fg") ⟨rfl, st⟩) (fun k n' ρ hI => ?_)
    obtain ⟨⟨p, q, r, s⟩, e, rfl, nb⟩ := hI
    injection e with e1 e2
    subst e1 e2
    obtain ⟨x0, y0⟩ := nb.pos
    have q0 := nb.q0
    have s0 := nb.s0
    have qm := nb.qm
    have sm := nb.sm
    have sz := nb.size B0
    have bits : ∀ {x y : Int}, 0 < y → y ≤ M → x.natAbs ≤ A.natAbs * y.natAbs + 1 → BtC x 901 ∧ BtC y 199 := fun {x y} y0 ym hx => by
      have hy : Bt 200 y := bM.le (by omega)
      refine ⟨⟨?_⟩, ⟨hy⟩⟩
      have h1 := Nat.mul_le_mul (Nat.le_of_lt bA) (Nat.le_of_lt hy)
      rw [← Nat.pow_add] at h1
      have h2 : 2 ^ (700 + 200) + 1 < 2 ^ 902 := by decide +kernel
      exact Nat.lt_of_le_of_lt (Nat.le_trans hx (Nat.add_le_add_right h1 1)) h2
    haveI := (bits q0 qm sz.1).1
    haveI := (bits q0 qm sz.1).2
    haveI := (bits s0 sm sz.2).1
    haveI := (bits s0 sm sz.2).2
    walk_at "p"
    walk_at "p2"
    · rename_i hl
      have l : q + s ≤ M := by omega
      have k10 : 0 ≤ min ((A * q - B * p) / (B * r - A * s)) ((M - q) / s) := by
        have := div_nn (Int.le_of_lt x0) y0
        have := div_pos s0 (show s ≤ M - q by omega)
        omega
      have nb1 := turn_lo nb cop hM k10 (Int.min_le_left _ _) (Int.min_le_right _ _)
      have t := turn_on nb l _ _ rfl rfl nb1
      have nb2 := turn_hi nb1 cop hM t.2.1 (Int.min_le_left _ _) (Int.min_le_right _ _)
      have x1 := nb1.pos.1
      have q1 := nb1.q0
      walk_at "p"
      refine ⟨_, ?_, lpI (_, _, _, _) (Nat.le_refl _) (by walk_at "fg") ⟨rfl, nb2⟩⟩
      have h1 := nb2.sm
      have h2 := nb2.qm
      have h3 := t.2.2
      dsimp only
      omega
    · walk_at "p"
      exact fin p q r s nb (by omega)
def nearI (a b p q r s : Int) : PyData := if (a * q - b * p) * s < (b * r - a * s) * q ∨ ((a * q - b * p) * s = (b * r - a * s) * q ∧ q ≤ s) then pr p q else pr r s
def SNear : PSp := fun m ss Φ => ∃ a b M : Int, ss = [.d (.int a), .d (.int b), .d (.int M)] ∧ 0 < b ∧ 1 ≤ M ∧ Bt 700 a ∧ Bt 700 b ∧ Bt 200 M ∧ ∀ p q r s, Told a b M p q r s → Φ m (.d (nearI a b p q r s))
theorem ok_nearest {f_ f0 : Addr} {fd_ g0 : FuncData} (h : Has K mg "nearest" s_nearest ["a", "b", "most"] f_ fd_) (h_neighbours : Has K mg "neighbours" s_neighbours ["a", "b", "most"] f0 g0) (F_neighbours : FnOk P w K mg base CX0 3 f0 g0 ["a", "b", "most"] (spU K SNb)) : FnOk P w K mg base CX0 4 f_ fd_ ["a", "b", "most"] (spU K SNear) := by
  refine fnU h sc_nearest SNear (fun n ss Φ h => ?_) (fun cdv A outer s H E hr F0 m0 cnt ss Φ hs => ?_)
  · obtain ⟨_, _, _, rfl, _⟩ := h
    rfl
  obtain ⟨a, b, M, rfl, b0, M0, ba, bb, bM, done⟩ := hs
  refine ⟨_, (pss_cons (ps_asg (pe_call F_neighbours (hr.mono (by decide)) (by rfl) h_neighbours.gl h_neighbours.fn.kp h_neighbours.bd .nil pass0 (pa_cons (pv 0) (pa_cons (pv 1) (pa_cons (pv 2) pa_nil)))) (pg_tup rfl (pgs_cons (pg_tup rfl (pgs_cons (pg_name (i := 3) sc_nearest.nd rfl (Or.inl rfl)) (pgs_cons (pg_name (i := 4) sc_nearest.nd rfl (Or.inl rfl)) pgs_nil))) (pgs_cons (pg_tup rfl (pgs_cons (pg_name (i := 5) sc_nearest.nd rfl (Or.inl rfl)) (pgs_cons (pg_name (i := 6) sc_nearest.nd rfl (Or.inl rfl)) pgs_nil))) pgs_nil))))
      (pss_cons (ps_par (i := 7) (j := 8) (by rfl) sc_nearest.nd rfl rfl (by decide) rfl rfl (pa_cons (pe_op op_mulB (pe_op op_sub (pe_op op_mulB (pv 0) (pv 4)) (pe_op op_mulB (pv 1) (pv 3))) (pv 6)) (pa_cons (pe_op op_mulB (pe_op op_sub (pe_op op_mulB (pv 1) (pv 5)) (pe_op op_mulB (pv 0) (pv 6))) (pv 4)) pa_nil)) (by rfl))
      (pss_cons (ps_if (pt_cmpR (op_leT (Nat.lt_of_succ_lt (hu_of hr))) (pe_tup (pa_cons (pv 7) (pa_cons (pv 4) pa_nil))) (pe_tup (pa_cons (pv 8) (pa_cons (pv 6) pa_nil))) (nomark _)) (pss_one (ps_ret (pe_tup (pa_cons (pv 3) (pa_cons (pv 4) pa_nil))))) pss_nil)
      (pss_one (ps_ret (pe_tup (pa_cons (pv 5) (pa_cons (pv 6) pa_nil)))))))), ?_⟩
  with_reducible apply GB.pz_st (m' := 9)
  · exact rfl
  walk_at "st"
  walk_at "p"
  refine ⟨rfl, a, b, M, rfl, b0, M0, ba, bb, bM, fun p q r s ht => ?_⟩
  obtain ⟨bp, bq, br, bs⟩ := told_bits b0 ht ba bM
  have done := done p q r s ht
  unfold nearI at done
  haveI : BtC p 901 := ⟨bp⟩
  haveI : BtC q 199 := ⟨bq⟩
  haveI : BtC r 901 := ⟨br⟩
  haveI : BtC s 199 := ⟨bs⟩
  haveI : BtC a 699 := ⟨ba⟩
  haveI : BtC b 699 := ⟨bb⟩
  walk_at "p"
  walk_at "p2"
  · rename_i hc
    rw [if_pos hc] at done
    walk_at "p"
    exact done
  · rename_i hc
    rw [if_neg hc] at done
    walk_at "p"
    exact done
def isNum (d : PyData) : Bool := isD d "int" && !isD d "bool"
def SIsNum : PSp := fun m ss Φ => ∃ d : PyData, ss = [.d d] ∧ Φ m (.d (.bool (isNum d)))
theorem ok_is_number {f_  : Addr} {fd_  : FuncData} (h : Has K mg "is_number" s_is_number ["value"] f_ fd_) (z_isinstance : mg "isinstance" = none) (z_int : mg "int" = none) (z_bool : mg "bool" = none) : FnOk P w K mg base CX0 1 f_ fd_ ["value"] (spU K SIsNum) := by
  refine fnU h sc_is_number SIsNum (fun n ss Φ h => ?_) (fun cdv A outer s H E hr F0 m0 cnt ss Φ hs => ?_)
  · obtain ⟨_, rfl, _⟩ := h
    rfl
  obtain ⟨d, rfl, done⟩ := hs
  refine ⟨_, (pss_one (ps_ret (pe_and (pe_callB call_isi (by rfl) z_isinstance (by decide +kernel) (pa_cons (pv 0) (pa_cons (pe_bltn (v := .ty "int") (u := .type "int") (by rfl) z_int (by decide +kernel) rfl) pa_nil))) (pe_one (pe_not (pe_callB call_isi (by rfl) z_isinstance (by decide +kernel) (pa_cons (pv 0) (pa_cons (pe_bltn (v := .ty "bool") (u := .type "bool") (by rfl) z_bool (by decide +kernel) rfl) pa_nil)))))))), ?_⟩
  with_reducible apply GB.pz_st (m' := 1)
  · exact rfl
  walk_at "st"
  unfold isNum at done
  walk_at "p"
  walk_at "p2"
  · rename_i h1
    rw [h1] at done
    walk_at "p"
    exact done
  · rename_i h1
    rw [h1] at done
    walk_at "p"
    exact done
theorem ok_law_is_number {f_  : Addr} {fd_  : FuncData} (h : Has K mg "_law_is_number" s_law_is_number ["value"] f_ fd_) (z_isinstance : mg "isinstance" = none) (z_int : mg "int" = none) (z_bool : mg "bool" = none) : FnOk P w K mg base CX0 1 f_ fd_ ["value"] (spU K SIsNum) := by
  refine fnU h sc_law_is_number SIsNum (fun n ss Φ h => ?_) (fun cdv A outer s H E hr F0 m0 cnt ss Φ hs => ?_)
  · obtain ⟨_, rfl, _⟩ := h
    rfl
  obtain ⟨d, rfl, done⟩ := hs
  refine ⟨_, (pss_one (ps_ret (pe_and (pe_callB call_isi (by rfl) z_isinstance (by decide +kernel) (pa_cons (pv 0) (pa_cons (pe_bltn (v := .ty "int") (u := .type "int") (by rfl) z_int (by decide +kernel) rfl) pa_nil))) (pe_one (pe_not (pe_callB call_isi (by rfl) z_isinstance (by decide +kernel) (pa_cons (pv 0) (pa_cons (pe_bltn (v := .ty "bool") (u := .type "bool") (by rfl) z_bool (by decide +kernel) rfl) pa_nil)))))))), ?_⟩
  with_reducible apply GB.pz_st (m' := 1)
  · exact rfl
  walk_at "st"
  unfold isNum at done
  walk_at "p"
  walk_at "p2"
  · rename_i h1
    rw [h1] at done
    walk_at "p"
    exact done
  · rename_i h1
    rw [h1] at done
    walk_at "p"
    exact done
def SIsTup : PSp := fun m ss Φ => ∃ (d : PyData) (k : Int), ss = [.d d, .d (.int k)] ∧ (∀ ds : List PyData, d = .tuple ds → Φ m (.d (.bool (decide ((ds.length : Int) = k))))) ∧ ((∀ ds, d ≠ .tuple ds) → Φ m (.d (.bool false)))
theorem tup_of {d : PyData} (h : isD d "tuple" = true) : ∃ ds, d = .tuple ds := by
  cases d with
  | tuple ds => exact ⟨ds, rfl⟩
  | _ => simp [isD, tyD] at h
theorem tup_not {d : PyData} (h : isD d "tuple" = false) : ∀ ds, d ≠ .tuple ds := fun ds e => by
  subst e
  simp [isD, tyD] at h
theorem num_of {d : PyData} (h : isNum d = true) : ∃ i, d = .int i := by
  cases d with
  | int i => exact ⟨i, rfl⟩
  | _ => simp [isNum, isD, tyD] at h
theorem num_not {d : PyData} (h : isNum d = false) : ∀ i, d ≠ .int i := fun i e => by
  subst e
  simp [isNum, isD, tyD] at h
theorem ok_is_tuple {f_  : Addr} {fd_  : FuncData} (h : Has K mg "is_tuple" s_is_tuple ["value", "size"] f_ fd_) (z_isinstance : mg "isinstance" = none) (z_tuple : mg "tuple" = none) (z_len : mg "len" = none) : FnOk P w K mg base CX0 1 f_ fd_ ["value", "size"] (spU K SIsTup) := by
  refine fnU h sc_is_tuple SIsTup (fun n ss Φ h => ?_) (fun cdv A outer s H E hr F0 m0 cnt ss Φ hs => ?_)
  · obtain ⟨_, _, rfl, _⟩ := h
    rfl
  obtain ⟨d, k, rfl, d1, d2⟩ := hs
  refine ⟨_, (pss_one (ps_ret (pe_and (pe_callB call_isi (by rfl) z_isinstance (by decide +kernel) (pa_cons (pv 0) (pa_cons (pe_bltn (v := .ty "tuple") (u := .type "tuple") (by rfl) z_tuple (by decide +kernel) rfl) pa_nil))) (pe_one (pe_cmpR op_eq (pe_callB call_lenB (by rfl) z_len (by decide +kernel) (pa_cons (pv 0) pa_nil)) (pv 1) (nomark _)))))), ?_⟩
  with_reducible apply GB.pz_st (m' := 2)
  · exact rfl
  walk_at "st"
  walk_at "p"
  walk_at "p2"
  · rename_i h1
    obtain ⟨ds, rfl⟩ := tup_of h1
    walk_at "p"
    exact d1 ds rfl
  · rename_i h1
    walk_at "p"
    exact d2 (tup_not h1)
end
end L16
namespace L16
open PySem PySem.Spec PyProof.Rows L2 GB RZ M16
section
variable {P : Program} {w : World} {K : PySem.W.Frag} {mg : Str → Option Value} {base : Heap}
theorem shaped_int (i : Int) : SeqAt.shaped (.int i) = true := by
  unfold SeqAt.shaped
  simp only [PyData.canLay0, PyData.depth]
  rfl
theorem shaped_pr (i j : Int) : SeqAt.shaped (pr i j) = true := by
  unfold SeqAt.shaped
  simp only [PyData.canLay0, PyData.depth, PyData.canLayAll0, PyData.depthAll]
  rfl
theorem eqv_pr (p q x y : Int) : PyData.eqv (pr p q) (pr x y) = decide (p = x ∧ q = y) := by
  simp only [PyData.eqv, PyData.eqvAll, Bool.and_true]
  by_cases h1 : p = x <;> by_cases h2 : q = y <;> simp [h1, h2]
def Nest : Nat → PyData → Prop
  | _, .int _ => True
  | k + 1, .tuple ws => ∀ x ∈ ws, Nest k x
  | _, _ => False
def SNest : Nat → PSp
  | 0 => fun _ _ _ => False
  | k + 1 => fun m ss Φ => ∃ d v, ss = [.d d, .d v] ∧ Nest k v ∧ ∀ c : Bool, (c = true ↔ d = v) → Φ m (.d (.bool c))
theorem ok_same_nest {f_ f0 f1 : Addr} {fd_ g0 g1 : FuncData} (h : Has K mg "same_nest" s_same_nest ["value", "wanted"] f_ fd_) (z_isinstance : mg "isinstance" = none) (z_str : mg "str" = none) (z_zip : mg "zip" = none) (z_tuple : mg "tuple" = none) (z_len : mg "len" = none)
    (h_is_tuple : Has K mg "is_tuple" s_is_tuple ["value", "size"] f1 g1) (F_is_tuple : FnOk P w K mg base CX0 1 f1 g1 ["value", "size"] (spU K SIsTup))
    (h_is_number : Has K mg "is_number" s_is_number ["value"] f0 g0) (F_is_number : FnOk P w K mg base CX0 1 f0 g0 ["value"] (spU K SIsNum)) :
    ∀ k : Nat, FnOk P w K mg base CX0 (k + 1) f_ fd_ ["value", "wanted"] (spU K (SNest k)) := by
  intro k
  induction k with
  | zero =>
    have no : ∀ {vs : List V} {H : Hp} {Q : VK} {E : XK}, ¬ spU K (SNest 0) vs H Q E := fun {vs H Q E} ⟨_, _, _, _, _, _, _, _, h, _⟩ => h
    exact ⟨fun vs H Q E z => (no z).elim, fun A outer s H args us vs Q E _ _ _ _ z => (no z).elim⟩
  | succ k ih =>
    have h_same_nest := h
    have F_same_nest := ih
    refine fnU h sc_same_nest (SNest (k + 1)) (fun n ss Φ h => ?_) (fun cdv A outer s H E hr F0 m0 cnt ss Φ hs => ?_)
    · obtain ⟨_, _, rfl, _⟩ := h
      rfl
    obtain ⟨d, v, rfl, nv, done⟩ := hs
    refine ⟨_, (pss_cons (ps_if (pt_val (pe_callB call_isi (by rfl) z_isinstance (by decide +kernel) (pa_cons (pv 1) (pa_cons (pe_bltn (v := .ty "str") (u := .type "str") (by rfl) z_str (by decide +kernel) rfl) pa_nil)))) (pss_one (ps_ret (pe_and (pe_callB call_isi (by rfl) z_isinstance (by decide +kernel) (pa_cons (pv 0) (pa_cons (pe_bltn (v := .ty "str") (u := .type "str") (by rfl) z_str (by decide +kernel) rfl) pa_nil))) (pe_one (pe_cmpR (op_eqD hr.units) (pv 0) (pv 1) (nomark _)))))) pss_nil)
      (pss_cons (ps_if (pt_not (pt_val (pe_callB call_isi (by rfl) z_isinstance (by decide +kernel) (pa_cons (pv 1) (pa_cons (pe_bltn (v := .ty "tuple") (u := .type "tuple") (by rfl) z_tuple (by decide +kernel) rfl) pa_nil))))) (pss_one (ps_ret (pe_and (pe_call F_is_number (hr.mono (by first | decide | omega)) (by rfl) h_is_number.gl h_is_number.fn.kp h_is_number.bd .nil pass0 (pa_cons (pv 0) pa_nil)) (pe_one (pe_cmpR (op_eqD hr.units) (pv 0) (pv 1) (nomark _)))))) pss_nil)
      (pss_cons (ps_if (pt_not (pt_val (pe_call F_is_tuple (hr.mono (by first | decide | omega)) (by rfl) h_is_tuple.gl h_is_tuple.fn.kp h_is_tuple.bd .nil pass0 (pa_cons (pv 0) (pa_cons (pe_callB call_lenB (by rfl) z_len (by decide +kernel) (pa_cons (pv 1) pa_nil)) pa_nil))))) (pss_one (ps_ret pe_bl)) pss_nil)
      (pss_cons (ps_for PassesOwn.never rfl (pi_zipA (by rfl) z_zip (pa_cons (pv 0) (pa_cons (pv 1) pa_nil))) (pg_tup rfl (pgs_cons (pg_name (i := 2) sc_same_nest.nd rfl (Or.inl rfl)) (pgs_cons (pg_name (i := 3) sc_same_nest.nd rfl (Or.inl rfl)) pgs_nil))) (pss_one (ps_if (pt_not (pt_val (pe_call F_same_nest (hr.mono (by omega)) (by rfl) h_same_nest.gl h_same_nest.fn.kp h_same_nest.bd .nil pass0 (pa_cons (pv 2) (pa_cons (pv 3) pa_nil))))) (pss_one (ps_ret pe_bl)) pss_nil)))
      (pss_one (ps_ret pe_bl)))))), ?_⟩
    with_reducible apply GB.pz_st (m' := 4)
    · exact rfl
    walk_at "st"
    cases v with
    | int i =>
      walk_at "p"
      refine ⟨rfl, d, rfl, ?_⟩
      walk_at "p"
      walk_at "p2"
      · rename_i h1
        obtain ⟨j, rfl⟩ := num_of h1
        walk_at "p"
        refine po_eqD rfl (shaped_int j) (shaped_int i) ?_
        walk_at "p"
        refine done _ ?_
        simp [PyData.eqv]
      · rename_i h1
        walk_at "p"
        exact done _ ⟨fun z => (by cases z), fun z => absurd z (num_not h1 i)⟩
    | tuple ws =>
      walk_at "p"
      refine ⟨rfl, d, (ws.length : Int), rfl, fun ds e => ?_, fun z => ?_⟩
      · subst e
        walk_at "p"
        walk_at "p2"
        · rename_i hl
          have hl : ds.length = ws.length := by omega
          walk_at "p"
          refine forS (I := Inv (fun i (_ : Unit) => (cnt, [some (.d (.tuple ds)), some (.d (.tuple ws)), none, none])) fun i _ => ∀ j, j < i → ds[j]? = ws[j]?) (lpI () (Nat.le_refl _) (by walk_at "fg") fun j hj => absurd hj (Nat.not_lt_zero _)) (fun i x n' ρ hx hI => ?_) (fun n' ρ hI => ?_)
          · obtain ⟨_, e, hd⟩ := hI
            injection e with e1 e2
            subst e1 e2
            obtain ⟨u, y, g1, g2, rfl⟩ := pairs_at hx
            walk_at "p"
            have ny : ∃ k', k = k' + 1 ∧ Nest k' y := by
              cases k with
              | zero => exact nv.elim
              | succ k' => exact ⟨k', rfl, nv y (List.mem_of_getElem? g2)⟩
            obtain ⟨k', rfl, ny⟩ := ny
            refine ⟨rfl, u, y, rfl, ny, fun c hc => ?_⟩
            walk_at "p"
            walk_at "p2"
            · rename_i h1
              walk_at "p"
              refine lpI () (Nat.le_refl _) (by walk_at "fg") fun j hj => ?_
              by_cases z : j = i
              · subst z
                rw [g1, g2, hc.mp h1]
              · exact hd j (by omega)
            · rename_i h1
              walk_at "p"
              refine done _ ⟨fun z => (by cases z), fun z => ?_⟩
              cases z
              rw [g1] at g2
              cases g2
              rw [hc.mpr rfl] at h1
              cases h1
          · obtain ⟨_, e, hd⟩ := hI
            injection e with e1 e2
            subst e1 e2
            walk_at "p"
            refine done _ ⟨fun _ => ?_, fun _ => rfl⟩
            have : ds = ws := by
              apply List.ext_getElem?
              intro j
              by_cases z : j < ws.length
              · exact hd j (by rw [GB.pairs_len]; omega)
              · rw [List.getElem?_eq_none (by omega), List.getElem?_eq_none (by omega)]
            rw [this]
        · rename_i hl
          walk_at "p"
          refine done _ ⟨fun z => (by cases z), fun z => ?_⟩
          cases z
          exact absurd rfl hl
      · walk_at "p"
        exact done _ ⟨fun y => (by cases y), fun y => absurd y (z ws)⟩
    | none => cases k <;> exact nv.elim
    | bool b => cases k <;> exact nv.elim
    | str x => cases k <;> exact nv.elim
    | list x => cases k <;> exact nv.elim
    | dict x => cases k <;> exact nv.elim
def SIsNb : PSp := fun m ss Φ => ∃ (a b M : Int) (d : PyData), ss = [.d (.int a), .d (.int b), .d (.int M), .d d] ∧ 0 < b ∧ 1 ≤ M ∧ Bt 700 a ∧ Bt 700 b ∧ Bt 200 M ∧ ∀ c : Bool, (c = true ↔ ∃ p q r s, d = tt p q r s ∧ RightP a b M p q r s) → Φ m (.d (.bool c))
theorem nest_tt (p q r s : Int) : Nest 3 (tt p q r s) := by
  intro x hx
  simp only [List.mem_cons, List.not_mem_nil, or_false] at hx
  rcases hx with rfl | rfl
  all_goals
    intro y hy
    simp only [List.mem_cons, List.not_mem_nil, or_false] at hy
    rcases hy with rfl | rfl <;> trivial
end
end L16
namespace L16
open PySem PySem.Spec PyProof.Rows L2 GB RZ M16
section
variable {P : Program} {w : World} {K : PySem.W.Frag} {mg : Str → Option Value} {base : Heap}
theorem ok_is_neighbours {f_ f0 f1 : Addr} {fd_ g0 g1 : FuncData} (h : Has K mg "is_neighbours" s_is_neighbours ["a", "b", "most", "value"] f_ fd_) (h_same_nest : Has K mg "same_nest" s_same_nest ["value", "wanted"] f0 g0) (F_same_nest : FnOk P w K mg base CX0 5 f0 g0 ["value", "wanted"] (spU K (SNest 4))) (h_neighbours : Has K mg "neighbours" s_neighbours ["a", "b", "most"] f1 g1) (F_neighbours : FnOk P w K mg base CX0 3 f1 g1 ["a", "b", "most"] (spU K SNb)) : FnOk P w K mg base CX0 6 f_ fd_ ["a", "b", "most", "value"] (spU K SIsNb) := by
  refine fnU h sc_is_neighbours SIsNb (fun n ss Φ h => ?_) (fun cdv A outer s H E hr F0 m0 cnt ss Φ hs => ?_)
  · obtain ⟨_, _, _, _, rfl, _⟩ := h
    rfl
  obtain ⟨a, b, M, d, rfl, b0, M0, ba, bb, bM, done⟩ := hs
  refine ⟨_, (pss_one (ps_ret (pe_call F_same_nest (hr.mono (by first | decide | omega)) (by rfl) h_same_nest.gl h_same_nest.fn.kp h_same_nest.bd .nil pass0 (pa_cons (pv 3) (pa_cons (pe_call F_neighbours (hr.mono (by first | decide | omega)) (by rfl) h_neighbours.gl h_neighbours.fn.kp h_neighbours.bd .nil pass0 (pa_cons (pv 0) (pa_cons (pv 1) (pa_cons (pv 2) pa_nil)))) pa_nil))))), ?_⟩
  with_reducible apply GB.pz_st (m' := 4)
  · exact rfl
  walk_at "st"
  walk_at "p"
  refine ⟨rfl, a, b, M, rfl, b0, M0, ba, bb, bM, fun p q r s ht => ?_⟩
  walk_at "p"
  refine ⟨rfl, d, tt p q r s, rfl, nest_tt p q r s, fun c hc => ?_⟩
  walk_at "p"
  refine done c (hc.trans ⟨fun e => ⟨p, q, r, s, e, ht.right b0⟩, fun ⟨p', q', r', s', e, hr⟩ => ?_⟩)
  obtain ⟨rfl, rfl, rfl, rfl⟩ := ht.uniq b0 (hr.told b0)
  exact e
/-! the law's own -/
theorem floor_le {a b q : Int} (b0 : 0 < b) : a * q / b * b ≤ a * q := by
  have h1 := Int.mul_ediv_add_emod (a * q) b
  have h2 := Int.emod_nonneg (a * q) (b := b) (by omega)
  rw [Int.mul_comm (a * q / b) b]
  omega
theorem ceil_ge {a b q : Int} (b0 : 0 < b) : a * q ≤ -(-a * q / b) * b := by
  have h := floor_le (a := -a) (q := q) b0
  rw [Int.neg_mul a q] at h
  rw [Int.neg_mul, Int.neg_mul a q]
  omega
theorem le_floor {a b q x : Int} (b0 : 0 < b) (h : x * b ≤ a * q) : x ≤ a * q / b := Int.le_ediv_of_mul_le b0 h
theorem ceil_le {a b q x : Int} (b0 : 0 < b) (h : a * q ≤ x * b) : -(-a * q / b) ≤ x := by
  have : -x ≤ -a * q / b := Int.le_ediv_of_mul_le b0 (by rw [Int.neg_mul, Int.neg_mul]; omega)
  omega
/-- the best so far -/
structure LowS (a b : Int) (n x y : Int) : Prop where
  y0 : 0 < y
  yn : y ≤ n
  le : x * b ≤ a * y
  best : ∀ z : Int, 1 ≤ z → z ≤ n → a * z / b * y ≤ x * z
structure HighS (a b : Int) (n x y : Int) : Prop where
  y0 : 0 < y
  yn : y ≤ n
  ge : a * y ≤ x * b
  best : ∀ z : Int, 1 ≤ z → z ≤ n → x * z ≤ -(-a * z / b) * y
theorem LowS.one {a b : Int} (b0 : 0 < b) : LowS a b 1 (a / b) 1 := ⟨by decide, by decide, by have := floor_le (a := a) (q := 1) b0; rw [Int.mul_one] at this; rw [Int.mul_one]; exact this, fun z h1 h2 => by
  have : z = 1 := by omega
  subst this
  simp⟩
theorem HighS.one {a b : Int} (b0 : 0 < b) : HighS a b 1 (-(-a / b)) 1 := ⟨by decide, by decide, by have := ceil_ge (a := a) (q := 1) b0; rw [Int.mul_one, Int.mul_one] at this; rw [Int.mul_one]; exact this, fun z h1 h2 => by
  have : z = 1 := by omega
  subst this
  simp⟩
theorem LowS.next {a b n x y : Int} (b0 : 0 < b) (n0 : 0 < n) (h : LowS a b n x y) : (a * (n + 1) / b * y > x * (n + 1) → LowS a b (n + 1) (a * (n + 1) / b) (n + 1)) ∧ (¬ a * (n + 1) / b * y > x * (n + 1) → LowS a b (n + 1) x y) := by
  refine ⟨fun c => ⟨by omega, by omega, floor_le b0, fun z h1 h2 => ?_⟩, fun c => ⟨h.y0, by have := h.yn; omega, h.le, fun z h1 h2 => ?_⟩⟩
  · by_cases e : z = n + 1
    · subst e; exact Int.le_refl _
    · have h3 := h.best z h1 (by omega)
      -- f z / z ≤ x / y < F / (n + 1)
      have e1 : a * z / b * y * (n + 1) ≤ x * z * (n + 1) := Int.mul_le_mul_of_nonneg_right h3 (by omega)
      have e2 : x * (n + 1) * z ≤ a * (n + 1) / b * y * z := Int.mul_le_mul_of_nonneg_right (by omega) (by omega)
      have e3 : a * z / b * (n + 1) * y ≤ a * (n + 1) / b * z * y := by
        have : a * z / b * (n + 1) * y = a * z / b * y * (n + 1) := by grind
        have : a * (n + 1) / b * z * y = a * (n + 1) / b * y * z := by grind
        have : x * z * (n + 1) = x * (n + 1) * z := by grind
        omega
      exact Int.le_of_mul_le_mul_right e3 h.y0
  · by_cases e : z = n + 1
    · subst e; omega
    · exact h.best z h1 (by omega)
theorem HighS.next {a b n x y : Int} (b0 : 0 < b) (n0 : 0 < n) (h : HighS a b n x y) : (-(-a * (n + 1) / b) * y < x * (n + 1) → HighS a b (n + 1) (-(-a * (n + 1) / b)) (n + 1)) ∧ (¬ -(-a * (n + 1) / b) * y < x * (n + 1) → HighS a b (n + 1) x y) := by
  refine ⟨fun c => ⟨by omega, by omega, ceil_ge b0, fun z h1 h2 => ?_⟩, fun c => ⟨h.y0, by have := h.yn; omega, h.ge, fun z h1 h2 => ?_⟩⟩
  · by_cases e : z = n + 1
    · subst e; exact Int.le_refl _
    · have h3 := h.best z h1 (by omega)
      generalize -(-a * (n + 1) / b) = F at *
      generalize -(-a * z / b) = f at *
      have e1 : x * z * (n + 1) ≤ f * y * (n + 1) := Int.mul_le_mul_of_nonneg_right h3 (by omega)
      have e2 : F * y * z ≤ x * (n + 1) * z := Int.mul_le_mul_of_nonneg_right (by omega) (by omega)
      have e3 : F * z * y ≤ f * (n + 1) * y := by
        have : F * z * y = F * y * z := by grind
        have : f * (n + 1) * y = f * y * (n + 1) := by grind
        have : x * z * (n + 1) = x * (n + 1) * z := by grind
        omega
      exact Int.le_of_mul_le_mul_right e3 h.y0
  · by_cases e : z = n + 1
    · subst e; omega
    · exact h.best z h1 (by omega)
theorem LowS.told {a b M x y p q r s : Int} (b0 : 0 < b) (h : LowS a b M x y) (t : Told a b M p q r s) : x / (Int.gcd x y : Int) = p ∧ y / (Int.gcd x y : Int) = q := by
  obtain ⟨q0, s0, c1, c2⟩ := t.cop b0
  obtain ⟨l1, l2, qm, sm⟩ := t.sides b0
  have u1 := t.low b0 h.y0 h.yn h.le
  have u2 := h.best q (by omega) qm
  have u3 : p * y ≤ a * q / b * y := Int.mul_le_mul_of_nonneg_right (le_floor b0 l1) (Int.le_of_lt h.y0)
  exact lowest_of q0 h.y0 c1 (by omega)
theorem HighS.told {a b M x y p q r s : Int} (b0 : 0 < b) (h : HighS a b M x y) (t : Told a b M p q r s) : x / (Int.gcd x y : Int) = r ∧ y / (Int.gcd x y : Int) = s := by
  obtain ⟨q0, s0, c1, c2⟩ := t.cop b0
  obtain ⟨l1, l2, qm, sm⟩ := t.sides b0
  have u1 := t.high b0 h.y0 h.yn h.ge
  have u2 := h.best s (by omega) sm
  have u3 : -(-a * s / b) * y ≤ r * y := Int.mul_le_mul_of_nonneg_right (ceil_le b0 l2) (Int.le_of_lt h.y0)
  exact lowest_of s0 h.y0 c2 (by omega)
def STried : PSp := fun m ss Φ => ∃ a b M p q r s : Int, ss = [.d (.int a), .d (.int b), .d (.int M)] ∧ 0 < b ∧ 1 ≤ M ∧ M < 30 ∧ Bt 600 a ∧ Bt 600 b ∧ Told a b M p q r s ∧ Φ m (.d (tt p q r s))
theorem ok_law_tried {f_ f0 : Addr} {fd_ g0 : FuncData} (h : Has K mg "_law_tried" s_law_tried ["a", "b", "most"] f_ fd_) (z_range : mg "range" = none) (h_law_lowest : Has K mg "_law_lowest" s_law_lowest ["p", "q"] f0 g0) (F_law_lowest : FnOk P w K mg base CX0 2 f0 g0 ["p", "q"] (spU K SLowest)) : FnOk P w K mg base CX0 3 f_ fd_ ["a", "b", "most"] (spU K STried) := by
  refine fnU h sc_law_tried STried (fun n ss Φ h => ?_) (fun cdv A outer s H E hr F0 m0 cnt ss Φ hs => ?_)
  · obtain ⟨_, _, _, _, _, _, _, rfl, _⟩ := h
    rfl
  obtain ⟨a, b, M, p, q, r, s, rfl, b0, M0, M30, ba, bb, ht, done⟩ := hs
  refine ⟨_, (pss_cons (ps_par (i := 3) (j := 4) (by rfl) sc_law_tried.nd rfl rfl (by decide) rfl rfl (pa_cons (pe_tup (pa_cons (pe_op op_fdivW (pv 0) (pv 1)) (pa_cons pe_int pa_nil))) (pa_cons (pe_tup (pa_cons (pe_un un_neg (pe_op op_fdivW (pe_un un_neg (pv 0)) (pv 1))) (pa_cons pe_int pa_nil))) pa_nil)) (by rfl))
      (pss_cons (ps_for PassesOwn.never rfl (pi_range2 rfl z_range (pa_cons pe_int (pa_cons (pe_op op_add (pv 2) pe_int) pa_nil))) (pg_name (i := 5) sc_law_tried.nd rfl (Or.inl rfl)) (pss_cons (ps_par (i := 6) (j := 7) (by rfl) sc_law_tried.nd rfl rfl (by decide) rfl rfl (pa_cons (pe_op op_fdivW (pe_op op_mulB (pv 0) (pv 5)) (pv 1)) (pa_cons (pe_un un_neg (pe_op op_fdivW (pe_op op_mulB (pe_un un_neg (pv 0)) (pv 5)) (pv 1))) pa_nil)) (by rfl))
      (pss_cons (ps_if (pt_cmpR op_gt (pe_op op_mulB (pv 6) (pe_ix ix_tup (pv 3) pe_int (fun _ _ => rfl))) (pe_op op_mulB (pe_ix ix_tup (pv 3) pe_int (fun _ _ => rfl)) (pv 5)) (nomark _)) (pss_one (ps_set (i := 3) sc_law_tried.nd rfl (.inl rfl) (pe_tup (pa_cons (pv 6) (pa_cons (pv 5) pa_nil))))) pss_nil)
      (pss_one (ps_if (pt_cmpR op_lt (pe_op op_mulB (pv 7) (pe_ix ix_tup (pv 4) pe_int (fun _ _ => rfl))) (pe_op op_mulB (pe_ix ix_tup (pv 4) pe_int (fun _ _ => rfl)) (pv 5)) (nomark _)) (pss_one (ps_set (i := 4) sc_law_tried.nd rfl (.inl rfl) (pe_tup (pa_cons (pv 7) (pa_cons (pv 5) pa_nil))))) pss_nil)))))
      (pss_one (ps_ret (pe_tup (pa_cons (pe_call F_law_lowest (hr.mono (by first | decide | omega)) (by rfl) h_law_lowest.gl h_law_lowest.fn.kp h_law_lowest.bd .nil pass0 (pa_cons (pe_ix ix_tup (pv 3) pe_int (fun _ _ => rfl)) (pa_cons (pe_ix ix_tup (pv 3) pe_int (fun _ _ => rfl)) pa_nil))) (pa_cons (pe_call F_law_lowest (hr.mono (by first | decide | omega)) (by rfl) h_law_lowest.gl h_law_lowest.fn.kp h_law_lowest.bd .nil pass0 (pa_cons (pe_ix ix_tup (pv 4) pe_int (fun _ _ => rfl)) (pa_cons (pe_ix ix_tup (pv 4) pe_int (fun _ _ => rfl)) pa_nil))) pa_nil))))))), ?_⟩
  with_reducible apply GB.pz_st (m' := 8)
  · exact rfl
  walk_at "st"
  haveI : BtC a 599 := ⟨ba⟩
  haveI : BtC b 599 := ⟨bb⟩
  haveI : BtC M 61 := ⟨Bt.small (by omega) (by omega)⟩
  walk_at "p"
  have eN : (M + 1 - 2).toNat = (M - 1).toNat := by omega
  rw [eN]
  refine forR (Inv (fun (i : Nat) ((x, y, u, v) : Int × Int × Int × Int) => (cnt, [dI a, dI b, dI M, some (.d (pr x y)), some (.d (pr u v)), none, none, none])) fun i (x, y, u, v) => LowS a b (i + 1) x y ∧ HighS a b (i + 1) u v ∧ Bt 670 x ∧ Bt 670 u)
    (lpI (a / b, 1, -(-a / b), 1) (Nat.le_refl _) (by walk_at "fg") ⟨LowS.one b0, HighS.one b0, BtC.get (by rfl), BtC.get (by rfl)⟩) (fun i n' ρ hi hI => ?_) (fun n' ρ hI => ?_)
  · obtain ⟨⟨x, y, u, v⟩, e, hl, hh, bx, bu⟩ := hI
    injection e with e1 e2
    subst e1 e2
    have i30 : i < 29 := by omega
    have eq : (2 : Int) + (i : Int) * 1 = (i : Int) + 1 + 1 := by omega
    rw [eq]
    have y0 := hl.y0
    have yn := hl.yn
    have v0 := hh.y0
    have vn := hh.yn
    haveI : BtC x 669 := ⟨bx⟩
    haveI : BtC u 669 := ⟨bu⟩
    haveI : BtC y 61 := ⟨Bt.small (by omega) (by omega)⟩
    haveI : BtC v 61 := ⟨Bt.small (by omega) (by omega)⟩
    haveI : BtC ((i : Int) + 1 + 1) 61 := ⟨Bt.small (by omega) (by omega)⟩
    have nl := hl.next b0 (by omega)
    have nh := hh.next b0 (by omega)
    have bp : Bt 670 (a * ((i : Int) + 1 + 1) / b) := BtC.get (by rfl)
    have bq : Bt 670 (-(-a * ((i : Int) + 1 + 1) / b)) := BtC.get (by rfl)
    walk_at "p"
    walk_at "p2"
    · rename_i c1
      walk_at "p"
      walk_at "p2"
      · rename_i c2
        walk_at "p"
        exact lpI (_, _, _, _) (Nat.le_refl _) (by walk_at "fg") ⟨nl.1 c1, nh.1 c2, bp, bq⟩
      · rename_i c2
        walk_at "p"
        exact lpI (_, _, _, _) (Nat.le_refl _) (by walk_at "fg") ⟨nl.1 c1, nh.2 c2, bp, bu⟩
    · rename_i c1
      walk_at "p"
      walk_at "p2"
      · rename_i c2
        walk_at "p"
        exact lpI (_, _, _, _) (Nat.le_refl _) (by walk_at "fg") ⟨nl.2 c1, nh.1 c2, bx, bq⟩
      · rename_i c2
        walk_at "p"
        exact lpI (_, _, _, _) (Nat.le_refl _) (by walk_at "fg") ⟨nl.2 c1, nh.2 c2, bx, bu⟩
  · obtain ⟨⟨x, y, u, v⟩, e, hl, hh, bx, bu⟩ := hI
    injection e with e1 e2
    subst e1 e2
    have eM : (((M - 1).toNat : Nat) : Int) + 1 = M := by omega
    rw [eM] at hl hh
    have y0 := hl.y0
    have yn := hl.yn
    have v0 := hh.y0
    have vn := hh.yn
    have tl := hl.told b0 ht
    have th := hh.told b0 ht
    walk_at "p"
    refine ⟨rfl, x, y, rfl, y0, bx.mono (by decide), sb (by omega) (by omega), ?_⟩
    rw [tl.1, tl.2]
    walk_at "p"
    refine ⟨rfl, u, v, rfl, v0, bu.mono (by decide), sb (by omega) (by omega), ?_⟩
    rw [th.1, th.2]
    walk_at "p"
    exact done
def SIsPair : PSp := fun m ss Φ => ∃ d : PyData, ss = [.d d] ∧ ∀ c : Bool, (c = true ↔ ∃ x y : Int, d = pr x y ∧ 0 < y) → Φ m (.d (.bool c))
theorem ok_law_is_pair {f_ f0 : Addr} {fd_ g0 : FuncData} (h : Has K mg "_law_is_pair" s_law_is_pair ["value"] f_ fd_) (z_isinstance : mg "isinstance" = none) (z_tuple : mg "tuple" = none) (z_len : mg "len" = none) (h_law_is_number : Has K mg "_law_is_number" s_law_is_number ["value"] f0 g0) (F_law_is_number : FnOk P w K mg base CX0 1 f0 g0 ["value"] (spU K SIsNum)) : FnOk P w K mg base CX0 2 f_ fd_ ["value"] (spU K SIsPair) := by
  refine fnU h sc_law_is_pair SIsPair (fun n ss Φ h => ?_) (fun cdv A outer s H E hr F0 m0 cnt ss Φ hs => ?_)
  · obtain ⟨_, rfl, _⟩ := h
    rfl
  obtain ⟨d, rfl, done⟩ := hs
  refine ⟨_, (pss_cons (ps_if (PW.pt (pw_or (pt_not (pt_val (pe_callB call_isi (by rfl) z_isinstance (by decide +kernel) (pa_cons (pv 0) (pa_cons (pe_bltn (v := .ty "tuple") (u := .type "tuple") (by rfl) z_tuple (by decide +kernel) rfl) pa_nil))))) (pw_or1 (pt_cmpR op_ne (pe_callB call_lenB (by rfl) z_len (by decide +kernel) (pa_cons (pv 0) pa_nil)) pe_int (nomark _))))) (pss_one (ps_ret pe_bl)) pss_nil)
      (pss_one (ps_ret (pe_and (pe_call F_law_is_number (hr.mono (by first | decide | omega)) (by rfl) h_law_is_number.gl h_law_is_number.fn.kp h_law_is_number.bd .nil pass0 (pa_cons (pe_ix ix_tup (pv 0) pe_int (fun _ _ => rfl)) pa_nil)) (pe_and (pe_call F_law_is_number (hr.mono (by first | decide | omega)) (by rfl) h_law_is_number.gl h_law_is_number.fn.kp h_law_is_number.bd .nil pass0 (pa_cons (pe_ix ix_tup (pv 0) pe_int (fun _ _ => rfl)) pa_nil)) (pe_one (pe_cmpR op_gt (pe_ix ix_tup (pv 0) pe_int (fun _ _ => rfl)) pe_int (nomark _)))))))), ?_⟩
  with_reducible apply GB.pz_st (m' := 1)
  · exact rfl
  walk_at "st"
  have no : (∀ x y : Int, d = pr x y → ¬ 0 < y) → Φ cnt (.d (.bool false)) := fun z => done _ ⟨fun y => (by cases y), fun ⟨x, y, e, h⟩ => absurd h (z x y e)⟩
  walk_at "p"
  walk_at "p2"
  rotate_left
  · rename_i h1
    walk_at "p"
    exact no fun x y e => absurd e (tup_not h1 _)
  rename_i h1
  obtain ⟨ds, rfl⟩ := tup_of h1
  walk_at "p"
  walk_at "p2"
  rotate_left
  · rename_i hl
    walk_at "p"
    exact no fun x y e => by cases e; exact absurd rfl hl
  rename_i hl
  match ds, hl with
  | [x, y], _ =>
    walk_at "p"
    refine ⟨rfl, x, rfl, ?_⟩
    walk_at "p"
    walk_at "p2"
    · rename_i hx
      obtain ⟨i, rfl⟩ := num_of hx
      walk_at "p"
      refine ⟨rfl, y, rfl, ?_⟩
      walk_at "p"
      walk_at "p2"
      · rename_i hy
        obtain ⟨j, rfl⟩ := num_of hy
        walk_at "p"
        refine done _ ⟨fun z => ⟨i, j, rfl, of_decide_eq_true z⟩, fun ⟨x, y, e, h⟩ => ?_⟩
        cases e
        exact decide_eq_true h
      · rename_i hy
        walk_at "p"
        exact no fun x y e => by cases e; exact absurd rfl (num_not hy y)
    · rename_i hx
      walk_at "p"
      exact no fun x y e => by cases e; exact absurd rfl (num_not hx x)
  | [], hl => exact absurd hl (by decide)
  | [_], hl => exact absurd hl (by simp)
  | _ :: _ :: _ :: _, hl => exact absurd hl (by simp only [List.length_cons]; omega)
end
end L16
namespace L16
open PySem PySem.Spec PyProof.Rows L2 GB RZ M16
section
variable {P : Program} {w : World} {K : PySem.W.Frag} {mg : Str → Option Value} {base : Heap}
/-- numbers in two pairs are not too great -/
def Lim (d : PyData) : Prop := ∀ x y z w : Int, d = tt x y z w → Bt 1000 x ∧ Bt 1000 y ∧ Bt 1000 z ∧ Bt 1000 w
def SIsRight : PSp := fun m ss Φ => ∃ (a b M : Int) (d : PyData), ss = [.d (.int a), .d (.int b), .d (.int M), .d d] ∧ 0 < b ∧ 1 ≤ M ∧ Bt 600 a ∧ Bt 600 b ∧ Bt 200 M ∧ Lim d ∧ ∀ c : Bool, (c = true ↔ ∃ p q r s, d = tt p q r s ∧ RightP a b M p q r s) → Φ m (.d (.bool c))
theorem ok_law_is_right {f_ f0 f1 : Addr} {fd_ g0 g1 : FuncData} (h : Has K mg "_law_is_right" s_law_is_right ["a", "b", "most", "value"] f_ fd_) (z_isinstance : mg "isinstance" = none) (z_tuple : mg "tuple" = none) (z_len : mg "len" = none) (h_law_is_pair : Has K mg "_law_is_pair" s_law_is_pair ["value"] f0 g0) (F_law_is_pair : FnOk P w K mg base CX0 2 f0 g0 ["value"] (spU K SIsPair)) (h_law_lowest : Has K mg "_law_lowest" s_law_lowest ["p", "q"] f1 g1) (F_law_lowest : FnOk P w K mg base CX0 2 f1 g1 ["p", "q"] (spU K SLowest)) : FnOk P w K mg base CX0 3 f_ fd_ ["a", "b", "most", "value"] (spU K SIsRight) := by
  refine fnU h sc_law_is_right SIsRight (fun n ss Φ h => ?_) (fun cdv A outer s H E hr F0 m0 cnt ss Φ hs => ?_)
  · obtain ⟨_, _, _, _, rfl, _⟩ := h
    rfl
  obtain ⟨a, b, M, d, rfl, b0, M0, ba, bb, bM, lim, done⟩ := hs
  refine ⟨_, (pss_cons (ps_if (PW.pt (pw_or (pt_not (pt_val (pe_callB call_isi (by rfl) z_isinstance (by decide +kernel) (pa_cons (pv 3) (pa_cons (pe_bltn (v := .ty "tuple") (u := .type "tuple") (by rfl) z_tuple (by decide +kernel) rfl) pa_nil))))) (pw_or (pt_cmpR op_ne (pe_callB call_lenB (by rfl) z_len (by decide +kernel) (pa_cons (pv 3) pa_nil)) pe_int (nomark _)) (pw_or (pt_not (pt_val (pe_call F_law_is_pair (hr.mono (by first | decide | omega)) (by rfl) h_law_is_pair.gl h_law_is_pair.fn.kp h_law_is_pair.bd .nil pass0 (pa_cons (pe_ix ix_tup (pv 3) pe_int (fun _ _ => rfl)) pa_nil)))) (pw_or1 (pt_not (pt_val (pe_call F_law_is_pair (hr.mono (by first | decide | omega)) (by rfl) h_law_is_pair.gl h_law_is_pair.fn.kp h_law_is_pair.bd .nil pass0 (pa_cons (pe_ix ix_tup (pv 3) pe_int (fun _ _ => rfl)) pa_nil))))))))) (pss_one (ps_ret pe_bl)) pss_nil)
      (pss_cons (ps_asg (pv 3) (pg_tup rfl (pgs_cons (pg_tup rfl (pgs_cons (pg_name (i := 4) sc_law_is_right.nd rfl (Or.inl rfl)) (pgs_cons (pg_name (i := 5) sc_law_is_right.nd rfl (Or.inl rfl)) pgs_nil))) (pgs_cons (pg_tup rfl (pgs_cons (pg_name (i := 6) sc_law_is_right.nd rfl (Or.inl rfl)) (pgs_cons (pg_name (i := 7) sc_law_is_right.nd rfl (Or.inl rfl)) pgs_nil))) pgs_nil))))
      (pss_cons (ps_if (PW.pt (pw_or (pt_cmpR op_gt (pv 5) (pv 2) (nomark _)) (pw_or1 (pt_cmpR op_gt (pv 7) (pv 2) (nomark _))))) (pss_one (ps_ret pe_bl)) pss_nil)
      (pss_cons (ps_if (pt_cmpR (op_eqD hr.units) (pe_ix ix_tup (pv 3) pe_int (fun _ _ => rfl)) (pe_ix ix_tup (pv 3) pe_int (fun _ _ => rfl)) (nomark _)) (pss_one (ps_ret (pe_cmpR (op_eqD hr.units) (pe_ix ix_tup (pv 3) pe_int (fun _ _ => rfl)) (pe_call F_law_lowest (hr.mono (by first | decide | omega)) (by rfl) h_law_lowest.gl h_law_lowest.fn.kp h_law_lowest.bd .nil pass0 (pa_cons (pv 0) (pa_cons (pv 1) pa_nil))) (nomark _)))) pss_nil)
      (pss_one (ps_ret (pe_and (pe_cmpR op_lt (pe_op op_mulB (pv 4) (pv 1)) (pe_op op_mulB (pv 0) (pv 5)) (nomark _)) (pe_and (pe_cmpR op_lt (pe_op op_mulB (pv 0) (pv 7)) (pe_op op_mulB (pv 6) (pv 1)) (nomark _)) (pe_and (pe_cmpR op_eq (pe_op op_sub (pe_op op_mulB (pv 6) (pv 5)) (pe_op op_mulB (pv 4) (pv 7))) pe_int (nomark _)) (pe_one (pe_cmpR op_gt (pe_op op_add (pv 5) (pv 7)) (pv 2) (nomark _)))))))))))), ?_⟩
  with_reducible apply GB.pz_st (m' := 8)
  · exact rfl
  walk_at "st"
  have no : (∀ p q r s : Int, d = tt p q r s → ¬ RightP a b M p q r s) → Φ cnt (.d (.bool false)) := fun z => done _ ⟨fun y => (by cases y), fun ⟨p, q, r, s, e, h⟩ => absurd h (z p q r s e)⟩
  walk_at "p"
  walk_at "p2"
  rotate_left
  · rename_i h1
    walk_at "p"
    exact no fun p q r s e => absurd e (tup_not h1 _)
  rename_i h1
  obtain ⟨ds, rfl⟩ := tup_of h1
  walk_at "p"
  walk_at "p2"
  rotate_left
  · rename_i hl
    walk_at "p"
    exact no fun p q r s e => by cases e; exact absurd rfl hl
  rename_i hl
  match ds, hl with
  | [], hl => exact absurd hl (by decide)
  | [_], hl => exact absurd hl (by simp)
  | _ :: _ :: _ :: _, hl => exact absurd hl (by simp only [List.length_cons]; omega)
  | [u, v], _ =>
    walk_at "p"
    refine ⟨rfl, u, rfl, fun c1 hc1 => ?_⟩
    walk_at "p"
    walk_at "p2"
    rotate_left
    · rename_i h2
      subst h2
      walk_at "p"
      refine no fun p q r s e hr => ?_
      cases e
      exact Bool.noConfusion (hc1.mpr ⟨p, q, rfl, hr.1⟩)
    rename_i h2
    obtain ⟨p, q, rfl, q0⟩ := hc1.mp h2
    walk_at "p"
    refine ⟨rfl, v, rfl, fun c2 hc2 => ?_⟩
    walk_at "p"
    walk_at "p2"
    rotate_left
    · rename_i h3
      subst h3
      walk_at "p"
      refine no fun p q r s e hr => ?_
      cases e
      exact Bool.noConfusion (hc2.mpr ⟨r, s, rfl, hr.2.1⟩)
    rename_i h3
    obtain ⟨r, s, rfl, s0⟩ := hc2.mp h3
    obtain ⟨bp, bq, br, bs⟩ := lim p q r s rfl
    haveI : BtC a 599 := ⟨ba⟩
    haveI : BtC b 599 := ⟨bb⟩
    haveI : BtC p 999 := ⟨bp⟩
    haveI : BtC q 999 := ⟨bq⟩
    haveI : BtC r 999 := ⟨br⟩
    haveI : BtC s 999 := ⟨bs⟩
    have is : ∀ c : Bool, (c = true ↔ RightP a b M p q r s) → Φ cnt (.d (.bool c)) := fun c hc => done c ⟨fun z => ⟨p, q, r, s, rfl, hc.mp z⟩, fun ⟨p', q', r', s', e, hr⟩ => by cases e; exact hc.mpr hr⟩
    have isn : ¬ RightP a b M p q r s → Φ cnt (.d (.bool false)) := fun z => is false ⟨fun y => (by cases y), fun y => absurd y z⟩
    walk_at "p"
    walk_at "p2"
    · rename_i z
      walk_at "p"
      exact isn fun ⟨_, _, h, _⟩ => by omega
    rename_i hq
    walk_at "p"
    walk_at "p2"
    · rename_i z
      walk_at "p"
      exact isn fun ⟨_, _, _, h, _⟩ => by omega
    rename_i hs
    walk_at "p"
    refine po_eqD rfl (shaped_pr _ _) (shaped_pr _ _) ?_
    rw [eqv_pr]
    walk_at "p"
    walk_at "p2"
    · rename_i he
      walk_at "p"
      refine ⟨rfl, a, b, rfl, b0, ba.mono (by decide), bb.mono (by decide), ?_⟩
      walk_at "p"
      refine po_eqD rfl (shaped_pr _ _) (shaped_pr _ _) ?_
      rw [eqv_pr]
      walk_at "p"
      refine is _ ⟨fun z => ?_, fun ⟨_, _, _, _, h⟩ => ?_⟩
      · have z := of_decide_eq_true z
        exact ⟨q0, s0, by omega, by omega, .inl ⟨he.1, he.2, z.1, z.2⟩⟩
      · rcases h with h | h
        · exact decide_eq_true ⟨h.2.2.1, h.2.2.2⟩
        · exact absurd he h.1
    · rename_i hne
      have isn' : ¬ (p * b < a * q ∧ a * s < r * b ∧ r * q - p * s = 1 ∧ q + s > M) → Φ cnt (.d (.bool false)) := fun h => isn fun ⟨_, _, _, _, z⟩ => z.elim (fun z => hne ⟨z.1, z.2.1⟩) fun z => h z.2
      walk_at "p"
      walk_at "p2"
      rotate_left
      · rename_i z
        walk_at "p"
        exact isn' fun h => z h.1
      rename_i z1
      walk_at "p"
      walk_at "p2"
      rotate_left
      · rename_i z
        walk_at "p"
        exact isn' fun h => z h.2.1
      rename_i z2
      walk_at "p"
      walk_at "p2"
      rotate_left
      · rename_i z
        walk_at "p"
        exact isn' fun h => z h.2.2.1
      rename_i z3
      walk_at "p"
      refine is _ ⟨fun z => ?_, fun ⟨_, _, _, _, h⟩ => ?_⟩
      · exact ⟨q0, s0, by omega, by omega, .inr ⟨hne, z1, z2, z3, of_decide_eq_true z⟩⟩
      · exact decide_eq_true (h.elim (fun z => absurd ⟨z.1, z.2.1⟩ hne) fun z => z.2.2.2.2)
def SLNear : PSp := fun m ss Φ => ∃ a b p q r s : Int, ss = [.d (.int a), .d (.int b), .d (pr p q), .d (pr r s)] ∧ Bt 700 a ∧ Bt 700 b ∧ Bt 902 p ∧ Bt 200 q ∧ Bt 902 r ∧ Bt 200 s ∧ Φ m (.d (nearI a b p q r s))
theorem ok_law_nearest {f_  : Addr} {fd_  : FuncData} (h : Has K mg "_law_nearest" s_law_nearest ["a", "b", "low", "high"] f_ fd_)  : FnOk P w K mg base CX0 1 f_ fd_ ["a", "b", "low", "high"] (spU K SLNear) := by
  refine fnU h sc_law_nearest SLNear (fun n ss Φ h => ?_) (fun cdv A outer s H E hr F0 m0 cnt ss Φ hs => ?_)
  · obtain ⟨_, _, _, _, _, _, rfl, _⟩ := h
    rfl
  obtain ⟨a, b, p, q, r, s, rfl, ba, bb, bp, bq, br, bs, done⟩ := hs
  refine ⟨_, (pss_cons (ps_asg (pe_tup (pa_cons (pv 2) (pa_cons (pv 3) pa_nil))) (pg_tup rfl (pgs_cons (pg_tup rfl (pgs_cons (pg_name (i := 4) sc_law_nearest.nd rfl (Or.inl rfl)) (pgs_cons (pg_name (i := 5) sc_law_nearest.nd rfl (Or.inl rfl)) pgs_nil))) (pgs_cons (pg_tup rfl (pgs_cons (pg_name (i := 6) sc_law_nearest.nd rfl (Or.inl rfl)) (pgs_cons (pg_name (i := 7) sc_law_nearest.nd rfl (Or.inl rfl)) pgs_nil))) pgs_nil))))
      (pss_cons (ps_par (i := 8) (j := 9) (by rfl) sc_law_nearest.nd rfl rfl (by decide) rfl rfl (pa_cons (pe_op op_mulB (pe_op op_sub (pe_op op_mulB (pv 0) (pv 5)) (pe_op op_mulB (pv 4) (pv 1))) (pv 7)) (pa_cons (pe_op op_mulB (pe_op op_sub (pe_op op_mulB (pv 6) (pv 1)) (pe_op op_mulB (pv 0) (pv 7))) (pv 5)) pa_nil)) (by rfl))
      (pss_cons (ps_if (pt_cmpR op_ne (pv 8) (pv 9) (nomark _)) (pss_one (ps_ret (pe_ifExp (pt_cmpR op_lt (pv 8) (pv 9) (nomark _)) (pv 2) (pv 3)))) pss_nil)
      (pss_one (ps_ret (pe_ifExp (pt_cmpR op_lt (pv 7) (pv 5) (nomark _)) (pv 3) (pv 2))))))), ?_⟩
  with_reducible apply GB.pz_st (m' := 10)
  · exact rfl
  walk_at "st"
  haveI : BtC a 699 := ⟨ba⟩
  haveI : BtC b 699 := ⟨bb⟩
  haveI : BtC p 901 := ⟨bp⟩
  haveI : BtC q 199 := ⟨bq⟩
  haveI : BtC r 901 := ⟨br⟩
  haveI : BtC s 199 := ⟨bs⟩
  unfold nearI at done
  have e1 : b * p = p * b := Int.mul_comm _ _
  have e2 : b * r = r * b := Int.mul_comm _ _
  rw [e1, e2] at done
  walk_at "p"
  walk_at "p2"
  · rename_i h1
    walk_at "p"
    walk_at "p2"
    · rename_i h2
      rw [if_neg (by omega)] at done
      walk_at "p"
      exact done
    · rename_i h2
      rw [if_pos (by omega)] at done
      walk_at "p"
      exact done
  · rename_i h1
    walk_at "p"
    walk_at "p2"
    · rename_i h2
      rw [if_pos (by omega)] at done
      walk_at "p"
      exact done
    · rename_i h2
      rw [if_neg (by omega)] at done
      walk_at "p"
      exact done
def SBent : PSp := fun m ss Φ => ∃ p q r s : Int, ss = [.mem, .d (tt p q r s)] ∧ m ≤ 100000000000 ∧ Bt 902 p ∧ Bt 200 q ∧ Bt 902 r ∧ Bt 200 s ∧ ∀ d, Lim d → Φ (m + 10) (.d d)
theorem lim_tt {p q r s : Int} (h1 : Bt 1000 p) (h2 : Bt 1000 q) (h3 : Bt 1000 r) (h4 : Bt 1000 s) : Lim (tt p q r s) := fun x y z w e => by
  cases e
  exact ⟨h1, h2, h3, h4⟩
theorem ok_law_bent {f_ f0 f1 : Addr} {fd_ g0 g1 : FuncData} (h : Has K mg "_law_bent" s_law_bent ["m", "value"] f_ fd_) (h_law_draw : Has K mg "_law_draw" s_law_draw ["m", "bound"] f0 g0) (F_law_draw : FnOk P w K mg base CX0 1 f0 g0 ["m", "bound"] (spU K SDraw)) (h_law_of : Has K mg "_law_of" s_law_of ["m", "some"] f1 g1) (F_law_of : FnOk P w K mg base CX0 2 f1 g1 ["m", "some"] (spU K SOf)) : FnOk P w K mg base CX0 3 f_ fd_ ["m", "value"] (spU K SBent) := by
  refine fnU h sc_law_bent SBent (fun n ss Φ h => ?_) (fun cdv A outer s H E hr F0 m0 cnt ss Φ hs => ?_)
  · obtain ⟨_, _, _, _, rfl, _⟩ := h
    rfl
  obtain ⟨p, q, r, s, rfl, hm, bp, bq, br, bs, done⟩ := hs
  refine ⟨_, (pss_cons (ps_asg (pv 1) (pg_tup rfl (pgs_cons (pg_tup rfl (pgs_cons (pg_name (i := 2) sc_law_bent.nd rfl (Or.inl rfl)) (pgs_cons (pg_name (i := 3) sc_law_bent.nd rfl (Or.inl rfl)) pgs_nil))) (pgs_cons (pg_tup rfl (pgs_cons (pg_name (i := 4) sc_law_bent.nd rfl (Or.inl rfl)) (pgs_cons (pg_name (i := 5) sc_law_bent.nd rfl (Or.inl rfl)) pgs_nil))) pgs_nil))))
      (pss_cons (ps_set (i := 6) sc_law_bent.nd rfl (.inl rfl) (pe_call F_law_draw (hr.mono (by first | decide | omega)) (by rfl) h_law_draw.gl h_law_draw.fn.kp h_law_draw.bd .nil pass0 (pa_cons (pv 0) (pa_cons pe_int pa_nil))))
      (pss_cons (ps_if (pt_cmpR op_eq (pv 6) pe_int (nomark _)) (pss_one (ps_ret (pe_call F_law_of (hr.mono (by first | decide | omega)) (by rfl) h_law_of.gl h_law_of.fn.kp h_law_of.bd .nil pass0 (pa_cons (pv 0) (pa_cons (pe_lst (pa_cons pe_non (pa_cons (pe_lst (pa_cons (pe_ix ix_tup (pv 1) pe_int (fun _ _ => rfl)) (pa_cons (pe_ix ix_tup (pv 1) pe_int (fun _ _ => rfl)) pa_nil))) (pa_cons (pe_ix ix_tup (pv 1) pe_int (fun _ _ => rfl)) (pa_cons (pe_tup (pa_cons (pe_ix ix_tup (pv 1) pe_int (fun _ _ => rfl)) (pa_cons (pe_ix ix_tup (pv 1) pe_int (fun _ _ => rfl)) pa_nil))) (pa_cons (pe_tup (pa_cons (pe_ix ix_tup (pv 1) pe_int (fun _ _ => rfl)) (pa_cons (pe_ix ix_tup (pv 1) pe_int (fun _ _ => rfl)) pa_nil))) (pa_cons (pe_tup pa_nil) pa_nil))))))) pa_nil))))) pss_nil)
      (pss_cons (ps_if (pt_cmpR op_eq (pv 6) pe_int (nomark _)) (pss_one (ps_ret (pe_tup (pa_cons (pe_tup (pa_cons (pe_op op_mulB pe_int (pv 2)) (pa_cons (pe_op op_mulB pe_int (pv 3)) pa_nil))) (pa_cons (pe_tup (pa_cons (pv 4) (pa_cons (pv 5) pa_nil))) pa_nil))))) pss_nil)
      (pss_cons (ps_if (pt_cmpR op_eq (pv 6) pe_int (nomark _)) (pss_one (ps_ret (pe_call F_law_of (hr.mono (by first | decide | omega)) (by rfl) h_law_of.gl h_law_of.fn.kp h_law_of.bd .nil pass0 (pa_cons (pv 0) (pa_cons (pe_lst (pa_cons (pe_tup (pa_cons (pe_tup (pa_cons (pv 2) (pa_cons (pv 3) pa_nil))) (pa_cons (pe_tup (pa_cons (pe_op op_add (pv 2) (pv 4)) (pa_cons (pe_op op_add (pv 3) (pv 5)) pa_nil))) pa_nil))) (pa_cons (pe_tup (pa_cons (pe_tup (pa_cons (pe_op op_add (pv 2) (pv 4)) (pa_cons (pe_op op_add (pv 3) (pv 5)) pa_nil))) (pa_cons (pe_tup (pa_cons (pv 4) (pa_cons (pv 5) pa_nil))) pa_nil))) (pa_cons (pe_tup (pa_cons (pe_tup (pa_cons (pv 4) (pa_cons (pv 5) pa_nil))) (pa_cons (pe_tup (pa_cons (pv 2) (pa_cons (pv 3) pa_nil))) pa_nil))) (pa_cons (pe_tup (pa_cons (pe_tup (pa_cons (pv 2) (pa_cons (pv 3) pa_nil))) (pa_cons (pe_tup (pa_cons (pv 4) (pa_cons (pv 5) (pa_cons pe_int pa_nil)))) pa_nil))) pa_nil))))) pa_nil))))) pss_nil)
      (pss_cons (ps_if (pt_cmpR op_in_seq (pv 6) (pe_lst (pa_cons pe_int (pa_cons pe_int pa_nil))) rfl) (pss_cons (ps_if (pt_cmpR op_gt (pv 3) (pv 5) (nomark _)) (pss_one (ps_ret (pe_tup (pa_cons (pe_tup (pa_cons (pe_op op_sub (pv 2) (pv 4)) (pa_cons (pe_op op_sub (pv 3) (pv 5)) pa_nil))) (pa_cons (pe_tup (pa_cons (pv 4) (pa_cons (pv 5) pa_nil))) pa_nil))))) pss_nil)
      (pss_one (ps_ret (pe_tup (pa_cons (pe_tup (pa_cons (pv 2) (pa_cons (pv 3) pa_nil))) (pa_cons (pe_tup (pa_cons (pe_op op_sub (pv 4) (pv 2)) (pa_cons (pe_op op_sub (pv 5) (pv 3)) pa_nil))) pa_nil)))))) pss_nil)
      (pss_cons (ps_set (i := 7) sc_law_bent.nd rfl (.inl rfl) (pe_call F_law_of (hr.mono (by first | decide | omega)) (by rfl) h_law_of.gl h_law_of.fn.kp h_law_of.bd .nil pass0 (pa_cons (pv 0) (pa_cons (pe_lst (pa_cons pe_bl (pa_cons pe_non (pa_cons pe_str (pa_cons (pe_tup (pa_cons pe_int pa_nil)) (pa_cons pe_int (pa_cons (pe_un un_neg pe_int) (pa_cons pe_int (pa_cons (pe_op op_add (pv 2) pe_int) (pa_cons (pe_op op_sub (pv 5) pe_int) (pa_cons (pe_op op_add (pv 3) pe_int) pa_nil))))))))))) pa_nil))))
      (pss_one (ps_ret (pe_call F_law_of (hr.mono (by first | decide | omega)) (by rfl) h_law_of.gl h_law_of.fn.kp h_law_of.bd .nil pass0 (pa_cons (pv 0) (pa_cons (pe_lst (pa_cons (pe_tup (pa_cons (pe_tup (pa_cons (pv 7) (pa_cons (pv 3) pa_nil))) (pa_cons (pe_tup (pa_cons (pv 4) (pa_cons (pv 5) pa_nil))) pa_nil))) (pa_cons (pe_tup (pa_cons (pe_tup (pa_cons (pv 2) (pa_cons (pv 7) pa_nil))) (pa_cons (pe_tup (pa_cons (pv 4) (pa_cons (pv 5) pa_nil))) pa_nil))) (pa_cons (pe_tup (pa_cons (pe_tup (pa_cons (pv 2) (pa_cons (pv 3) pa_nil))) (pa_cons (pe_tup (pa_cons (pv 7) (pa_cons (pv 5) pa_nil))) pa_nil))) (pa_cons (pe_tup (pa_cons (pe_tup (pa_cons (pv 2) (pa_cons (pv 3) pa_nil))) (pa_cons (pe_tup (pa_cons (pv 4) (pa_cons (pv 7) pa_nil))) pa_nil))) pa_nil))))) pa_nil)))))))))))), ?_⟩
  with_reducible apply GB.pz_st (m' := 8)
  · exact rfl
  walk_at "st"
  have bp' : Bt 1000 p := bp.mono (by decide)
  have bq' : Bt 1000 q := bq.mono (by decide)
  have br' : Bt 1000 r := br.mono (by decide)
  have bs' : Bt 1000 s := bs.mono (by decide)
  haveI : BtC p 901 := ⟨bp⟩
  haveI : BtC q 199 := ⟨bq⟩
  haveI : BtC r 901 := ⟨br⟩
  haveI : BtC s 199 := ⟨bs⟩
  have no : ∀ {d : PyData}, (∀ x y z w, d ≠ tt x y z w) → Lim d := fun h x y z w e => absurd e (h x y z w)
  walk_at "p"
  refine draw_t (by omega) (by decide) (by decide) fun w0 w00 w01 => ?_
  walk_at "p"
  walk_at "p2"
  · refine pz_more (m := cnt + 9) (by omega) ?_
    walk_at "p"
    refine of_s Lim (by omega) (by simp) (Nat.le_of_ble_eq_true rfl) ?_ fun d hd => ?_
    · refine .cons (no fun _ _ _ _ e => by cases e) (.cons (no fun _ _ _ _ e => by cases e) (.cons (no fun _ _ _ _ e => by cases e) (.cons (lim_tt br' bs' bp' bq') (.cons (lim_tt bp' bq' bp' bq') (.cons (no fun _ _ _ _ e => by cases e) .nil)))))
    · walk_at "p"
      exact done d hd
  walk_at "p"
  walk_at "p2"
  · refine pz_more (m := cnt + 10) (by omega) ?_
    walk_at "p"
    exact done _ (lim_tt (BtC.get (by rfl)) (BtC.get (by rfl)) br' bs')
  walk_at "p"
  walk_at "p2"
  · refine pz_more (m := cnt + 9) (by omega) ?_
    walk_at "p"
    refine of_s Lim (by omega) (by simp) (Nat.le_of_ble_eq_true rfl) ?_ fun d hd => ?_
    · refine .cons (lim_tt bp' bq' (BtC.get (by rfl)) (BtC.get (by rfl))) (.cons (lim_tt (BtC.get (by rfl)) (BtC.get (by rfl)) br' bs') (.cons (lim_tt br' bs' bp' bq') (.cons (no fun _ _ _ _ e => by cases e) .nil)))
    · walk_at "p"
      exact done d hd
  walk_at "p"
  refine po_inI (ns := [3, 4]) rfl rfl ?_
  walk_at "p"
  walk_at "p2"
  · walk_at "p"
    walk_at "p2"
    · refine pz_more (m := cnt + 10) (by omega) ?_
      walk_at "p"
      exact done _ (lim_tt (BtC.get (by rfl)) (BtC.get (by rfl)) br' bs')
    · refine pz_more (m := cnt + 10) (by omega) ?_
      walk_at "p"
      exact done _ (lim_tt bp' bq' (BtC.get (by rfl)) (BtC.get (by rfl)))
  · walk_at "p"
    have one : Bt 1000 1 := sb (by decide) (by decide)
    refine of_s (fun d => ∀ i : Int, d = .int i → Bt 1000 i) (by omega) (by simp) (Nat.le_of_ble_eq_true rfl) ?_ fun d hd => ?_
    · repeat' first | exact AllD.nil | refine AllD.cons (fun i e => ?_) ?_
      all_goals first | (cases e; done) | (cases e; first | exact BtC.get (by rfl) | exact sb (by decide) (by decide))
    · walk_at "p1"
      refine pz_more (m := cnt + 9) (by omega) ?_
      walk_at "p"
      refine of_s Lim (by omega) (by simp) (Nat.le_of_ble_eq_true rfl) ?_ fun e he => ?_
      · refine .cons (fun x y z w e => ?_) (.cons (fun x y z w e => ?_) (.cons (fun x y z w e => ?_) (.cons (fun x y z w e => ?_) .nil)))
        · cases e; exact ⟨hd _ rfl, bq', br', bs'⟩
        · cases e; exact ⟨bp', hd _ rfl, br', bs'⟩
        · cases e; exact ⟨bp', bq', hd _ rfl, bs'⟩
        · cases e; exact ⟨bp', bq', br', hd _ rfl⟩
      · walk_at "p"
        exact done e he
def SToldR : PSp := fun m ss Φ => ∃ a b M : Int, ss = [.mem, .d (.int a), .d (.int b), .d (.int M)] ∧ m ≤ 10000000000 ∧ 0 < b ∧ 1 ≤ M ∧ Bt 600 a ∧ Bt 600 b ∧ Bt 200 M ∧ Φ (m + 40) (.d (.bool true))
theorem fine_pr {p q : Int} (hp : Bt 902 p) (hq : Bt 200 q) : Fine 1000 1 5 (pr p q) := ((Fine.int (hp.mono (by decide)) (by decide)).two (Fine.int (hq.mono (by decide)) (by decide))).tuple.mono (by decide) (by decide)
theorem fine_tt {p q r s : Int} (bp : Bt 902 p) (bq : Bt 200 q) (br : Bt 902 r) (bs : Bt 200 s) : Fine 1000 2 20 (tt p q r s) := ((fine_pr bp bq).two (fine_pr br bs)).tuple.mono (by decide) (by decide)
theorem fine_near {a b p q r s : Int} (bp : Bt 902 p) (bq : Bt 200 q) (br : Bt 902 r) (bs : Bt 200 s) : Fine 1000 1 5 (nearI a b p q r s) := by
  unfold nearI
  split
  · exact fine_pr bp bq
  · exact fine_pr br bs
theorem ok_law_told_right {f_ f0 f1 f2 f3 f4 f5 f6 f7 : Addr} {fd_ g0 g1 g2 g3 g4 g5 g6 g7 : FuncData} (h : Has K mg "_law_told_right" s_law_told_right ["m", "a", "b", "most"] f_ fd_) (z_range : mg "range" = none) (h_neighbours : Has K mg "neighbours" s_neighbours ["a", "b", "most"] f0 g0) (F_neighbours : FnOk P w K mg base CX0 3 f0 g0 ["a", "b", "most"] (spU K SNb)) (h_law_like : Has K mg "_law_like" s_law_like ["got", "due"] f1 g1) (F_law_like : GOk P w K mg base CX0 1 f1 g1 ["got", "due"] (spU K SLike)) (h_law_bent : Has K mg "_law_bent" s_law_bent ["m", "value"] f2 g2) (F_law_bent : FnOk P w K mg base CX0 3 f2 g2 ["m", "value"] (spU K SBent)) (h_law_is_right : Has K mg "_law_is_right" s_law_is_right ["a", "b", "most", "value"] f3 g3) (F_law_is_right : FnOk P w K mg base CX0 3 f3 g3 ["a", "b", "most", "value"] (spU K SIsRight)) (h_law_tried : Has K mg "_law_tried" s_law_tried ["a", "b", "most"] f4 g4) (F_law_tried : FnOk P w K mg base CX0 3 f4 g4 ["a", "b", "most"] (spU K STried)) (h_nearest : Has K mg "nearest" s_nearest ["a", "b", "most"] f5 g5) (F_nearest : FnOk P w K mg base CX0 4 f5 g5 ["a", "b", "most"] (spU K SNear)) (h_is_neighbours : Has K mg "is_neighbours" s_is_neighbours ["a", "b", "most", "value"] f6 g6) (F_is_neighbours : FnOk P w K mg base CX0 6 f6 g6 ["a", "b", "most", "value"] (spU K SIsNb)) (h_law_nearest : Has K mg "_law_nearest" s_law_nearest ["a", "b", "low", "high"] f7 g7) (F_law_nearest : FnOk P w K mg base CX0 1 f7 g7 ["a", "b", "low", "high"] (spU K SLNear)) : GOk P w K mg base CX0 7 f_ fd_ ["m", "a", "b", "most"] (spU K SToldR) := by
  refine fnUG h sc_law_told_right SToldR (fun n ss Φ h => ?_) (fun cdv A outer s H E ng hr F0 m0 cnt ss Φ hs => ?_)
  · obtain ⟨_, _, _, rfl, _⟩ := h
    rfl
  obtain ⟨a, b, M, rfl, hm, b0, M0, ba, bb, bM, done⟩ := hs
  refine ⟨_, (pss_cons (ps_set (i := 4) sc_law_told_right.nd rfl (.inl rfl) (pe_call F_neighbours (hr.mono (by first | decide | omega)) (by rfl) h_neighbours.gl h_neighbours.fn.kp h_neighbours.bd .nil pass0 (pa_cons (pv 1) (pa_cons (pv 2) (pa_cons (pv 3) pa_nil)))))
      (pss_cons (ps_if (PW.pt (pw_or (pt_not (pt_val (pe_call F_law_is_right (hr.mono (by first | decide | omega)) (by rfl) h_law_is_right.gl h_law_is_right.fn.kp h_law_is_right.bd .nil pass0 (pa_cons (pv 1) (pa_cons (pv 2) (pa_cons (pv 3) (pa_cons (pv 4) pa_nil))))))) (pw_or1 (pt_not (pt_val (pe_callG F_law_like ng (hr.mono (by first | decide | omega)) (by rfl) h_law_like.gl h_law_like.fn.kp h_law_like.bd .nil pass0 (pa_cons (pe_call F_neighbours (hr.mono (by first | decide | omega)) (by rfl) h_neighbours.gl h_neighbours.fn.kp h_neighbours.bd .nil pass0 (pa_cons (pe_op op_mulB pe_int (pv 1)) (pa_cons (pe_op op_mulB pe_int (pv 2)) (pa_cons (pv 3) pa_nil)))) (pa_cons (pv 4) pa_nil)))))))) (pss_one (ps_ret pe_bl)) pss_nil)
      (pss_cons (ps_if (PW.pt (pw_and (pt_cmpR op_lt (pv 3) pe_int (nomark _)) (pw_and1 (pt_not (pt_val (pe_callG F_law_like ng (hr.mono (by first | decide | omega)) (by rfl) h_law_like.gl h_law_like.fn.kp h_law_like.bd .nil pass0 (pa_cons (pv 4) (pa_cons (pe_call F_law_tried (hr.mono (by first | decide | omega)) (by rfl) h_law_tried.gl h_law_tried.fn.kp h_law_tried.bd .nil pass0 (pa_cons (pv 1) (pa_cons (pv 2) (pa_cons (pv 3) pa_nil)))) pa_nil)))))))) (pss_one (ps_ret pe_bl)) pss_nil)
      (pss_cons (ps_if (pt_not (pt_val (pe_callG F_law_like ng (hr.mono (by first | decide | omega)) (by rfl) h_law_like.gl h_law_like.fn.kp h_law_like.bd .nil pass0 (pa_cons (pe_lst (pa_cons (pe_call F_nearest (hr.mono (by first | decide | omega)) (by rfl) h_nearest.gl h_nearest.fn.kp h_nearest.bd .nil pass0 (pa_cons (pv 1) (pa_cons (pv 2) (pa_cons (pv 3) pa_nil)))) (pa_cons (pe_call F_is_neighbours (hr.mono (by first | decide | omega)) (by rfl) h_is_neighbours.gl h_is_neighbours.fn.kp h_is_neighbours.bd .nil pass0 (pa_cons (pv 1) (pa_cons (pv 2) (pa_cons (pv 3) (pa_cons (pv 4) pa_nil))))) pa_nil))) (pa_cons (pe_lst (pa_cons (pe_call F_law_nearest (hr.mono (by first | decide | omega)) (by rfl) h_law_nearest.gl h_law_nearest.fn.kp h_law_nearest.bd .nil pass0 (pa_cons (pv 1) (pa_cons (pv 2) (pa_cons (pe_ix ix_tup (pv 4) pe_int (fun _ _ => rfl)) (pa_cons (pe_ix ix_tup (pv 4) pe_int (fun _ _ => rfl)) pa_nil))))) (pa_cons pe_bl pa_nil))) pa_nil))))) (pss_one (ps_ret pe_bl)) pss_nil)
      (pss_cons (ps_for PassesOwn.never rfl (pi_range1 rfl z_range (pa_cons pe_int pa_nil)) (pg_name (i := 5) sc_law_told_right.nd rfl (Or.inl rfl)) (pss_cons (ps_set (i := 6) sc_law_told_right.nd rfl (.inl rfl) (pe_call F_law_bent (hr.mono (by first | decide | omega)) (by rfl) h_law_bent.gl h_law_bent.fn.kp h_law_bent.bd .nil pass0 (pa_cons (pv 0) (pa_cons (pv 4) pa_nil))))
      (pss_one (ps_if (pt_not (pt_val (pe_callG F_law_like ng (hr.mono (by first | decide | omega)) (by rfl) h_law_like.gl h_law_like.fn.kp h_law_like.bd .nil pass0 (pa_cons (pe_call F_is_neighbours (hr.mono (by first | decide | omega)) (by rfl) h_is_neighbours.gl h_is_neighbours.fn.kp h_is_neighbours.bd .nil pass0 (pa_cons (pv 1) (pa_cons (pv 2) (pa_cons (pv 3) (pa_cons (pv 6) pa_nil))))) (pa_cons (pe_call F_law_is_right (hr.mono (by first | decide | omega)) (by rfl) h_law_is_right.gl h_law_is_right.fn.kp h_law_is_right.bd .nil pass0 (pa_cons (pv 1) (pa_cons (pv 2) (pa_cons (pv 3) (pa_cons (pv 6) pa_nil))))) pa_nil))))) (pss_one (ps_ret pe_bl)) pss_nil))))
      (pss_one (ps_ret pe_bl))))))), ?_⟩
  with_reducible apply GB.pz_st (m' := 7)
  · exact rfl
  walk_at "st"
  haveI : BtC a 599 := ⟨ba⟩
  haveI : BtC b 599 := ⟨bb⟩
  have ba' : Bt 700 a := ba.mono (by decide)
  have bb' : Bt 700 b := bb.mono (by decide)
  walk_at "p"
  refine ⟨rfl, a, b, M, rfl, b0, M0, ba', bb', bM, fun p q r s ht => ?_⟩
  obtain ⟨bp, bq, br, bs⟩ := told_bits b0 ht ba' bM
  have rp := ht.right b0
  have ftt := fine_tt bp bq br bs
  walk_at "p"
  refine ⟨rfl, a, b, M, tt p q r s, rfl, b0, M0, ba, bb, bM, lim_tt (bp.mono (by decide)) (bq.mono (by decide)) (br.mono (by decide)) (bs.mono (by decide)), fun c hc => ?_⟩
  have ec : c = true := hc.mpr ⟨p, q, r, s, rfl, rp⟩
  subst ec
  clear hc
  walk_at "p"
  refine ⟨rfl, 3 * a, 3 * b, M, rfl, by omega, M0, BtC.get (by rfl), BtC.get (by rfl), bM, fun p' q' r' s' ht' => ?_⟩
  obtain ⟨rfl, rfl, rfl, rfl⟩ := ht.uniq b0 (ht'.times b0 (by decide))
  walk_at "p"
  refine like_s (ftt.shows (by decide) (by decide)) ?_
  walk_at "p"
  walk_at "p2"
  all_goals first
    | (walk_at "p"
       refine ⟨rfl, a, b, M, p', q', r', s', rfl, b0, M0, by omega, ba, bb, ht, ?_⟩
       walk_at "p"
       refine like_s (ftt.shows (by decide) (by decide)) ?_
       walk_at "p")
    | walk_at "p"
  all_goals
    walk_at "p"
    refine ⟨rfl, a, b, M, rfl, b0, M0, ba', bb', bM, fun p q r s ht2 => ?_⟩
    obtain ⟨rfl, rfl, rfl, rfl⟩ := ht.uniq b0 ht2
    walk_at "p"
    refine ⟨rfl, a, b, M, tt p q r s, rfl, b0, M0, ba', bb', bM, fun c hc => ?_⟩
    have ec : c = true := hc.mpr ⟨p, q, r, s, rfl, rp⟩
    subst ec
    clear hc
    walk_at "p"
    refine ⟨rfl, a, b, p, q, r, s, rfl, ba', bb', bp, bq, br, bs, ?_⟩
    walk_at "p"
    refine like_s (((fine_near bp bq br bs).cons' (show Fine 1000 1 5 (.bool true) from (Fine.bool true).mono (by decide) (by decide)).one).list.shows (by decide) (by decide)) ?_
    walk_at "p"
    refine forR (Inv (fun (i : Nat) (_ : Unit) => (cnt + 10 * i, [some .mem, dI a, dI b, dI M, some (.d (tt p q r s)), none, none])) fun i _ => True) (lpI () (by dsimp only; omega) (by walk_at "fg") trivial) (fun i n' ρ hi hI => ?_) (fun n' ρ hI => ?_)
    · obtain ⟨_, e, _⟩ := hI
      injection e with e1 e2
      subst e1 e2
      have hi : i < 4 := hi
      walk_at "p"
      refine ⟨rfl, p, q, r, s, rfl, by omega, bp, bq, br, bs, fun d hd => ?_⟩
      walk_at "p"
      refine ⟨rfl, a, b, M, d, rfl, b0, M0, ba', bb', bM, fun c1 hc1 => ?_⟩
      walk_at "p"
      refine ⟨rfl, a, b, M, d, rfl, b0, M0, ba, bb, bM, hd, fun c2 hc2 => ?_⟩
      walk_at "p"
      refine like_e (by rw [Bool.eq_iff_iff.mpr (hc1.trans hc2.symm)]) ((Fine.bool (b := 0) c1).shows (by decide) (by decide)) ?_
      walk_at "p"
      exact lpI () (by dsimp only; omega) (by walk_at "fg") trivial
    · obtain ⟨_, e, _⟩ := hI
      injection e with e1 e2
      subst e1 e2
      walk_at "p"
      exact done
def SBetw : PSp := fun m ss Φ => ∃ a b M : Int, ss = [.d (.int a), .d (.int b), .d (.int M)] ∧ 0 < b ∧ 1 ≤ M ∧ M < 1000000 ∧ Bt 600 a ∧ Bt 600 b ∧ Φ m (.d (.bool true))
theorem ok_law_between_right {f_ f0 : Addr} {fd_ g0 : FuncData} (h : Has K mg "_law_between_right" s_law_between_right ["a", "b", "most"] f_ fd_) (z_range : mg "range" = none) (h_neighbours : Has K mg "neighbours" s_neighbours ["a", "b", "most"] f0 g0) (F_neighbours : FnOk P w K mg base CX0 3 f0 g0 ["a", "b", "most"] (spU K SNb)) : FnOk P w K mg base CX0 4 f_ fd_ ["a", "b", "most"] (spU K SBetw) := by
  refine fnU h sc_law_between_right SBetw (fun n ss Φ h => ?_) (fun cdv A outer s H E hr F0 m0 cnt ss Φ hs => ?_)
  · obtain ⟨_, _, _, rfl, _⟩ := h
    rfl
  obtain ⟨a, b, M, rfl, b0, M0, M1, ba, bb, done⟩ := hs
  refine ⟨_, (pss_cons (ps_asg (pe_call F_neighbours (hr.mono (by first | decide | omega)) (by rfl) h_neighbours.gl h_neighbours.fn.kp h_neighbours.bd .nil pass0 (pa_cons (pv 0) (pa_cons (pv 1) (pa_cons (pv 2) pa_nil)))) (pg_tup rfl (pgs_cons (pg_tup rfl (pgs_cons (pg_name (i := 3) sc_law_between_right.nd rfl (Or.inl rfl)) (pgs_cons (pg_name (i := 4) sc_law_between_right.nd rfl (Or.inl rfl)) pgs_nil))) (pgs_cons (pg_tup rfl (pgs_cons (pg_name (i := 5) sc_law_between_right.nd rfl (Or.inl rfl)) (pgs_cons (pg_name (i := 6) sc_law_between_right.nd rfl (Or.inl rfl)) pgs_nil))) pgs_nil))))
      (pss_cons (ps_for PassesOwn.never rfl (pi_range2 rfl z_range (pa_cons pe_int (pa_cons (pe_op op_add (pv 4) (pv 6)) pa_nil))) (pg_name (i := 7) sc_law_between_right.nd rfl (Or.inl rfl)) (pss_cons (ps_set (i := 8) sc_law_between_right.nd rfl (.inl rfl) (pe_op op_add (pe_op op_fdivW (pe_op op_mulB (pv 3) (pv 7)) (pv 4)) pe_int))
      (pss_one (ps_if (pt_cmpR op_lt (pe_op op_mulB (pv 8) (pv 6)) (pe_op op_mulB (pv 5) (pv 7)) (nomark _)) (pss_one (ps_ret pe_bl)) pss_nil))))
      (pss_one (ps_ret pe_bl)))), ?_⟩
  with_reducible apply GB.pz_st (m' := 9)
  · exact rfl
  walk_at "st"
  have ba' : Bt 700 a := ba.mono (by decide)
  have bb' : Bt 700 b := bb.mono (by decide)
  have bM : Bt 200 M := sb (by omega) (by omega)
  walk_at "p"
  refine ⟨rfl, a, b, M, rfl, b0, M0, ba', bb', bM, fun p q r s ht => ?_⟩
  obtain ⟨bp, bq, br, bs⟩ := told_bits b0 ht ba' bM
  haveI : BtC p 901 := ⟨bp⟩
  haveI : BtC q 199 := ⟨bq⟩
  haveI : BtC r 901 := ⟨br⟩
  haveI : BtC s 199 := ⟨bs⟩
  obtain ⟨q0, s0, _⟩ := ht.cop b0
  obtain ⟨_, _, qm, sm⟩ := ht.sides b0
  walk_at "p"
  refine forR (Inv (fun (i : Nat) (_ : Unit) => (cnt, [dI a, dI b, dI M, dI p, dI q, dI r, dI s, none, none])) fun i _ => True) (lpI () (Nat.le_refl _) (by walk_at "fg") trivial) (fun i n' ρ hi hI => ?_) (fun n' ρ hI => ?_)
  · obtain ⟨_, e, _⟩ := hI
    injection e with e1 e2
    subst e1 e2
    generalize ed : (1 : Int) + (i : Int) * 1 = d
    have d1 : 1 ≤ d := by omega
    have d2 : d < q + s := by omega
    haveI : BtC d 61 := ⟨Bt.small (by omega) (by omega)⟩
    have nb := ht.between b0 d1 d2
    walk_at "p"
    walk_at "p2"
    · rename_i z
      exact absurd z nb
    · walk_at "p"
      exact lpI () (Nat.le_refl _) (by walk_at "fg") trivial
  · obtain ⟨_, e, _⟩ := hI
    injection e with e1 e2
    subst e1 e2
    walk_at "p"
    exact done
end
end L16
namespace L16
open PySem PySem.Spec PyProof.Rows L2 GB RZ M16
section
variable {P : Program} {w : World} {K : PySem.W.Frag} {mg : Str → Option Value} {base : Heap}
theorem pos_jk {j k q s : Int} (j0 : 0 ≤ j) (k0 : 0 ≤ k) (h : 0 < j + k) (q0 : 0 < q) (s0 : 0 < s) : 0 < j * q + k * s := by
  have h1 : 0 ≤ j * q := Int.mul_nonneg j0 (by omega)
  have h2 : 0 ≤ k * s := Int.mul_nonneg k0 (by omega)
  by_cases z : 0 < j
  · have := Int.mul_pos z q0
    omega
  · have := Int.mul_pos (show 0 < k by omega) s0
    omega
def SMade : PSp := fun m ss Φ => ss = [.mem] ∧ m ≤ 1000000000 ∧ ∀ (n : Nat) (a b c : Int), n ≤ m + 70 → 0 < b → Bt 600 a → Bt 600 b → Bt 200 c → Φ n (.d (.tuple [.int a, .int b, .int c]))
theorem ok_law_made {f_ f0 : Addr} {fd_ g0 : FuncData} (h : Has K mg "_law_made" s_law_made ["m"] f_ fd_) (z_range : mg "range" = none) (h_law_draw : Has K mg "_law_draw" s_law_draw ["m", "bound"] f0 g0) (F_law_draw : FnOk P w K mg base CX0 1 f0 g0 ["m", "bound"] (spU K SDraw)) : FnOk P w K mg base CX0 2 f_ fd_ ["m"] (spU K SMade) := by
  refine fnU h sc_law_made SMade (fun n ss Φ h => ?_) (fun cdv A outer s H E hr F0 m0 cnt ss Φ hs => ?_)
  · obtain ⟨rfl, _⟩ := h
    rfl
  obtain ⟨rfl, hm, done⟩ := hs
  refine ⟨_, (pss_cons (ps_asg (pe_tup (pa_cons (pe_op op_sub (pe_call F_law_draw (hr.mono (by first | decide | omega)) (by rfl) h_law_draw.gl h_law_draw.fn.kp h_law_draw.bd .nil pass0 (pa_cons (pv 0) (pa_cons pe_int pa_nil))) pe_int) (pa_cons pe_int (pa_cons pe_int (pa_cons pe_int pa_nil))))) (pg_tup rfl (pgs_cons (pg_name (i := 1) sc_law_made.nd rfl (Or.inl rfl)) (pgs_cons (pg_name (i := 2) sc_law_made.nd rfl (Or.inl rfl)) (pgs_cons (pg_name (i := 3) sc_law_made.nd rfl (Or.inl rfl)) (pgs_cons (pg_name (i := 4) sc_law_made.nd rfl (Or.inl rfl)) pgs_nil))))))
      (pss_cons (ps_set (i := 3) sc_law_made.nd rfl (.inl rfl) (pe_op op_add (pv 1) pe_int))
      (pss_cons (ps_for PassesOwn.never rfl (pi_range1 rfl z_range (pa_cons (pe_call F_law_draw (hr.mono (by first | decide | omega)) (by rfl) h_law_draw.gl h_law_draw.fn.kp h_law_draw.bd .nil pass0 (pa_cons (pv 0) (pa_cons pe_int pa_nil))) pa_nil)) (pg_name (i := 5) sc_law_made.nd rfl (Or.inl rfl)) (pss_one (ps_if (pt_cmpR op_eq (pe_call F_law_draw (hr.mono (by first | decide | omega)) (by rfl) h_law_draw.gl h_law_draw.fn.kp h_law_draw.bd .nil pass0 (pa_cons (pv 0) (pa_cons pe_int pa_nil))) pe_int (nomark _)) (pss_one (ps_par (i := 1) (j := 2) (by rfl) sc_law_made.nd rfl rfl (by decide) rfl rfl (pa_cons (pe_op op_add (pv 1) (pv 3)) (pa_cons (pe_op op_add (pv 2) (pv 4)) pa_nil)) (by rfl))) (pss_one (ps_par (i := 3) (j := 4) (by rfl) sc_law_made.nd rfl rfl (by decide) rfl rfl (pa_cons (pe_op op_add (pv 1) (pv 3)) (pa_cons (pe_op op_add (pv 2) (pv 4)) pa_nil)) (by rfl))))))
      (pss_cons (ps_par (i := 6) (j := 7) (by rfl) sc_law_made.nd rfl rfl (by decide) rfl rfl (pa_cons (pe_call F_law_draw (hr.mono (by first | decide | omega)) (by rfl) h_law_draw.gl h_law_draw.fn.kp h_law_draw.bd .nil pass0 (pa_cons (pv 0) (pa_cons pe_int pa_nil))) (pa_cons (pe_call F_law_draw (hr.mono (by first | decide | omega)) (by rfl) h_law_draw.gl h_law_draw.fn.kp h_law_draw.bd .nil pass0 (pa_cons (pv 0) (pa_cons pe_int pa_nil))) pa_nil)) (by rfl))
      (pss_cons (ps_if (pt_cmpR op_eq (pe_op op_add (pv 6) (pv 7)) pe_int (nomark _)) (pss_one (ps_set (i := 6) sc_law_made.nd rfl (.inl rfl) pe_int)) pss_nil)
      (pss_one (ps_ret (pe_tup (pa_cons (pe_op op_add (pe_op op_mulB (pv 6) (pv 1)) (pe_op op_mulB (pv 7) (pv 3))) (pa_cons (pe_op op_add (pe_op op_mulB (pv 6) (pv 2)) (pe_op op_mulB (pv 7) (pv 4))) (pa_cons (pe_ifExp (PW.pt (pw_and (pt_cmpR op_gt (pv 2) (pv 4) (nomark _)) (pw_and1 (pt_cmpR op_eq (pe_call F_law_draw (hr.mono (by first | decide | omega)) (by rfl) h_law_draw.gl h_law_draw.fn.kp h_law_draw.bd .nil pass0 (pa_cons (pv 0) (pa_cons pe_int pa_nil))) pe_int (nomark _))))) (pe_op op_sub (pe_op op_add (pv 2) (pv 4)) pe_int) (pe_op op_add (pe_op op_add (pv 2) (pe_call F_law_draw (hr.mono (by first | decide | omega)) (by rfl) h_law_draw.gl h_law_draw.fn.kp h_law_draw.bd .nil pass0 (pa_cons (pv 0) (pa_cons (pv 4) pa_nil)))) pe_int)) pa_nil))))))))))), ?_⟩
  with_reducible apply GB.pz_st (m' := 8)
  · exact rfl
  walk_at "st"
  walk_at "p"
  refine draw_t (by omega) (by decide) (by decide) fun v v0 v1 => ?_
  walk_at "p"
  refine draw_t (by omega) (by decide) (by decide) fun n n0 n1 => ?_
  walk_at "p"
  refine forR (Inv (fun (i : Nat) ((p, q, r, s) : Int × Int × Int × Int) => (cnt + 2 + i, [some .mem, dI p, dI q, dI r, dI s, none, none, none])) fun i (p, q, r, s) => i ≤ 60 ∧ 0 < q ∧ 0 < s ∧ p.natAbs ≤ 8 * 2 ^ i ∧ q.natAbs ≤ 2 ^ i ∧ r.natAbs ≤ 8 * 2 ^ i ∧ s.natAbs ≤ 2 ^ i)
    (lpI (v - 4, 1, v - 4 + 1, 1) (by dsimp only; omega) (by walk_at "fg") (by dsimp only; exact ⟨by omega, by decide, by decide, by omega, by decide, by omega, by decide⟩)) (fun i n' ρ hi hI => ?_) (fun n' ρ hI => ?_)
  · obtain ⟨⟨p, q, r, s⟩, e, hi2, q0, s0, bp, bq, br, bs⟩ := hI
    injection e with e1 e2
    subst e1 e2
    have e2 : 2 ^ (i + 1) = 2 * 2 ^ i := by rw [Nat.pow_succ]; omega
    walk_at "p"
    refine draw_t (by omega) (by decide) (by decide) fun t t0 t1 => ?_
    walk_at "p"
    walk_at "p2"
    · walk_at "p"
      exact lpI (p + r, q + s, r, s) (by dsimp only; omega) (by walk_at "fg") (by dsimp only; exact ⟨by omega, by omega, by omega, by omega, by omega, by omega, by omega⟩)
    · walk_at "p"
      exact lpI (p, q, p + r, q + s) (by dsimp only; omega) (by walk_at "fg") (by dsimp only; exact ⟨by omega, by omega, by omega, by omega, by omega, by omega, by omega⟩)
  · obtain ⟨⟨p, q, r, s⟩, e, hi2, q0, s0, bp, bq, br, bs⟩ := hI
    injection e with e1 e2
    subst e1 e2
    have p60 : 2 ^ n.toNat ≤ 2 ^ 60 := Nat.pow_le_pow_right (by decide) (by omega)
    have e60 : (2 : Nat) ^ 60 = 1152921504606846976 := by decide
    rw [e60] at p60
    refine pz_more (m := cnt + 64) (by omega) ?_
    have pB : Bt 66 p := Bt.of (b := 8 * 1152921504606846976 + 1) (by omega) (by decide)
    have rB : Bt 66 r := Bt.of (b := 8 * 1152921504606846976 + 1) (by omega) (by decide)
    haveI : BtC p 65 := ⟨pB⟩
    haveI : BtC r 65 := ⟨rB⟩
    haveI : BtC q 61 := ⟨Bt.small (by omega) (by omega)⟩
    haveI : BtC s 61 := ⟨Bt.small (by omega) (by omega)⟩
    walk_at "p"
    refine draw_t (by omega) (by decide) (by decide) fun j j0 j1 => ?_
    walk_at "p"
    refine draw_t (by omega) (by decide) (by decide) fun k k0 k1 => ?_
    walk_at "p"
    haveI : BtC j 61 := ⟨Bt.small (by omega) (by omega)⟩
    haveI : BtC k 61 := ⟨Bt.small (by omega) (by omega)⟩
    walk_at "p2"
    all_goals
      walk_at "p"
      walk_at "p2"
      · walk_at "p"
        refine draw_t (by omega) (by decide) (by decide) fun t t0 t1 => ?_
        walk_at "p"
        walk_at "p2"
        · walk_at "p"
          exact done _ _ _ _ (by omega) (pos_jk (by omega) k0 (by omega) q0 s0) (BtC.get (by rfl)) (BtC.get (by rfl)) (BtC.get (by rfl))
        · walk_at "p"
          refine draw_t (by omega) (by omega) (by omega) fun t t0 t1 => ?_
          haveI : BtC t 61 := ⟨Bt.small (by omega) (by omega)⟩
          walk_at "p"
          exact done _ _ _ _ (by omega) (pos_jk (by omega) k0 (by omega) q0 s0) (BtC.get (by rfl)) (BtC.get (by rfl)) (BtC.get (by rfl))
      · walk_at "p"
        refine draw_t (by omega) (by omega) (by omega) fun t t0 t1 => ?_
        haveI : BtC t 61 := ⟨Bt.small (by omega) (by omega)⟩
        walk_at "p"
        exact done _ _ _ _ (by omega) (pos_jk (by omega) k0 (by omega) q0 s0) (BtC.get (by rfl)) (BtC.get (by rfl)) (BtC.get (by rfl))
theorem told_is {a b M p q r s : Int} (b0 : 0 < b) (h : RightP a b M p q r s) {p' q' r' s' : Int} (t : Told a b M p' q' r' s') : p' = p ∧ q' = q ∧ r' = r ∧ s' = s := (h.told b0).uniq b0 t
theorem ok_law {f_ f0 f1 f2 f3 f4 f5 f6 f7 f8 f9 : Addr} {fd_ g0 g1 g2 g3 g4 g5 g6 g7 g8 g9 : FuncData} (h : Has K mg "law" s_law ["script"] f_ fd_) (z_range : mg "range" = none) (z_max : mg "max" = none) (z_min : mg "min" = none) (z_len : mg "len" = none) (h_neighbours : Has K mg "neighbours" s_neighbours ["a", "b", "most"] f0 g0) (F_neighbours : FnOk P w K mg base CX0 3 f0 g0 ["a", "b", "most"] (spU K SNb)) (h_nearest : Has K mg "nearest" s_nearest ["a", "b", "most"] f1 g1) (F_nearest : FnOk P w K mg base CX0 4 f1 g1 ["a", "b", "most"] (spU K SNear)) (h_law_like : Has K mg "_law_like" s_law_like ["got", "due"] f2 g2) (F_law_like : GOk P w K mg base CX0 1 f2 g2 ["got", "due"] (spU K SLike)) (h_law_begun : Has K mg "_law_begun" s_law_begun ["script", "k"] f3 g3) (F_law_begun : FnOk P w K mg base CX0 1 f3 g3 ["script", "k"] (spBegunF K)) (h_law_made : Has K mg "_law_made" s_law_made ["m"] f4 g4) (F_law_made : FnOk P w K mg base CX0 2 f4 g4 ["m"] (spU K SMade)) (h_law_told_right : Has K mg "_law_told_right" s_law_told_right ["m", "a", "b", "most"] f5 g5) (F_law_told_right : GOk P w K mg base CX0 7 f5 g5 ["m", "a", "b", "most"] (spU K SToldR)) (h_law_draw : Has K mg "_law_draw" s_law_draw ["m", "bound"] f6 g6) (F_law_draw : FnOk P w K mg base CX0 1 f6 g6 ["m", "bound"] (spU K SDraw)) (h_law_between_right : Has K mg "_law_between_right" s_law_between_right ["a", "b", "most"] f7 g7) (F_law_between_right : FnOk P w K mg base CX0 4 f7 g7 ["a", "b", "most"] (spU K SBetw)) (h_law_signed : Has K mg "_law_signed" s_law_signed ["m", "most"] f8 g8) (F_law_signed : FnOk P w K mg base CX0 3 f8 g8 ["m", "most"] (spU K SSigned)) (h_law_sized : Has K mg "_law_sized" s_law_sized ["m", "most"] f9 g9) (F_law_sized : FnOk P w K mg base CX0 2 f9 g9 ["m", "most"] (spU K SSized)) : GOk P w K mg base CX0 8 f_ fd_ ["script"] (spLaw K) := by
  refine lawU h sc_law rfl (fun cdv A outer s H E ng hr F0 ns hl hb => ?_)
  refine ⟨_, (pss_cons (ps_set (i := 1) sc_law.nd rfl (.inl rfl) (pe_lst (pa_cons (pe_call F_neighbours (hr.mono (by first | decide | omega)) (by rfl) h_neighbours.gl h_neighbours.fn.kp h_neighbours.bd .nil pass0 (pa_cons pe_int (pa_cons pe_int (pa_cons pe_int pa_nil)))) (pa_cons (pe_call F_neighbours (hr.mono (by first | decide | omega)) (by rfl) h_neighbours.gl h_neighbours.fn.kp h_neighbours.bd .nil pass0 (pa_cons (pe_un un_neg pe_int) (pa_cons pe_int (pa_cons pe_int pa_nil)))) (pa_cons (pe_call F_neighbours (hr.mono (by first | decide | omega)) (by rfl) h_neighbours.gl h_neighbours.fn.kp h_neighbours.bd .nil pass0 (pa_cons pe_int (pa_cons pe_int (pa_cons pe_int pa_nil)))) (pa_cons (pe_call F_nearest (hr.mono (by first | decide | omega)) (by rfl) h_nearest.gl h_nearest.fn.kp h_nearest.bd .nil pass0 (pa_cons pe_int (pa_cons pe_int (pa_cons pe_int pa_nil)))) (pa_cons (pe_call F_nearest (hr.mono (by first | decide | omega)) (by rfl) h_nearest.gl h_nearest.fn.kp h_nearest.bd .nil pass0 (pa_cons pe_int (pa_cons pe_int (pa_cons pe_int pa_nil)))) pa_nil)))))))
      (pss_cons (ps_set (i := 2) sc_law.nd rfl (.inl rfl) (pe_lst (pa_cons (pe_tup (pa_cons (pe_tup (pa_cons pe_int (pa_cons pe_int pa_nil))) (pa_cons (pe_tup (pa_cons pe_int (pa_cons pe_int pa_nil))) pa_nil))) (pa_cons (pe_tup (pa_cons (pe_tup (pa_cons (pe_un un_neg pe_int) (pa_cons pe_int pa_nil))) (pa_cons (pe_tup (pa_cons (pe_un un_neg pe_int) (pa_cons pe_int pa_nil))) pa_nil))) (pa_cons (pe_tup (pa_cons (pe_tup (pa_cons pe_int (pa_cons pe_int pa_nil))) (pa_cons (pe_tup (pa_cons pe_int (pa_cons pe_int pa_nil))) pa_nil))) (pa_cons (pe_tup (pa_cons pe_int (pa_cons pe_int pa_nil))) (pa_cons (pe_tup (pa_cons pe_int (pa_cons pe_int pa_nil))) pa_nil)))))))
      (pss_cons (ps_if (pt_not (pt_val (pe_callG F_law_like ng (hr.mono (by first | decide | omega)) (by rfl) h_law_like.gl h_law_like.fn.kp h_law_like.bd .nil pass0 (pa_cons (pv 1) (pa_cons (pv 2) pa_nil))))) (pss_one (ps_ret pe_bl)) pss_nil)
      (pss_cons (ps_for PassesOwn.never rfl (pi_range1 rfl z_range (pa_cons (pe_callB (call_maxB rfl) (by rfl) z_max (by decide +kernel) (pa_cons pe_int (pa_cons (pe_callB (call_minB rfl) (by rfl) z_min (by decide +kernel) (pa_cons (pe_callB call_lenB (by rfl) z_len (by decide +kernel) (pa_cons (pv 0) pa_nil)) (pa_cons pe_int pa_nil))) pa_nil))) pa_nil)) (pg_name (i := 3) sc_law.nd rfl (Or.inl rfl)) (pss_cons (ps_set (i := 4) sc_law.nd rfl (.inl rfl) (pe_call F_law_begun (hr.mono (by first | decide | omega)) (by rfl) h_law_begun.gl h_law_begun.fn.kp h_law_begun.bd .nil pass0 (pa_cons (pv 0) (pa_cons (pv 3) pa_nil))))
      (pss_cons (ps_par3 (i := 5) (j := 6) (l := 7) (by rfl) sc_law.nd rfl rfl rfl (by decide) (by decide) (by decide) rfl rfl rfl (pa_cons (pe_op op_sub (pe_call F_law_draw (hr.mono (by first | decide | omega)) (by rfl) h_law_draw.gl h_law_draw.fn.kp h_law_draw.bd .nil pass0 (pa_cons (pv 4) (pa_cons pe_int pa_nil))) pe_int) (pa_cons (pe_op op_add pe_int (pe_call F_law_draw (hr.mono (by first | decide | omega)) (by rfl) h_law_draw.gl h_law_draw.fn.kp h_law_draw.bd .nil pass0 (pa_cons (pv 4) (pa_cons pe_int pa_nil)))) (pa_cons (pe_op op_add pe_int (pe_call F_law_draw (hr.mono (by first | decide | omega)) (by rfl) h_law_draw.gl h_law_draw.fn.kp h_law_draw.bd .nil pass0 (pa_cons (pv 4) (pa_cons pe_int pa_nil)))) pa_nil))) (by rfl))
      (pss_cons (ps_if (PW.pt (pw_or (pt_not (pt_val (pe_callG F_law_told_right ng (hr.mono (by first | decide | omega)) (by rfl) h_law_told_right.gl h_law_told_right.fn.kp h_law_told_right.bd .nil pass0 (pa_cons (pv 4) (pa_cons (pv 5) (pa_cons (pv 6) (pa_cons (pv 7) pa_nil))))))) (pw_or1 (pt_not (pt_val (pe_call F_law_between_right (hr.mono (by first | decide | omega)) (by rfl) h_law_between_right.gl h_law_between_right.fn.kp h_law_between_right.bd .nil pass0 (pa_cons (pv 5) (pa_cons (pv 6) (pa_cons (pv 7) pa_nil))))))))) (pss_one (ps_ret pe_bl)) pss_nil)
      (pss_cons (ps_if (pt_not (pt_val (pe_callG F_law_told_right ng (hr.mono (by first | decide | omega)) (by rfl) h_law_told_right.gl h_law_told_right.fn.kp h_law_told_right.bd .nil pass0 (pa_cons (pv 4) (pa_cons (pe_call F_law_signed (hr.mono (by first | decide | omega)) (by rfl) h_law_signed.gl h_law_signed.fn.kp h_law_signed.bd .nil pass0 (pa_cons (pv 4) (pa_cons pe_int pa_nil))) (pa_cons (pe_op op_add pe_int (pe_call F_law_sized (hr.mono (by first | decide | omega)) (by rfl) h_law_sized.gl h_law_sized.fn.kp h_law_sized.bd .nil pass0 (pa_cons (pv 4) (pa_cons pe_int pa_nil)))) (pa_cons (pe_op op_add pe_int (pe_call F_law_sized (hr.mono (by first | decide | omega)) (by rfl) h_law_sized.gl h_law_sized.fn.kp h_law_sized.bd .nil pass0 (pa_cons (pv 4) (pa_cons pe_int pa_nil)))) pa_nil))))))) (pss_one (ps_ret pe_bl)) pss_nil)
      (pss_cons (ps_asg (pe_call F_law_made (hr.mono (by first | decide | omega)) (by rfl) h_law_made.gl h_law_made.fn.kp h_law_made.bd .nil pass0 (pa_cons (pv 4) pa_nil)) (pg_tup rfl (pgs_cons (pg_name (i := 5) sc_law.nd rfl (Or.inl rfl)) (pgs_cons (pg_name (i := 6) sc_law.nd rfl (Or.inl rfl)) (pgs_cons (pg_name (i := 7) sc_law.nd rfl (Or.inl rfl)) pgs_nil)))))
      (pss_one (ps_if (pt_not (pt_val (pe_callG F_law_told_right ng (hr.mono (by first | decide | omega)) (by rfl) h_law_told_right.gl h_law_told_right.fn.kp h_law_told_right.bd .nil pass0 (pa_cons (pv 4) (pa_cons (pv 5) (pa_cons (pv 6) (pa_cons (pe_callB (call_maxB rfl) (by rfl) z_max (by decide +kernel) (pa_cons pe_int (pa_cons (pe_callB (call_minB rfl) (by rfl) z_min (by decide +kernel) (pa_cons (pv 7) (pa_cons (pe_powC (c := 10000000000000000000000000000000000000000) pe_int pe_int ⟨by decide, by decide +kernel⟩ (by decide +kernel)) pa_nil))) pa_nil))) pa_nil))))))) (pss_one (ps_ret pe_bl)) pss_nil))))))))
      (pss_one (ps_ret pe_bl)))))), ?_⟩
  with_reducible apply GB.pz_st (m' := 8)
  · exact rfl
  walk_at "st"
  have sb7 : ∀ {x : Int}, -(2 ^ 62) < x → x < 2 ^ 62 → Bt 700 x := fun h1 h2 => sb h1 h2
  have sb2 : ∀ {x : Int}, -(2 ^ 62) < x → x < 2 ^ 62 → Bt 200 x := fun h1 h2 => sb h1 h2
  walk_at "p"
  refine ⟨rfl, 1, 2, 1, rfl, by decide, by decide, sb7 (by decide) (by decide), sb7 (by decide) (by decide), sb2 (by decide) (by decide), fun p q r s ht => ?_⟩
  obtain ⟨rfl, rfl, rfl, rfl⟩ := told_is (p := 0) (q := 1) (r := 1) (s := 1) (by decide) (by unfold RightP; decide +kernel) ht
  clear ht
  walk_at "p"
  refine ⟨rfl, -7, 3, 2, rfl, by decide, by decide, sb7 (by decide) (by decide), sb7 (by decide) (by decide), sb2 (by decide) (by decide), fun p q r s ht => ?_⟩
  obtain ⟨rfl, rfl, rfl, rfl⟩ := told_is (p := -5) (q := 2) (r := -2) (s := 1) (by decide) (by unfold RightP; decide +kernel) ht
  clear ht
  walk_at "p"
  refine ⟨rfl, 2, 4, 9, rfl, by decide, by decide, sb7 (by decide) (by decide), sb7 (by decide) (by decide), sb2 (by decide) (by decide), fun p q r s ht => ?_⟩
  obtain ⟨rfl, rfl, rfl, rfl⟩ := told_is (p := 1) (q := 2) (r := 1) (s := 2) (by decide) (by unfold RightP; decide +kernel) ht
  clear ht
  walk_at "p"
  refine ⟨rfl, 1, 2, 1, rfl, by decide, by decide, sb7 (by decide) (by decide), sb7 (by decide) (by decide), sb2 (by decide) (by decide), fun p q r s ht => ?_⟩
  obtain ⟨rfl, rfl, rfl, rfl⟩ := told_is (p := 0) (q := 1) (r := 1) (s := 1) (by decide) (by unfold RightP; decide +kernel) ht
  clear ht
  rw [show nearI 1 2 0 1 1 1 = pr 0 1 from if_pos (by decide)]
  walk_at "p"
  refine ⟨rfl, 3, 8, 2, rfl, by decide, by decide, sb7 (by decide) (by decide), sb7 (by decide) (by decide), sb2 (by decide) (by decide), fun p q r s ht => ?_⟩
  obtain ⟨rfl, rfl, rfl, rfl⟩ := told_is (p := 0) (q := 1) (r := 1) (s := 2) (by decide) (by unfold RightP; decide +kernel) ht
  clear ht
  rw [show nearI 3 8 0 1 1 2 = pr 1 2 from if_neg (by decide)]
  have fp : ∀ {x y : Int}, -(2 ^ 62) < x → x < 2 ^ 62 → -(2 ^ 62) < y → y < 2 ^ 62 → Fine 1000 2 20 (pr x y) := fun h1 h2 h3 h4 => (fine_pr (sb h1 h2) (sb h3 h4)).mono (by decide) (by decide)
  have ft : ∀ {x y z w : Int}, -(2 ^ 62) < x → x < 2 ^ 62 → -(2 ^ 62) < y → y < 2 ^ 62 → -(2 ^ 62) < z → z < 2 ^ 62 → -(2 ^ 62) < w → w < 2 ^ 62 → Fine 1000 2 20 (tt x y z w) := fun h1 h2 h3 h4 h5 h6 h7 h8 => fine_tt (sb h1 h2) (sb h3 h4) (sb h5 h6) (sb h7 h8)
  walk_at "p"
  refine like_s (((ft (by decide) (by decide) (by decide) (by decide) (by decide) (by decide) (by decide) (by decide)).cons' ((ft (by decide) (by decide) (by decide) (by decide) (by decide) (by decide) (by decide) (by decide)).cons' ((ft (by decide) (by decide) (by decide) (by decide) (by decide) (by decide) (by decide) (by decide)).cons' ((fp (by decide) (by decide) (by decide) (by decide)).cons' (fp (by decide) (by decide) (by decide) (by decide)).one)))).list.shows (by decide) (by decide)) ?_
  walk_at "p"
  rw [List.length_map]
  walk_at "p"
  refine forR (Inv (fun i (c : Nat) => (c, [some (.d (.list (ns.map PyData.int))), none, none, none, none, none, none, none])) fun i _ => True) (lpI 0 (Nat.le_refl _) (by walk_at "fg") trivial) (fun i n' ρ hi hI => ?_) (fun n' ρ hI => ?_)
  · obtain ⟨cnt, e, _⟩ := hI
    injection e with e1 e2
    subst e1 e2
    have hi : i < 4 := by omega
    have sb6 : ∀ {x : Int}, -(2 ^ 62) < x → x < 2 ^ 62 → Bt 600 x := fun h1 h2 => sb h1 h2
    walk_at "p"
    refine draw_t (by omega) (by decide) (by decide) fun a a0 a1 => ?_
    walk_at "p"
    refine draw_t (by omega) (by decide) (by decide) fun b b0 b1 => ?_
    walk_at "p"
    refine draw_t (by omega) (by decide) (by decide) fun c c0 c1 => ?_
    walk_at "p"
    refine ⟨rfl, _, _, _, rfl, by omega, by omega, by omega, sb6 (by omega) (by omega), sb6 (by omega) (by omega), sb2 (by omega) (by omega), ?_⟩
    walk_at "p"
    refine ⟨rfl, _, _, _, rfl, by omega, by omega, by omega, sb6 (by omega) (by omega), sb6 (by omega) (by omega), ?_⟩
    walk_at "p"
    refine ⟨rfl, 60, rfl, by omega, by decide, fun x hx => ?_⟩
    walk_at "p"
    refine ⟨rfl, 60, rfl, by omega, by decide, fun y hy => ?_⟩
    walk_at "p"
    refine ⟨rfl, 39, rfl, by omega, by decide, fun z hz => ?_⟩
    walk_at "p"
    have bx : Bt 600 x := (Bt.of (n := 240) hx (by decide)).mono (by decide)
    have by_ : Bt 600 (1 + (y : Int)) := (Bt.of (n := 240) (b := 10 ^ 60 + 1) (by omega) (by decide)).mono (by decide)
    have bz : Bt 200 (1 + (z : Int)) := (Bt.of (n := 160) (b := 10 ^ 39 + 1) (by omega) (by decide)).mono (by decide)
    refine ⟨rfl, _, _, _, rfl, by omega, by omega, by omega, bx, by_, bz, ?_⟩
    walk_at "p"
    refine ⟨rfl, rfl, by omega, fun n a b c hn b0 ba bb bc => ?_⟩
    haveI : BtC c 199 := ⟨bc⟩
    walk_at "p"
    refine ⟨rfl, _, _, _, rfl, by omega, b0, by omega, ba, bb, BtC.get (by rfl), ?_⟩
    walk_at "p"
    exact lpI _ (Nat.le_refl _) (by walk_at "fg") trivial
  · obtain ⟨cnt, e, _⟩ := hI
    injection e with e1 e2
    subst e1 e2
    walk_at "p"
    exact rfl
end
end L16
namespace L16
open PySem PySem.Spec PyProof.Rows L2 GB
theorem all_mk {l : PySem.W.OpenLaw} {w : World} {K : PySem.W.Frag} {h : Heap} {mg : Str → Option Value} {fa f0 f1 f2 f3 f4 f5 f6 f7 f8 f9 f10 f11 f12 f13 f14 f15 f16 f17 f18 f19 f20 f21 f22 f23 f24 f25 : Addr} (X : K.In h) (G : h.Ns mainGlobals mg) (hfa : mg "law" = some (.ref fa))
    {od0 an0 od1 an1 od2 an2 od3 an3 od4 an4 od5 an5 od6 an6 od7 an7 od8 an8 od9 an9 od10 an10 od11 an11 od12 an12 od13 an13 od14 an14 od15 an15 od16 an16 od17 an17 od18 an18 od19 an19 od20 an20 od21 an21 od22 an22 od23 an23 od24 an24 od25 an25 : Option Addr} {sl0 sl1 sl2 sl3 sl4 sl5 sl6 sl7 sl8 sl9 sl10 sl11 sl12 sl13 sl14 sl15 sl16 sl17 sl18 sl19 sl20 sl21 sl22 sl23 sl24 sl25 : Array (Option Value)} {oc0 kV0 dc0 pm0 cd0 ct0 oc1 kV1 dc1 pm1 cd1 ct1 oc2 kV2 dc2 pm2 cd2 ct2 oc3 kV3 dc3 pm3 cd3 ct3 oc4 kV4 dc4 pm4 cd4 ct4 oc5 kV5 dc5 pm5 cd5 ct5 oc6 kV6 dc6 pm6 cd6 ct6 oc7 kV7 dc7 pm7 cd7 ct7 oc8 kV8 dc8 pm8 cd8 ct8 oc9 kV9 dc9 pm9 cd9 ct9 oc10 kV10 dc10 pm10 cd10 ct10 oc11 kV11 dc11 pm11 cd11 ct11 oc12 kV12 dc12 pm12 cd12 ct12 oc13 kV13 dc13 pm13 cd13 ct13 oc14 kV14 dc14 pm14 cd14 ct14 oc15 kV15 dc15 pm15 cd15 ct15 oc16 kV16 dc16 pm16 cd16 ct16 oc17 kV17 dc17 pm17 cd17 ct17 oc18 kV18 dc18 pm18 cd18 ct18 oc19 kV19 dc19 pm19 cd19 ct19 oc20 kV20 dc20 pm20 cd20 ct20 oc21 kV21 dc21 pm21 cd21 ct21 oc22 kV22 dc22 pm22 cd22 ct22 oc23 kV23 dc23 pm23 cd23 ct23 oc24 kV24 dc24 pm24 cd24 ct24 oc25 kV25 dc25 pm25 cd25 ct25 : Value}
    (a0 : PySem.W.nsIn K mainGlobals "common_part" = some (some (.ref f0))) (l0 : K.lookup f0 = some ⟨oc0, od0, .func (PySem.W.fnOf "common_part" "common_part" (defArgs s_common_part) (defBody s_common_part) (defScope s_common_part) .none kV0 dc0 pm0 an0 cd0 ct0), sl0⟩) (c0 : PySem.W.codeIn K cd0 "common_part" = true) (k0 : PySem.W.keepIn K (.ref f0) = true)
    (a1 : PySem.W.nsIn K mainGlobals "lowest" = some (some (.ref f1))) (l1 : K.lookup f1 = some ⟨oc1, od1, .func (PySem.W.fnOf "lowest" "lowest" (defArgs s_lowest) (defBody s_lowest) (defScope s_lowest) .none kV1 dc1 pm1 an1 cd1 ct1), sl1⟩) (c1 : PySem.W.codeIn K cd1 "lowest" = true) (k1 : PySem.W.keepIn K (.ref f1) = true)
    (a2 : PySem.W.nsIn K mainGlobals "is_number" = some (some (.ref f2))) (l2 : K.lookup f2 = some ⟨oc2, od2, .func (PySem.W.fnOf "is_number" "is_number" (defArgs s_is_number) (defBody s_is_number) (defScope s_is_number) .none kV2 dc2 pm2 an2 cd2 ct2), sl2⟩) (c2 : PySem.W.codeIn K cd2 "is_number" = true) (k2 : PySem.W.keepIn K (.ref f2) = true)
    (a3 : PySem.W.nsIn K mainGlobals "is_tuple" = some (some (.ref f3))) (l3 : K.lookup f3 = some ⟨oc3, od3, .func (PySem.W.fnOf "is_tuple" "is_tuple" (defArgs s_is_tuple) (defBody s_is_tuple) (defScope s_is_tuple) .none kV3 dc3 pm3 an3 cd3 ct3), sl3⟩) (c3 : PySem.W.codeIn K cd3 "is_tuple" = true) (k3 : PySem.W.keepIn K (.ref f3) = true)
    (a4 : PySem.W.nsIn K mainGlobals "same_nest" = some (some (.ref f4))) (l4 : K.lookup f4 = some ⟨oc4, od4, .func (PySem.W.fnOf "same_nest" "same_nest" (defArgs s_same_nest) (defBody s_same_nest) (defScope s_same_nest) .none kV4 dc4 pm4 an4 cd4 ct4), sl4⟩) (c4 : PySem.W.codeIn K cd4 "same_nest" = true) (k4 : PySem.W.keepIn K (.ref f4) = true)
    (a5 : PySem.W.nsIn K mainGlobals "neighbours" = some (some (.ref f5))) (l5 : K.lookup f5 = some ⟨oc5, od5, .func (PySem.W.fnOf "neighbours" "neighbours" (defArgs s_neighbours) (defBody s_neighbours) (defScope s_neighbours) .none kV5 dc5 pm5 an5 cd5 ct5), sl5⟩) (c5 : PySem.W.codeIn K cd5 "neighbours" = true) (k5 : PySem.W.keepIn K (.ref f5) = true)
    (a6 : PySem.W.nsIn K mainGlobals "nearest" = some (some (.ref f6))) (l6 : K.lookup f6 = some ⟨oc6, od6, .func (PySem.W.fnOf "nearest" "nearest" (defArgs s_nearest) (defBody s_nearest) (defScope s_nearest) .none kV6 dc6 pm6 an6 cd6 ct6), sl6⟩) (c6 : PySem.W.codeIn K cd6 "nearest" = true) (k6 : PySem.W.keepIn K (.ref f6) = true)
    (a7 : PySem.W.nsIn K mainGlobals "is_neighbours" = some (some (.ref f7))) (l7 : K.lookup f7 = some ⟨oc7, od7, .func (PySem.W.fnOf "is_neighbours" "is_neighbours" (defArgs s_is_neighbours) (defBody s_is_neighbours) (defScope s_is_neighbours) .none kV7 dc7 pm7 an7 cd7 ct7), sl7⟩) (c7 : PySem.W.codeIn K cd7 "is_neighbours" = true) (k7 : PySem.W.keepIn K (.ref f7) = true)
    (a8 : PySem.W.nsIn K mainGlobals "_law_begun" = some (some (.ref f8))) (l8 : K.lookup f8 = some ⟨oc8, od8, .func (PySem.W.fnOf "_law_begun" "_law_begun" (defArgs s_law_begun) (defBody s_law_begun) (defScope s_law_begun) .none kV8 dc8 pm8 an8 cd8 ct8), sl8⟩) (c8 : PySem.W.codeIn K cd8 "_law_begun" = true) (k8 : PySem.W.keepIn K (.ref f8) = true)
    (a9 : PySem.W.nsIn K mainGlobals "_law_draw" = some (some (.ref f9))) (l9 : K.lookup f9 = some ⟨oc9, od9, .func (PySem.W.fnOf "_law_draw" "_law_draw" (defArgs s_law_draw) (defBody s_law_draw) (defScope s_law_draw) .none kV9 dc9 pm9 an9 cd9 ct9), sl9⟩) (c9 : PySem.W.codeIn K cd9 "_law_draw" = true) (k9 : PySem.W.keepIn K (.ref f9) = true)
    (a10 : PySem.W.nsIn K mainGlobals "_law_of" = some (some (.ref f10))) (l10 : K.lookup f10 = some ⟨oc10, od10, .func (PySem.W.fnOf "_law_of" "_law_of" (defArgs s_law_of) (defBody s_law_of) (defScope s_law_of) .none kV10 dc10 pm10 an10 cd10 ct10), sl10⟩) (c10 : PySem.W.codeIn K cd10 "_law_of" = true) (k10 : PySem.W.keepIn K (.ref f10) = true)
    (a11 : PySem.W.nsIn K mainGlobals "_law_like" = some (some (.ref f11))) (l11 : K.lookup f11 = some ⟨oc11, od11, .func (PySem.W.fnOf "_law_like" "_law_like" (defArgs s_law_like) (defBody s_law_like) (defScope s_law_like) .none kV11 dc11 pm11 an11 cd11 ct11), sl11⟩) (c11 : PySem.W.codeIn K cd11 "_law_like" = true) (k11 : PySem.W.keepIn K (.ref f11) = true)
    (a12 : PySem.W.nsIn K mainGlobals "_law_sized" = some (some (.ref f12))) (l12 : K.lookup f12 = some ⟨oc12, od12, .func (PySem.W.fnOf "_law_sized" "_law_sized" (defArgs s_law_sized) (defBody s_law_sized) (defScope s_law_sized) .none kV12 dc12 pm12 an12 cd12 ct12), sl12⟩) (c12 : PySem.W.codeIn K cd12 "_law_sized" = true) (k12 : PySem.W.keepIn K (.ref f12) = true)
    (a13 : PySem.W.nsIn K mainGlobals "_law_signed" = some (some (.ref f13))) (l13 : K.lookup f13 = some ⟨oc13, od13, .func (PySem.W.fnOf "_law_signed" "_law_signed" (defArgs s_law_signed) (defBody s_law_signed) (defScope s_law_signed) .none kV13 dc13 pm13 an13 cd13 ct13), sl13⟩) (c13 : PySem.W.codeIn K cd13 "_law_signed" = true) (k13 : PySem.W.keepIn K (.ref f13) = true)
    (a14 : PySem.W.nsIn K mainGlobals "_law_common" = some (some (.ref f14))) (l14 : K.lookup f14 = some ⟨oc14, od14, .func (PySem.W.fnOf "_law_common" "_law_common" (defArgs s_law_common) (defBody s_law_common) (defScope s_law_common) .none kV14 dc14 pm14 an14 cd14 ct14), sl14⟩) (c14 : PySem.W.codeIn K cd14 "_law_common" = true) (k14 : PySem.W.keepIn K (.ref f14) = true)
    (a15 : PySem.W.nsIn K mainGlobals "_law_lowest" = some (some (.ref f15))) (l15 : K.lookup f15 = some ⟨oc15, od15, .func (PySem.W.fnOf "_law_lowest" "_law_lowest" (defArgs s_law_lowest) (defBody s_law_lowest) (defScope s_law_lowest) .none kV15 dc15 pm15 an15 cd15 ct15), sl15⟩) (c15 : PySem.W.codeIn K cd15 "_law_lowest" = true) (k15 : PySem.W.keepIn K (.ref f15) = true)
    (a16 : PySem.W.nsIn K mainGlobals "_law_tried" = some (some (.ref f16))) (l16 : K.lookup f16 = some ⟨oc16, od16, .func (PySem.W.fnOf "_law_tried" "_law_tried" (defArgs s_law_tried) (defBody s_law_tried) (defScope s_law_tried) .none kV16 dc16 pm16 an16 cd16 ct16), sl16⟩) (c16 : PySem.W.codeIn K cd16 "_law_tried" = true) (k16 : PySem.W.keepIn K (.ref f16) = true)
    (a17 : PySem.W.nsIn K mainGlobals "_law_is_number" = some (some (.ref f17))) (l17 : K.lookup f17 = some ⟨oc17, od17, .func (PySem.W.fnOf "_law_is_number" "_law_is_number" (defArgs s_law_is_number) (defBody s_law_is_number) (defScope s_law_is_number) .none kV17 dc17 pm17 an17 cd17 ct17), sl17⟩) (c17 : PySem.W.codeIn K cd17 "_law_is_number" = true) (k17 : PySem.W.keepIn K (.ref f17) = true)
    (a18 : PySem.W.nsIn K mainGlobals "_law_is_pair" = some (some (.ref f18))) (l18 : K.lookup f18 = some ⟨oc18, od18, .func (PySem.W.fnOf "_law_is_pair" "_law_is_pair" (defArgs s_law_is_pair) (defBody s_law_is_pair) (defScope s_law_is_pair) .none kV18 dc18 pm18 an18 cd18 ct18), sl18⟩) (c18 : PySem.W.codeIn K cd18 "_law_is_pair" = true) (k18 : PySem.W.keepIn K (.ref f18) = true)
    (a19 : PySem.W.nsIn K mainGlobals "_law_is_right" = some (some (.ref f19))) (l19 : K.lookup f19 = some ⟨oc19, od19, .func (PySem.W.fnOf "_law_is_right" "_law_is_right" (defArgs s_law_is_right) (defBody s_law_is_right) (defScope s_law_is_right) .none kV19 dc19 pm19 an19 cd19 ct19), sl19⟩) (c19 : PySem.W.codeIn K cd19 "_law_is_right" = true) (k19 : PySem.W.keepIn K (.ref f19) = true)
    (a20 : PySem.W.nsIn K mainGlobals "_law_nearest" = some (some (.ref f20))) (l20 : K.lookup f20 = some ⟨oc20, od20, .func (PySem.W.fnOf "_law_nearest" "_law_nearest" (defArgs s_law_nearest) (defBody s_law_nearest) (defScope s_law_nearest) .none kV20 dc20 pm20 an20 cd20 ct20), sl20⟩) (c20 : PySem.W.codeIn K cd20 "_law_nearest" = true) (k20 : PySem.W.keepIn K (.ref f20) = true)
    (a21 : PySem.W.nsIn K mainGlobals "_law_bent" = some (some (.ref f21))) (l21 : K.lookup f21 = some ⟨oc21, od21, .func (PySem.W.fnOf "_law_bent" "_law_bent" (defArgs s_law_bent) (defBody s_law_bent) (defScope s_law_bent) .none kV21 dc21 pm21 an21 cd21 ct21), sl21⟩) (c21 : PySem.W.codeIn K cd21 "_law_bent" = true) (k21 : PySem.W.keepIn K (.ref f21) = true)
    (a22 : PySem.W.nsIn K mainGlobals "_law_told_right" = some (some (.ref f22))) (l22 : K.lookup f22 = some ⟨oc22, od22, .func (PySem.W.fnOf "_law_told_right" "_law_told_right" (defArgs s_law_told_right) (defBody s_law_told_right) (defScope s_law_told_right) .none kV22 dc22 pm22 an22 cd22 ct22), sl22⟩) (c22 : PySem.W.codeIn K cd22 "_law_told_right" = true) (k22 : PySem.W.keepIn K (.ref f22) = true)
    (a23 : PySem.W.nsIn K mainGlobals "_law_between_right" = some (some (.ref f23))) (l23 : K.lookup f23 = some ⟨oc23, od23, .func (PySem.W.fnOf "_law_between_right" "_law_between_right" (defArgs s_law_between_right) (defBody s_law_between_right) (defScope s_law_between_right) .none kV23 dc23 pm23 an23 cd23 ct23), sl23⟩) (c23 : PySem.W.codeIn K cd23 "_law_between_right" = true) (k23 : PySem.W.keepIn K (.ref f23) = true)
    (a24 : PySem.W.nsIn K mainGlobals "_law_made" = some (some (.ref f24))) (l24 : K.lookup f24 = some ⟨oc24, od24, .func (PySem.W.fnOf "_law_made" "_law_made" (defArgs s_law_made) (defBody s_law_made) (defScope s_law_made) .none kV24 dc24 pm24 an24 cd24 ct24), sl24⟩) (c24 : PySem.W.codeIn K cd24 "_law_made" = true) (k24 : PySem.W.keepIn K (.ref f24) = true)
    (a25 : PySem.W.nsIn K mainGlobals "law" = some (some (.ref f25))) (l25 : K.lookup f25 = some ⟨oc25, od25, .func (PySem.W.fnOf "law" "law" (defArgs s_law) (defBody s_law) (defScope s_law) .none kV25 dc25 pm25 an25 cd25 ct25), sl25⟩) (c25 : PySem.W.codeIn K cd25 "law" = true) (k25 : PySem.W.keepIn K (.ref f25) = true)
    (y_abs : PySem.W.nsIn K mainGlobals "abs" = some none) (y_isinstance : PySem.W.nsIn K mainGlobals "isinstance" = some none) (y_int : PySem.W.nsIn K mainGlobals "int" = some none) (y_bool : PySem.W.nsIn K mainGlobals "bool" = some none) (y_tuple : PySem.W.nsIn K mainGlobals "tuple" = some none) (y_len : PySem.W.nsIn K mainGlobals "len" = some none) (y_str : PySem.W.nsIn K mainGlobals "str" = some none) (y_zip : PySem.W.nsIn K mainGlobals "zip" = some none) (y_min : PySem.W.nsIn K mainGlobals "min" = some none) (y_repr : PySem.W.nsIn K mainGlobals "repr" = some none) (y_range : PySem.W.nsIn K mainGlobals "range" = some none) (y_max : PySem.W.nsIn K mainGlobals "max" = some none) :
    ∃ fd : FuncData, (∀ (s : Shared) (v : Value), BindsTo s fd ⟨[v], []⟩ [("script", v)]) ∧ ∀ base : Heap, K.In base → base.Ns mainGlobals mg → GOk l.prog w K mg base CX0 8 fa fd ["script"] (spLaw K) := by
  have e := hfa.symm.trans (PySem.W.mg_of X G a25)
  cases e
  have W0 := fun_mk (st := s_common_part) l0 c0 k0
  have h_common_part : Has K mg "common_part" s_common_part ["a", "b"] f0 _ := ⟨W0, PySem.W.mg_of X G a0, W0.binds fun _ _ _ _ _ _ us hl => match us, hl with | [_, _], _ => rfl⟩
  have W1 := fun_mk (st := s_lowest) l1 c1 k1
  have h_lowest : Has K mg "lowest" s_lowest ["a", "b"] f1 _ := ⟨W1, PySem.W.mg_of X G a1, W1.binds fun _ _ _ _ _ _ us hl => match us, hl with | [_, _], _ => rfl⟩
  have W2 := fun_mk (st := s_is_number) l2 c2 k2
  have h_is_number : Has K mg "is_number" s_is_number ["value"] f2 _ := ⟨W2, PySem.W.mg_of X G a2, W2.binds fun _ _ _ _ _ _ us hl => match us, hl with | [_], _ => rfl⟩
  have W3 := fun_mk (st := s_is_tuple) l3 c3 k3
  have h_is_tuple : Has K mg "is_tuple" s_is_tuple ["value", "size"] f3 _ := ⟨W3, PySem.W.mg_of X G a3, W3.binds fun _ _ _ _ _ _ us hl => match us, hl with | [_, _], _ => rfl⟩
  have W4 := fun_mk (st := s_same_nest) l4 c4 k4
  have h_same_nest : Has K mg "same_nest" s_same_nest ["value", "wanted"] f4 _ := ⟨W4, PySem.W.mg_of X G a4, W4.binds fun _ _ _ _ _ _ us hl => match us, hl with | [_, _], _ => rfl⟩
  have W5 := fun_mk (st := s_neighbours) l5 c5 k5
  have h_neighbours : Has K mg "neighbours" s_neighbours ["a", "b", "most"] f5 _ := ⟨W5, PySem.W.mg_of X G a5, W5.binds fun _ _ _ _ _ _ us hl => match us, hl with | [_, _, _], _ => rfl⟩
  have W6 := fun_mk (st := s_nearest) l6 c6 k6
  have h_nearest : Has K mg "nearest" s_nearest ["a", "b", "most"] f6 _ := ⟨W6, PySem.W.mg_of X G a6, W6.binds fun _ _ _ _ _ _ us hl => match us, hl with | [_, _, _], _ => rfl⟩
  have W7 := fun_mk (st := s_is_neighbours) l7 c7 k7
  have h_is_neighbours : Has K mg "is_neighbours" s_is_neighbours ["a", "b", "most", "value"] f7 _ := ⟨W7, PySem.W.mg_of X G a7, W7.binds fun _ _ _ _ _ _ us hl => match us, hl with | [_, _, _, _], _ => rfl⟩
  have W8 := fun_mk (st := s_law_begun) l8 c8 k8
  have h_law_begun : Has K mg "_law_begun" s_law_begun ["script", "k"] f8 _ := ⟨W8, PySem.W.mg_of X G a8, W8.binds fun _ _ _ _ _ _ us hl => match us, hl with | [_, _], _ => rfl⟩
  have W9 := fun_mk (st := s_law_draw) l9 c9 k9
  have h_law_draw : Has K mg "_law_draw" s_law_draw ["m", "bound"] f9 _ := ⟨W9, PySem.W.mg_of X G a9, W9.binds fun _ _ _ _ _ _ us hl => match us, hl with | [_, _], _ => rfl⟩
  have W10 := fun_mk (st := s_law_of) l10 c10 k10
  have h_law_of : Has K mg "_law_of" s_law_of ["m", "some"] f10 _ := ⟨W10, PySem.W.mg_of X G a10, W10.binds fun _ _ _ _ _ _ us hl => match us, hl with | [_, _], _ => rfl⟩
  have W11 := fun_mk (st := s_law_like) l11 c11 k11
  have h_law_like : Has K mg "_law_like" s_law_like ["got", "due"] f11 _ := ⟨W11, PySem.W.mg_of X G a11, W11.binds fun _ _ _ _ _ _ us hl => match us, hl with | [_, _], _ => rfl⟩
  have W12 := fun_mk (st := s_law_sized) l12 c12 k12
  have h_law_sized : Has K mg "_law_sized" s_law_sized ["m", "most"] f12 _ := ⟨W12, PySem.W.mg_of X G a12, W12.binds fun _ _ _ _ _ _ us hl => match us, hl with | [_, _], _ => rfl⟩
  have W13 := fun_mk (st := s_law_signed) l13 c13 k13
  have h_law_signed : Has K mg "_law_signed" s_law_signed ["m", "most"] f13 _ := ⟨W13, PySem.W.mg_of X G a13, W13.binds fun _ _ _ _ _ _ us hl => match us, hl with | [_, _], _ => rfl⟩
  have W14 := fun_mk (st := s_law_common) l14 c14 k14
  have h_law_common : Has K mg "_law_common" s_law_common ["a", "b"] f14 _ := ⟨W14, PySem.W.mg_of X G a14, W14.binds fun _ _ _ _ _ _ us hl => match us, hl with | [_, _], _ => rfl⟩
  have W15 := fun_mk (st := s_law_lowest) l15 c15 k15
  have h_law_lowest : Has K mg "_law_lowest" s_law_lowest ["p", "q"] f15 _ := ⟨W15, PySem.W.mg_of X G a15, W15.binds fun _ _ _ _ _ _ us hl => match us, hl with | [_, _], _ => rfl⟩
  have W16 := fun_mk (st := s_law_tried) l16 c16 k16
  have h_law_tried : Has K mg "_law_tried" s_law_tried ["a", "b", "most"] f16 _ := ⟨W16, PySem.W.mg_of X G a16, W16.binds fun _ _ _ _ _ _ us hl => match us, hl with | [_, _, _], _ => rfl⟩
  have W17 := fun_mk (st := s_law_is_number) l17 c17 k17
  have h_law_is_number : Has K mg "_law_is_number" s_law_is_number ["value"] f17 _ := ⟨W17, PySem.W.mg_of X G a17, W17.binds fun _ _ _ _ _ _ us hl => match us, hl with | [_], _ => rfl⟩
  have W18 := fun_mk (st := s_law_is_pair) l18 c18 k18
  have h_law_is_pair : Has K mg "_law_is_pair" s_law_is_pair ["value"] f18 _ := ⟨W18, PySem.W.mg_of X G a18, W18.binds fun _ _ _ _ _ _ us hl => match us, hl with | [_], _ => rfl⟩
  have W19 := fun_mk (st := s_law_is_right) l19 c19 k19
  have h_law_is_right : Has K mg "_law_is_right" s_law_is_right ["a", "b", "most", "value"] f19 _ := ⟨W19, PySem.W.mg_of X G a19, W19.binds fun _ _ _ _ _ _ us hl => match us, hl with | [_, _, _, _], _ => rfl⟩
  have W20 := fun_mk (st := s_law_nearest) l20 c20 k20
  have h_law_nearest : Has K mg "_law_nearest" s_law_nearest ["a", "b", "low", "high"] f20 _ := ⟨W20, PySem.W.mg_of X G a20, W20.binds fun _ _ _ _ _ _ us hl => match us, hl with | [_, _, _, _], _ => rfl⟩
  have W21 := fun_mk (st := s_law_bent) l21 c21 k21
  have h_law_bent : Has K mg "_law_bent" s_law_bent ["m", "value"] f21 _ := ⟨W21, PySem.W.mg_of X G a21, W21.binds fun _ _ _ _ _ _ us hl => match us, hl with | [_, _], _ => rfl⟩
  have W22 := fun_mk (st := s_law_told_right) l22 c22 k22
  have h_law_told_right : Has K mg "_law_told_right" s_law_told_right ["m", "a", "b", "most"] f22 _ := ⟨W22, PySem.W.mg_of X G a22, W22.binds fun _ _ _ _ _ _ us hl => match us, hl with | [_, _, _, _], _ => rfl⟩
  have W23 := fun_mk (st := s_law_between_right) l23 c23 k23
  have h_law_between_right : Has K mg "_law_between_right" s_law_between_right ["a", "b", "most"] f23 _ := ⟨W23, PySem.W.mg_of X G a23, W23.binds fun _ _ _ _ _ _ us hl => match us, hl with | [_, _, _], _ => rfl⟩
  have W24 := fun_mk (st := s_law_made) l24 c24 k24
  have h_law_made : Has K mg "_law_made" s_law_made ["m"] f24 _ := ⟨W24, PySem.W.mg_of X G a24, W24.binds fun _ _ _ _ _ _ us hl => match us, hl with | [_], _ => rfl⟩
  have W25 := fun_mk (st := s_law) l25 c25 k25
  have h_law : Has K mg "law" s_law ["script"] fa _ := ⟨W25, PySem.W.mg_of X G a25, W25.binds fun _ _ _ _ _ _ us hl => match us, hl with | [_], _ => rfl⟩
  have z_abs := PySem.W.mg_none_of X G y_abs
  have z_isinstance := PySem.W.mg_none_of X G y_isinstance
  have z_int := PySem.W.mg_none_of X G y_int
  have z_bool := PySem.W.mg_none_of X G y_bool
  have z_tuple := PySem.W.mg_none_of X G y_tuple
  have z_len := PySem.W.mg_none_of X G y_len
  have z_str := PySem.W.mg_none_of X G y_str
  have z_zip := PySem.W.mg_none_of X G y_zip
  have z_min := PySem.W.mg_none_of X G y_min
  have z_repr := PySem.W.mg_none_of X G y_repr
  have z_range := PySem.W.mg_none_of X G y_range
  have z_max := PySem.W.mg_none_of X G y_max
  refine ⟨PySem.W.fnOf "law" "law" (defArgs s_law) (defBody s_law) (defScope s_law) .none kV25 dc25 pm25 an25 cd25 ct25, fun s v => .of_eq rfl, fun base _ _ => ?_⟩
  have dw0 := ok_draw (P := l.prog) (w := w) (base := base) h_law_draw z_int z_len
  have F_law_draw := draw_U dw0
  have F_law_of := of_U (ok_of (P := l.prog) (w := w) (base := base) h_law_of h_law_draw dw0 z_len)
  have F_law_like := like_U (ok_like (P := l.prog) (w := w) (base := base) h_law_like z_repr)
  have F_law_begun := ok_begun (P := l.prog) (w := w) (base := base) h_law_begun z_int
  have F_law_sized := ok_law_sized (P := l.prog) (w := w) (base := base) h_law_sized z_range h_law_draw F_law_draw
  have F_law_signed := ok_law_signed (P := l.prog) (w := w) (base := base) h_law_signed h_law_sized F_law_sized h_law_of F_law_of
  have F_law_common := ok_law_common (P := l.prog) (w := w) (base := base) h_law_common z_abs
  have F_common_part := ok_common_part (P := l.prog) (w := w) (base := base) h_common_part z_abs
  have F_lowest := ok_lowest (P := l.prog) (w := w) (base := base) h_lowest h_common_part F_common_part
  have F_law_lowest := ok_law_lowest (P := l.prog) (w := w) (base := base) h_law_lowest h_law_common F_law_common
  have F_neighbours := ok_neighbours (P := l.prog) (w := w) (base := base) h_neighbours z_min h_lowest F_lowest
  have F_nearest := ok_nearest (P := l.prog) (w := w) (base := base) h_nearest h_neighbours F_neighbours
  have F_is_number := ok_is_number (P := l.prog) (w := w) (base := base) h_is_number z_isinstance z_int z_bool
  have F_law_is_number := ok_law_is_number (P := l.prog) (w := w) (base := base) h_law_is_number z_isinstance z_int z_bool
  have F_is_tuple := ok_is_tuple (P := l.prog) (w := w) (base := base) h_is_tuple z_isinstance z_tuple z_len
  have F_same_nest := ok_same_nest (P := l.prog) (w := w) (base := base) h_same_nest z_isinstance z_str z_zip z_tuple z_len h_is_tuple F_is_tuple h_is_number F_is_number 4
  have F_is_neighbours := ok_is_neighbours (P := l.prog) (w := w) (base := base) h_is_neighbours h_same_nest F_same_nest h_neighbours F_neighbours
  have F_law_tried := ok_law_tried (P := l.prog) (w := w) (base := base) h_law_tried z_range h_law_lowest F_law_lowest
  have F_law_is_pair := ok_law_is_pair (P := l.prog) (w := w) (base := base) h_law_is_pair z_isinstance z_tuple z_len h_law_is_number F_law_is_number
  have F_law_is_right := ok_law_is_right (P := l.prog) (w := w) (base := base) h_law_is_right z_isinstance z_tuple z_len h_law_is_pair F_law_is_pair h_law_lowest F_law_lowest
  have F_law_nearest := ok_law_nearest (P := l.prog) (w := w) (base := base) h_law_nearest
  have F_law_bent := ok_law_bent (P := l.prog) (w := w) (base := base) h_law_bent h_law_draw F_law_draw h_law_of F_law_of
  have F_law_told_right := ok_law_told_right (P := l.prog) (w := w) (base := base) h_law_told_right z_range h_neighbours F_neighbours h_law_like F_law_like h_law_bent F_law_bent h_law_is_right F_law_is_right h_law_tried F_law_tried h_nearest F_nearest h_is_neighbours F_is_neighbours h_law_nearest F_law_nearest
  have F_law_between_right := ok_law_between_right (P := l.prog) (w := w) (base := base) h_law_between_right z_range h_neighbours F_neighbours
  have F_law_made := ok_law_made (P := l.prog) (w := w) (base := base) h_law_made z_range h_law_draw F_law_draw
  exact ok_law h_law z_range z_max z_min z_len h_neighbours F_neighbours h_nearest F_nearest h_law_like F_law_like h_law_begun F_law_begun h_law_made F_law_made h_law_told_right F_law_told_right h_law_draw F_law_draw h_law_between_right F_law_between_right h_law_signed F_law_signed h_law_sized F_law_sized
end L16
open PySem PySem.W PyProof.Rows
set_option maxHeartbeats 0 in
theorem PySem.Challenge.cw_numberpapers_k16_whole_neighbours_holds : PySem.Challenge.rw_numberpapers_k16_whole_neighbours.Holds := by
  w_on; o_law; k_head; (case hw => w_witness2)
  k_fill
  refine GB.walk_ofG (l := PySem.Challenge.rw_numberpapers_k16_whole_neighbours) (n := 63) (lev := 8) (par := "script") (say := GB.spLaw) rfl (by decide) rfl ⟨rfl, by decide, by decide⟩ (fun w h Y => PySem.W.kIn_of Y) ?F (fun K T a ns hl hb _ seq => ⟨a, ns, rfl, seq, hl, fun x hx => GB.Bt.of_bits (hb x hx), fun _ => rfl⟩)
  case F =>
    intro w mg fa h KX G hmg
    refine' L16.all_mk KX G hmg ?a0 ?l0 ?c0 ?k0 ?a1 ?l1 ?c1 ?k1 ?a2 ?l2 ?c2 ?k2 ?a3 ?l3 ?c3 ?k3 ?a4 ?l4 ?c4 ?k4 ?a5 ?l5 ?c5 ?k5 ?a6 ?l6 ?c6 ?k6 ?a7 ?l7 ?c7 ?k7 ?a8 ?l8 ?c8 ?k8 ?a9 ?l9 ?c9 ?k9 ?a10 ?l10 ?c10 ?k10 ?a11 ?l11 ?c11 ?k11 ?a12 ?l12 ?c12 ?k12 ?a13 ?l13 ?c13 ?k13 ?a14 ?l14 ?c14 ?k14 ?a15 ?l15 ?c15 ?k15 ?a16 ?l16 ?c16 ?k16 ?a17 ?l17 ?c17 ?k17 ?a18 ?l18 ?c18 ?k18 ?a19 ?l19 ?c19 ?k19 ?a20 ?l20 ?c20 ?k20 ?a21 ?l21 ?c21 ?k21 ?a22 ?l22 ?c22 ?k22 ?a23 ?l23 ?c23 ?k23 ?a24 ?l24 ?c24 ?k24 ?a25 ?l25 ?c25 ?k25 ?y_abs ?y_isinstance ?y_int ?y_bool ?y_tuple ?y_len ?y_str ?y_zip ?y_min ?y_repr ?y_range ?y_max
    (case a0 => k_is)
    (case l0 => k_is)
    (case c0 => k_is)
    (case k0 => k_is)
    (case a1 => k_is)
    (case l1 => k_is)
    (case c1 => k_is)
    (case k1 => k_is)
    (case a2 => k_is)
    (case l2 => k_is)
    (case c2 => k_is)
    (case k2 => k_is)
    (case a3 => k_is)
    (case l3 => k_is)
    (case c3 => k_is)
    (case k3 => k_is)
    (case a4 => k_is)
    (case l4 => k_is)
    (case c4 => k_is)
    (case k4 => k_is)
    (case a5 => k_is)
    (case l5 => k_is)
    (case c5 => k_is)
    (case k5 => k_is)
    (case a6 => k_is)
    (case l6 => k_is)
    (case c6 => k_is)
    (case k6 => k_is)
    (case a7 => k_is)
    (case l7 => k_is)
    (case c7 => k_is)
    (case k7 => k_is)
    (case a8 => k_is)
    (case l8 => k_is)
    (case c8 => k_is)
    (case k8 => k_is)
    (case a9 => k_is)
    (case l9 => k_is)
    (case c9 => k_is)
    (case k9 => k_is)
    (case a10 => k_is)
    (case l10 => k_is)
    (case c10 => k_is)
    (case k10 => k_is)
    (case a11 => k_is)
    (case l11 => k_is)
    (case c11 => k_is)
    (case k11 => k_is)
    (case a12 => k_is)
    (case l12 => k_is)
    (case c12 => k_is)
    (case k12 => k_is)
    (case a13 => k_is)
    (case l13 => k_is)
    (case c13 => k_is)
    (case k13 => k_is)
    (case a14 => k_is)
    (case l14 => k_is)
    (case c14 => k_is)
    (case k14 => k_is)
    (case a15 => k_is)
    (case l15 => k_is)
    (case c15 => k_is)
    (case k15 => k_is)
    (case a16 => k_is)
    (case l16 => k_is)
    (case c16 => k_is)
    (case k16 => k_is)
    (case a17 => k_is)
    (case l17 => k_is)
    (case c17 => k_is)
    (case k17 => k_is)
    (case a18 => k_is)
    (case l18 => k_is)
    (case c18 => k_is)
    (case k18 => k_is)
    (case a19 => k_is)
    (case l19 => k_is)
    (case c19 => k_is)
    (case k19 => k_is)
    (case a20 => k_is)
    (case l20 => k_is)
    (case c20 => k_is)
    (case k20 => k_is)
    (case a21 => k_is)
    (case l21 => k_is)
    (case c21 => k_is)
    (case k21 => k_is)
    (case a22 => k_is)
    (case l22 => k_is)
    (case c22 => k_is)
    (case k22 => k_is)
    (case a23 => k_is)
    (case l23 => k_is)
    (case c23 => k_is)
    (case k23 => k_is)
    (case a24 => k_is)
    (case l24 => k_is)
    (case c24 => k_is)
    (case k24 => k_is)
    (case a25 => k_is)
    (case l25 => k_is)
    (case c25 => k_is)
    (case k25 => k_is)
    (case y_abs => k_is)
    (case y_isinstance => k_is)
    (case y_int => k_is)
    (case y_bool => k_is)
    (case y_tuple => k_is)
    (case y_len => k_is)
    (case y_str => k_is)
    (case y_zip => k_is)
    (case y_min => k_is)
    (case y_repr => k_is)
    (case y_range => k_is)
    (case y_max => k_is)
