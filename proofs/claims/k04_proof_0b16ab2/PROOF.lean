import PyProof.Rows.All
import Wide.All
import OpenK.AllK
import Wide.FinOn
import PyProof.EqAt
import PyProof.EqKinds
import PyProof.TupleCall
import KE.KNest
import HandS.Base
import HandS.Call
import HandS.List
import HandS.Comp
import HandS.AnyAll
import HandS.Lambda
import HandS.GenList
import PyProof.ReprRoads
import HandS.ForMost
import HandS.Wide
import HandS.IsInst
import HandS.Words
import HandS.EndBits
import HandS.EndTab
import HandS.Defaults
import HandS.Style
import HandS.Conv
import HandS.TupAny
import HandS.Sort
import HandS.Strs
import HandS.SetFor
import PyProof.NeData
import HandS.SetBool
import HandS.TupSets
import PyProof.Rows.IntBool
import PyProof.CallStr
import PyProof.FitsInt
import PyProof.ReprLen
import HandS.Iter
import HandS.Deep
import HandS.Exc
import HandS.ExcOwn
import HandS.WordsExc
import KE.KExcIs
import HandS.Text
import HandS.Flow
import HandS.FStr
import HandS.RaiseMore
import HandS.ExcField
import HandS.ExcInit
import HandS.ExcValue
import HandS.DictTup
import PySem.Challenge.RW_skyprices_k04_no_days_and_no_plans
import HandS.SortInts
import KE.KStateDown
import HandS.Head0
import HandS.Head1
import HandS.Head2
import HandS.HeadEnd
import HandS.HeadHook1
import HandS.HeadHook2
import HandS.HeadHook3
import HandS.HeadHook4
import HandS.HeadWalk
set_option Elab.async false
set_option linter.all false
set_option maxRecDepth 100000
set_option maxHeartbeats 2000000
/-! Gx: a generator expression over anything that PI serves, its element any expression of the layer (own calls too), drawn by all and any. -/
namespace GX
open PySem PySem.Spec PyProof.Rows L2 GxR GenW

/-- where the element runs -/
abbrev gA (A : Around) (cenv : Env) : Around := A.in1.in1.deeper cenv
abbrev gX (X : Cx) (s : Shared) (H : Hp) (cenv : Env) (fp : List Addr) (pn : List (Addr × Obj)) : Cx :=
  { X with A := gA X.A cenv, s_0 := s, H_0 := H, env := cenv, outer := X.stack, stack := cenv :: X.stack, ex := fp, fn := fun _ => false, pn := pn, xe := fun _ _ => False }
theorem over_loop0 {A : Around} {elt : Expr} {gs : List Comprehension} {scope : Scope} {pos : Pos} {it acc : Value} {cenv : Env} :
    A.over (.compLoop (.GeneratorExp elt gs scope pos) 0 it acc cenv) [] = A.deeper cenv := by
  first
    | rfl
    | (obtain ⟨hd, d, fr, gs, u⟩ := A; simp [Around.over, Around.deeper, marksOver, frameCount, unitsOf, envsOf, guardsOf, pushEnvs, pushGuards, Code.envs, Code.env?, Code.isFrame, Code.guards, Code.isGuard, Code.weight, Code.frames, Code.isCreation, Code.isCaller, Code.cUnits])
theorem over_start0 {A : Around} {elt : Expr} {gs : List Comprehension} {scope : Scope} {pos : Pos} {it acc : Value} {cenv : Env} :
    A.over (.compStart (.GeneratorExp elt gs scope pos) 0 it acc cenv) [] = A.deeper cenv := by
  first
    | rfl
    | (obtain ⟨hd, d, fr, gs, u⟩ := A; simp [Around.over, Around.deeper, marksOver, frameCount, unitsOf, envsOf, guardsOf, pushEnvs, pushGuards, Code.envs, Code.env?, Code.isFrame, Code.guards, Code.isGuard, Code.weight, Code.frames, Code.isCreation, Code.isCaller, Code.cUnits])
theorem room_gen {k : Nat} {A : Around} (r : Room (k + 1) A) (env : Env) : Room k (gA A env) :=
  ⟨r.hd, by have := r.dp; show A.depth + 1 + 3 * k + 5 < _; omega, by have := r.un; show A.units + 1 + 1 + 3 + 16 * k + 200 < _; omega⟩

/-- the generator expression's own scope, over the def's -/
structure GOk (N : List Str) (sc scope : Scope) (own : List (Str × Nat)) : Prop where
  blk : BlkOk N sc scope own
  co : scope.isCoroutine = false
  cell : ∀ y ∈ scope.names, y.2 ≠ .cell
  dot : scope.names.lookup (".0" : Str) = some NameKind.local
def gokC (N : List Str) (sc scope : Scope) (own : List (Str × Nat)) : Bool :=
  blkC N sc scope own && (!scope.isCoroutine && (scope.names.all (fun y => match y.2 with | .cell => false | _ => true) && (match scope.names.lookup (".0" : Str) with | some .local => true | _ => false)))
theorem gok_by {N : List Str} {sc scope : Scope} {own : List (Str × Nat)} (h : gokC N sc scope own = true) : GOk N sc scope own := by
  unfold gokC at h
  obtain ⟨h1, h2⟩ := Bool.and_eq_true_iff.mp h
  obtain ⟨h3, h4⟩ := Bool.and_eq_true_iff.mp h2
  obtain ⟨h5, h6⟩ := Bool.and_eq_true_iff.mp h4
  refine ⟨blkOk_by h1, by simpa using h3, fun y hy e => ?_, ?_⟩
  · have q := List.all_eq_true.mp h5 y hy
    rw [e] at q
    cases q
  · revert h6
    cases e : scope.names.lookup (".0" : Str) with
    | none => intro h6; cases h6
    | some k => cases k <;> intro h6 <;> first | rfl | cases h6

theorem cenv_cells {scope : Scope} {cl : List (Str × Addr)} {C : Addr} {code : Value} {bi : Addr} {env : Env} : (genEnv scope cl C code bi env).cells = cl := rfl

section
variable {X : Cx} {pins : List (Addr × Obj)} {σ : L2.St} {H : Hp} {s : Shared}
theorem Inv.keepS {s' : Shared} (I : Inv X pins σ H s) (os : s'.os = s.os) (k : ∀ b o, s.heap.get? b = some o → s'.heap.get? b = some o) (hg : AllBare s'.gens) : Inv X pins σ H s' :=
  I.call' (ch := []) os (Un.kept k) (I.hok.kept k) hg fun b hb => absurd hb (by simp)

/-- the generator's frame as it begins -/
theorem gx_start {scope : Scope} {own : List (Str × Nat)} {fp : List Addr} {code : Value} {a : Addr} {go : Obj} {s5 : Shared} (I : Inv X pins σ H s) (ok : GOk X.N X.env.scope scope own) (hN : X.N.Nodup) (hh : X.A.handled = none)
    (hfp : ∀ b ∈ fp, FpOk X pins H b ∧ b < s.heap.objs.size) (os : s5.os = s.os) (hb : AllBare s5.gens) (k : ∀ b o, s.heap.get? b = some o → s5.heap.get? b = some o)
    (hn : ∃ m, s5.heap.Ns s.heap.objs.size m) (ha : s.heap.objs.size < a) (hga : s5.heap.get? a = some go) (hgd : ∀ v, go.data ≠ .cell v) :
    Inv (gX X s H (genEnv scope (cloFrom X.env.cells scope.names []) s.heap.objs.size code builtinsNs X.env) fp [(a, go)]) [] (wipe σ (own.map (·.2))) H s5 := by
  have hfree : ∀ y ∈ scope.names, y.2 = .free → ∃ c, X.env.cells.lookup y.1 = some c := fun y hy e => by
    rcases ok.blk.free y hy e with k | k
    · exact I.ok.has _ (.inl k)
    · exact I.ok.has _ (.inr k)
  have cm : ∀ {y c}, (cloFrom X.env.cells scope.names []).lookup y = some c → X.env.cells.lookup y = some c ∧ c < s.heap.objs.size := fun {y c} e => by
    rcases cloFrom_mem (PySem.mem_of_lookup e) with hm | ⟨h1, rfl⟩
    · cases hm
    · obtain ⟨c, hc⟩ := hfree _ h1 rfl
      rw [hc]
      obtain ⟨w, z⟩ := I.cell _ _ hc
      exact ⟨rfl, z.lt⟩
  have look : ∀ {y}, scope.names.lookup y = some .free → ∃ c, (cloFrom X.env.cells scope.names []).lookup y = some c ∧ X.env.cells.lookup y = some c := fun {y} hl => by
    have hy : (y, NameKind.free) ∈ scope.names := PySem.mem_of_lookup hl
    obtain ⟨c', e'⟩ := mem_lookup (cloFrom_has (cells := X.env.cells) (acc := []) hy)
    exact ⟨c', e', (cm e').1⟩
  refine ⟨⟨I.ok.mod, ok.blk.kind, I.ok.glob, rfl, Nat.le_refl _, fun y z c e1 e2 => I.ok.inj y z c (cm e1).1 (cm e2).1, fun y hy => ?_, fun y c z _ => (by cases z), fun _ => hh, ?_, .inr ⟨rfl, rfl⟩, fun b hb => ⟨Nat.ne_of_lt (hfp b hb).2, fun y c e z => ?_⟩, I.bs, Nat.le_trans I.ok.bsz I.sz, fun b o e hb => ?_, fun b hb z => ?_, I.stack, I.stkFree⟩,
    os, hb, Un.kept k, ?_, fun y c e => ?_, ?_, fun y c e => ?_, fun p hp => ?_, I.hok.kept k, by rw [wipe_length]; exact I.len⟩
  · show ∃ c, (cloFrom X.env.cells scope.names []).lookup y = some c
    have hy : scope.names.lookup y = some .cell ∨ scope.names.lookup y = some .free := hy
    rcases hy with hy | hy
    · exact absurd rfl (ok.cell _ (PySem.mem_of_lookup hy))
    · obtain ⟨c, h1, _⟩ := look hy
      exact ⟨c, h1⟩
  · exact Around.frames_deeper I.ok.frames
  · have e : (cloFrom X.env.cells scope.names []).lookup y = some c := e
    exact (hfp b hb).1.2.2.2.2.1 y c (cm e).1 z
  · rcases (hfp b hb).1.2.2.2.1 with z | z
    · exact I.ok.noex b o e z
    · exact absurd (Nat.lt_of_lt_of_le (Heap.lt_size e) (Nat.le_trans I.ok.bsz z)) (Nat.lt_irrefl _)
  · rcases List.mem_cons.mp (I.stkSub b z) with z | z
    · exact (hfp b hb).1.2.1 z
    · exact (hfp b hb).1.2.2.1 z
  · obtain ⟨m, hn⟩ := hn
    refine ⟨m, hn, fun i y av e1 e2 e3 => ?_⟩
    obtain ⟨e2, hne⟩ := wipe_some e2
    have no : ¬ (scope.names.lookup y = some .local) := fun hh => by
      rcases ok.blk.own _ (PySem.mem_of_lookup hh) (.inl rfl) with e' | e'
      · obtain ⟨p, hp, hpy⟩ := List.mem_map.mp e'
        have e3 := ok.blk.ix p hp
        have : p.1 = y := hpy
        rw [this] at e3
        exact hne (List.mem_map.mpr ⟨p, hp, nodup_ix hN e3 e1⟩)
      · exact e' (List.mem_of_getElem? e1)
    have e3 : Vis scope y := e3
    have hfr : scope.names.lookup y = some .free := by
      rcases e3 with e3 | e3 | e3
      · exact absurd e3 no
      · exact absurd rfl (ok.cell _ (PySem.mem_of_lookup e3))
      · exact e3
    obtain ⟨m, hn, hl⟩ := I.loc
    have hvis : Vis X.env.scope y := (ok.blk.free _ (PySem.mem_of_lookup hfr) rfl).elim (fun k => .inr (.inl k)) (fun k => .inr (.inr k))
    obtain ⟨w, r, q⟩ := hl i y av e1 e2 hvis
    refine ⟨w, r, .inr ⟨.inr hfr, ?_⟩⟩
    obtain ⟨c, h1, h2⟩ := look hfr
    rcases q with ⟨k, _⟩ | ⟨_, c', e', z⟩
    · have k : X.env.scope.names.lookup y = some .local := k
      rcases ok.blk.free _ (PySem.mem_of_lookup hfr) rfl with k' | k' <;> rw [show X.env.scope.names.lookup y = _ from k'] at k <;> cases k
    · rw [h2] at e'; cases e'
      exact ⟨c, h1, z.keeps (by assumption)⟩
  · have e : (cloFrom X.env.cells scope.names []).lookup y = some c := e
    obtain ⟨w, z⟩ := I.cell y c (cm e).1
    exact ⟨w, z.keeps k⟩
  · exact I.hok.fresh (Nat.le_refl _)
  · have e : (cloFrom X.env.cells scope.names []).lookup y = some c := e
    exact I.freeC y c (cm e).1
  · have e : p = (a, go) := by simpa using hp
    subst e
    refine ⟨hga, I.hok.fresh (Nat.le_of_lt ha), Nat.ne_of_gt ha, fun z => ?_, hgd⟩
    rcases List.mem_cons.mp (I.stkSub a z) with z | z
    · have h1 := I.lt
      rw [← z] at h1
      exact absurd (Nat.lt_trans h1 ha) (Nat.lt_irrefl _)
    · exact I.nofs (Nat.le_of_lt ha) z
end

/-! ### the turns -/
section
variable {X : Cx} {s4 : Shared} {H4 : Hp} {cenv : Env} {fp : List Addr} {pn : List (Addr × Obj)} {σw : L2.St} {tg : Expr}
/-- the end: nothing more comes -/
def GRe (Xg : Cx) (σw : L2.St) (fp : List Addr) (Qe : Hp → Prop) : Shared → Prop := fun s => ∃ H, Inv Xg [] σw H s ∧ (∀ b ∈ fp, H b = none) ∧ Qe H
/-- y is handed out; N: what is to hold for the next draw -/
def GYe (Xg : Cx) (cons : V → Hp → Prop → Prop) : Protocol := fun _ _ v s kap => ∃ pins' σ' y H N, Inv Xg pins' σ' H s ∧ RelV y v ∧ cons y H N ∧
  ∀ s' : Shared, (∀ b o, s.heap.get? b = some o → s'.heap.get? b = some o) → s'.os = s.os → AllBare s'.gens → N → kap (.send .none) s'
/-- what is to be shown of the turns: W by the turn and a measure -/
def GTurns (J : It) (g : TG) (tt : TT) (te : TE) (vs : List Nat) (σ : L2.St) (W : Nat → Nat → Hp → Prop) (Qe : Hp → Prop) (cons : V → Hp → Prop → Prop) : Prop := ∀ i m H, W i m H →
  (J.stop i H ∧ Qe H) ∨ (J.go i H ∧ ∃ Nx : Hp → Prop, (∀ H', Nx H' → ∃ m', m' < m ∧ W (i + 1) m' H') ∧ ∀ x H', J.yld i H x H' → g x (wipe σ vs) H' fun σ2 H2 => wipe σ2 vs = wipe σ vs ∧ tt σ2 H2 fun b H3 =>
    if b = true then te σ2 H3 fun y H4 => cons y H4 (Nx H4) else Nx H3)
theorem gx_loop {elt iter : Expr} {ifs : List Expr} {scope : Scope} {pos : Pos} {it : Addr} {J : It} {tn : Nat → Heap → Prop} {g : TG} {tt : TT} {te : TE} {vs : List Nat} {σ : L2.St} {W : Nat → Nat → Hp → Prop} {Qe : Hp → Prop} {cons : V → Hp → Prop → Prop}
    (hc : X.calm = true) (hco : cenv.scope.isCoroutine = false) (T : Turn X.prog X.w X.K tg J fp it tn) (hg : PG (gX X s4 H4 cenv fp pn) tg g) (ht : PTs (gX X s4 H4 cenv fp pn) ifs tt) (he : PE (gX X s4 H4 cenv fp pn) elt te)
    (turn : GTurns J g tt te vs σ W Qe cons) (hpf : ∀ b ∈ fp, ∀ p ∈ pn, p.1 ≠ b) :
    ∀ (n m i : Nat) (s₀ s : Shared) (H : Hp), m < n → Inv (gX X s4 H4 cenv fp pn) [] (wipe σ vs) H s → tn i s.heap → (∀ b ∈ fp, H b = none) → W i m H →
      Seg (model X.prog X.w) X.A.in1.in1 (fun _ _ r s1 => r = .ok .next ∧ GRe (gX X s4 H4 cenv fp pn) (wipe σ vs) fp Qe s1) (GYe (gX X s4 H4 cenv fp pn) cons) n s₀
        (.compLoop (.GeneratorExp elt [⟨tg, iter, ifs, 0⟩] scope pos) 0 (.ref it) .none cenv)
        ((model X.prog X.w).den (.compLoop (.GeneratorExp elt [⟨tg, iter, ifs, 0⟩] scope pos) 0 (.ref it) .none cenv)) [] s := by
  have ov : X.A.in1.in1.over (.compLoop (.GeneratorExp elt [⟨tg, iter, ifs, 0⟩] scope pos) 0 (.ref it) .none cenv) [] = gA X.A cenv := over_loop0
  have stat : ∀ {σ' : L2.St} {H' : Hp} {s' : Shared}, Inv (gX X s4 H4 cenv fp pn) [] σ' H' s' → (∀ b ∈ fp, H' b = none) → ∀ b ∈ fp, FpOk (gX X s4 H4 cenv fp pn) [] H' b := fun {σ' H' s'} I' hn b hb =>
    ⟨hn b hb, (I'.ok.exf b hb).1, I'.ok.exfs b hb, .inl hb, fun x c e => (I'.ok.exf b hb).2 x c e, fun p hp' => hpf b hb p (by simpa using hp')⟩
  intro n
  induction n with
  | zero => intro m i s₀ s H hm; exact absurd hm (Nat.not_lt_zero _)
  | succ n ihn =>
    intro m
    induction m using Nat.strongRecOn with
    | ind m ihm =>
      intro i s₀ s H hm I st nf w
      show Seg _ X.A.in1.in1 _ _ _ s₀ _ ((compTurn (.GeneratorExp elt [⟨tg, iter, ifs, 0⟩] scope pos) 0 (.ref it) .none cenv).onRaise (leaving cenv)) [] s
      rw [compTurn_gen, Sem.onRaise_eq_wrap]
      refine seg_bind_wrap (wpAny_standAt ?_)
      refine seg_bind_wrap ?_
      rw [ov]
      rcases turn i m H w with ⟨stop, qe⟩ | ⟨go, Nx, hNx, step⟩
      · have td := T.done (gX X s4 H4 cenv fp pn) rfl rfl rfl hc i [] s _ H (fun _ _ => False) I (stat I nf) st stop
        refine thnF td fun r s6 ⟨hr, I6⟩ => ?_
        subst hr
        exact seg_end (.ok .next) ⟨rfl, H, I6, nf, qe⟩
      · have ti := T.item (gX X s4 H4 cenv fp pn) rfl rfl rfl hc i [] s _ H (fun _ _ => False) I (stat I nf) st go
        refine thnF ti fun r s6 ⟨u, hr, h6⟩ => ?_
        subst hr
        refine seg_bind_wrap ?_
        rw [ov]
        refine thnF h6 fun _ s7 ⟨x, H7, I7, r7, y7, st7, n7⟩ => ?_
        have I7' := I7.pinned (stat I7 n7) (T.obj _ _ st7)
        refine seg_bind_wrap ?_
        rw [ov]
        refine thnF (hg.run _ s7 _ H7 x u _ I7' r7 (step x H7 y7)) fun _ s8 ⟨σ8, H8, I8, hw8, q8⟩ => ?_
        refine seg_bind_wrap ?_
        rw [ov]
        refine thnF (ht.run _ s8 σ8 H8 _ I8 q8) fun b s9 ⟨H9, I9, q9⟩ => ?_
        -- the turn's end
        have fin : ∀ {s' : Shared} {H' : Hp}, Inv (gX X s4 H4 cenv fp pn) ([] ++ pinsAt fp s7.heap) σ8 H' s' → Nx H' → ∃ m', m' < m ∧ Inv (gX X s4 H4 cenv fp pn) [] (wipe σ vs) H' s' ∧ tn (i + 1) s'.heap ∧ (∀ b ∈ fp, H' b = none) ∧ W (i + 1) m' H' := fun {s' H'} I' nx => by
          obtain ⟨m', hm, w'⟩ := hNx H' nx
          have pin' : ∀ b ∈ fp, ∀ o, s7.heap.get? b = some o → s'.heap.get? b = some o ∧ H' b = none := fun b hb o e =>
            let z := I'.pin (b, o) (List.mem_append_right _ (List.mem_append_right _ (mem_pinsAt hb e)))
            ⟨z.1, z.2.1⟩
          have hl : (wipe σ vs).length = σ8.length := by rw [← hw8, wipe_length]
          refine ⟨m', hm, (I'.unpinned (pins := [])).weak hl (fun j v e => ?_), T.keep _ _ _ st7 fun b hb o e => (pin' b hb o e).1, fun b hb => ?_, w'⟩
          · rw [← hw8] at e
            exact (wipe_some e).1
          · obtain ⟨o, e, _⟩ := T.obj _ _ st7 b hb
            exact (pin' b hb o e).2
        cases b with
        | false =>
          simp only [Bool.false_eq_true, if_false] at q9 ⊢
          obtain ⟨m', hm', I', st', nf', w'⟩ := fin I9 q9
          exact seg_again rfl (ihm m' hm' (i + 1) s₀ s9 H9 (by omega) I' st' nf' w')
        | true =>
          simp only [if_true] at q9 ⊢
          have hy : ∀ v, yieldOut cenv v = yieldValue v := fun v => by simp only [yieldOut, hco, Bool.false_eq_true, if_false]
          simp only [hy]
          rw [Sem.bind_eq_wrap', Sem.bind_eq_wrap', Sem.wrap_wrap, Sem.wrap_wrap]
          refine seg_wrap ?_
          rw [ov]
          refine thnF (he.run _ s9 σ8 H9 _ I9 q9) fun z s10 ⟨yv, H10, I10, r10, c10⟩ => ?_
          refine seg_at (seg_yield rfl rfl rfl ⟨_, σ8, yv, H10, Nx H10, I10, r10, c10, fun s' k os hb nx => ?_⟩)
          obtain ⟨m', hm', I', st', nf', w'⟩ := fin (Inv.keepS I10 os k hb) nx
          exact seg_again rfl (ihn m' (i + 1) s' s' H10 (by omega) I' st' nf' w')
theorem gx_begin {elt iter : Expr} {ifs : List Expr} {scope : Scope} {pos : Pos} {it : Addr} {J : It} {tn : Nat → Heap → Prop} {g : TG} {tt : TT} {te : TE} {vs : List Nat} {σ : L2.St} {W : Nat → Nat → Hp → Prop} {Qe : Hp → Prop} {cons : V → Hp → Prop → Prop}
    (hc : X.calm = true) (hco : cenv.scope.isCoroutine = false) (T : Turn X.prog X.w X.K tg J fp it tn) (hg : PG (gX X s4 H4 cenv fp pn) tg g) (ht : PTs (gX X s4 H4 cenv fp pn) ifs tt) (he : PE (gX X s4 H4 cenv fp pn) elt te)
    (turn : GTurns J g tt te vs σ W Qe cons) (hpf : ∀ b ∈ fp, ∀ p ∈ pn, p.1 ≠ b) (n m : Nat) (s₀ s : Shared) (H : Hp) (hm : m < n) (I : Inv (gX X s4 H4 cenv fp pn) [] (wipe σ vs) H s) (st : tn 0 s.heap) (nf : ∀ b ∈ fp, H b = none) (w : W 0 m H) :
      Seg (model X.prog X.w) X.A.in1.in1 (fun _ _ r s1 => r = .ok .next ∧ GRe (gX X s4 H4 cenv fp pn) (wipe σ vs) fp Qe s1) (GYe (gX X s4 H4 cenv fp pn) cons) n s₀
        (.compStart (.GeneratorExp elt [⟨tg, iter, ifs, 0⟩] scope pos) 0 (.ref it) .none cenv)
        ((model X.prog X.w).den (.compStart (.GeneratorExp elt [⟨tg, iter, ifs, 0⟩] scope pos) 0 (.ref it) .none cenv)) [] s := by
  have loop := gx_loop (iter := iter) (scope := scope) (pos := pos) hc hco T hg ht he turn hpf n m 0 s₀ s H hm I st nf w
  show Seg _ X.A.in1.in1 _ _ _ s₀ _ ((compStart (.GeneratorExp elt [⟨tg, iter, ifs, 0⟩] scope pos) 0 (.ref it) .none cenv).onRaise (leaving cenv)) [] s
  unfold compStart
  rw [Sem.onRaise_eq_wrap]
  show Seg _ X.A.in1.in1 _ _ _ s₀ _ ((ask >>= _).wrap _ _ _ _) [] s
  refine seg_bind_wrap (wpAny_askSetting ?_)
  split
  · exact seg_again rfl loop
  · first
      | exact seg_bind_wrap (wpAny_rule (seg_bind_wrap (wpAny_standAt (seg_bind_wrap (T.self _ 0 s _ _ st (seg_again rfl loop))))))
      | (refine seg_bind_wrap (wpAny_rule ?_); show Seg _ X.A.in1.in1 _ _ _ s₀ _ ((standAt iter.pos >>= _).wrap _ _ _ _) [] s; exact seg_bind_wrap (wpAny_standAt (seg_bind_wrap (T.self _ 0 s _ _ st (seg_again rfl loop)))))

/-- the generator stands ready: drawn at X.A's third level -/
def GReady (X : Cx) (Xg : Cx) (σw : L2.St) (fp : List Addr) (Qe : Hp → Prop) (cons : V → Hp → Prop → Prop) (a : Addr) (g n : Nat) (s : Shared) : Prop :=
  s.heap.IsGen a g ∧ s.heap.NoLimit ∧ ∃ gs, s.gens[g]? = some gs ∧ gs.Goes (model X.prog X.w) X.A.in1.in1 (fun _ _ r s1 => r = .ok .next ∧ GRe Xg σw fp Qe s1) (GYe Xg cons) n (.send .none) (s.setGen g .running)
/-- the generator's own object is pinned -/
def GPin (Xg : Cx) (a : Addr) (g : Nat) : Prop := ∃ (go : Obj) (nm qn : Value), (a, go) ∈ Xg.pn ∧ go.cls = .type "generator" ∧ go.data = .fields #[.int g 0, nm, qn] ∧ go.slots = #[]
theorem GPin.is {Xg : Cx} {a : Addr} {g : Nat} (h : GPin Xg a g) {pins : List (Addr × Obj)} {σ : L2.St} {H : Hp} {s : Shared} (I : Inv Xg pins σ H s) : s.heap.IsGen a g := by
  obtain ⟨go, nm, qn, hm, h1, h2, h3⟩ := h
  exact ⟨go, nm, qn, (I.pin (a, go) (List.mem_append_left _ hm)).1, h1, h2, h3⟩
/-- one draw -/
theorem gx_next {Xg : Cx} {fp : List Addr} {Qe : Hp → Prop} {cons : V → Hp → Prop → Prop} {a : Addr} {g n : Nat} {s : Shared} {Q : Option Value → Shared → Prop} {E : Value → Shared → Prop} (hr : Room 1 X.A) (hp : GPin Xg a g)
    (h : GReady X Xg σw fp Qe cons a g n s)
    (hend : ∀ H s', Inv Xg [] σw H s' → (∀ b ∈ fp, H b = none) → Qe H → Q none s')
    (hitem : ∀ (pins' : List (Addr × Obj)) (σ' : L2.St) (y : V) (H : Hp) (N : Prop) (v : Value) (s' : Shared), Inv Xg pins' σ' H s' → RelV y v → cons y H N → (N → ∃ k, n = k + 1 ∧ GReady X Xg σw fp Qe cons a g k s') → Q (some v) s') :
    wpAny (model X.prog X.w) X.A.in1 (pyNext (.ref a)) Q E s := by
  obtain ⟨hg, hl, gs, hgs, hgo⟩ := h
  have hgl : g < s.gens.size := (Array.getElem?_eq_some_iff.mp hgs).1
  refine wpAny_gsz (n := g + 1) hgl (wpAny_pyNext_genexpQ (A := X.A.in1) (P := fun _ _ s1 => GRe Xg σw fp Qe s1) hr.hd hl hr.depth hg hgs hgo (fun v s₁ gs' hb hv => ?_) (fun s₁ hpe h' hk => ?_))
  · intro hsz
    obtain ⟨pins', σ', y, H, N, I, ry, c, kap⟩ := hv
    have hsz1 : g < s₁.gens.size := by
      have q : (s₁.setGen g gs').gens.size = s₁.gens.size := setGen_size _ _ _
      have hsz' : g + 1 ≤ (s₁.setGen g gs').gens.size := hsz
      omega
    have hbare : AllBare (s₁.setGen g gs').gens := allBare_setGen I.bare hb
    have I2 : Inv Xg pins' σ' H (s₁.setGen g gs') := Inv.keepS I rfl (fun _ _ e => e) hbare
    refine hitem pins' σ' y H N v _ I2 ry c fun hN => ?_
    cases n with
    | zero => exact False.elim (kap s₁ (fun _ _ e => e) rfl I.bare hN)
    | succ k =>
      refine ⟨k, rfl, hp.is I2, I2.nolimit, gs', setGen_at hsz1, ?_⟩
      exact kap _ (fun _ _ e => e) rfl (allBare_setGen hbare rfl) hN
  · intro _
    obtain ⟨H, I, nf, qe⟩ := hpe
    exact hend H _ (Inv.keepS I rfl hk (allBare_setGen I.bare rfl)) nf qe
end

/-! ### all, any -/
section
variable {X : Cx}
def consAll (Q : Bool → Hp → Prop) : V → Hp → Prop → Prop := fun y H N => ∃ b, y = .bl b ∧ if b = true then N else Q false H
def consAny (Q : Bool → Hp → Prop) : V → Hp → Prop → Prop := fun y H N => ∃ b, y = .bl b ∧ if b = true then Q true H else N
theorem all_loop {Xg : Cx} {fp : List Addr} {Q : Bool → Hp → Prop} {a : Addr} {g : Nat} {σw : L2.St} {R : Result → Shared → Prop} (hr : Room 1 X.A) (hp : GPin Xg a g)
    (hR : ∀ b pins' σ' H s', Inv Xg pins' σ' H s' → Q b H → R (.ok (.ret (.bool b))) s') :
    ∀ (n : Nat) (s : Shared), GReady X Xg σw fp (Q true) (consAll Q) a g n s → codeAny (model X.prog X.w) X.A (.builtin "all.loop" ⟨[.ref a], []⟩) R s := by
  intro n
  induction n with
  | zero =>
    intro s h
    refine codeAny_builtin F.entry_all_loop ?_
    rw [Around.under_plainId F.plain_all_loop _]
    show wpAny _ X.A.in1 (pyNext (.ref a) >>= _) _ _ s
    refine wpAny_bind (gx_next hr hp h (fun H s' I nf qe => ?_) fun pins' σ' y H N v s' I ry c nx => ?_)
    · exact wpAny_bind (wpAny_rule (wpAny_pure (hR true _ _ H _ I qe)))
    · obtain ⟨b, rfl, c⟩ := c
      obtain rfl : v = Value.bool b := ry
      refine wpAny_bind (wpAny_holding (wpAny_truthy_bool ?_))
      refine wpAny_bind (wpAny_letGo ?_)
      cases b with
      | true =>
        simp only [if_true] at c ⊢
        obtain ⟨k, e, _⟩ := nx c
        cases e
      | false =>
        simp only [Bool.false_eq_true, if_false] at c ⊢
        exact wpAny_bind (wpAny_rule (wpAny_pure (hR false _ _ H _ I c)))
  | succ n ih =>
    intro s h
    refine codeAny_builtin F.entry_all_loop ?_
    rw [Around.under_plainId F.plain_all_loop _]
    show wpAny _ X.A.in1 (pyNext (.ref a) >>= _) _ _ s
    refine wpAny_bind (gx_next hr hp h (fun H s' I nf qe => ?_) fun pins' σ' y H N v s' I ry c nx => ?_)
    · exact wpAny_bind (wpAny_rule (wpAny_pure (hR true _ _ H _ I qe)))
    · obtain ⟨b, rfl, c⟩ := c
      obtain rfl : v = Value.bool b := ry
      refine wpAny_bind (wpAny_holding (wpAny_truthy_bool ?_))
      refine wpAny_bind (wpAny_letGo ?_)
      cases b with
      | true =>
        simp only [if_true] at c ⊢
        obtain ⟨k, e, h'⟩ := nx c
        cases e
        exact wpAny_pure ⟨plainId_quiet F.plain_all_loop _, ih s' h'⟩
      | false =>
        simp only [Bool.false_eq_true, if_false] at c ⊢
        exact wpAny_bind (wpAny_rule (wpAny_pure (hR false _ _ H _ I c)))
theorem any_loop {Xg : Cx} {fp : List Addr} {Q : Bool → Hp → Prop} {a : Addr} {g : Nat} {σw : L2.St} {R : Result → Shared → Prop} (hr : Room 1 X.A) (hp : GPin Xg a g)
    (hR : ∀ b pins' σ' H s', Inv Xg pins' σ' H s' → Q b H → R (.ok (.ret (.bool b))) s') :
    ∀ (n : Nat) (s : Shared), GReady X Xg σw fp (Q false) (consAny Q) a g n s → codeAny (model X.prog X.w) X.A (.builtin "any.loop" ⟨[.ref a], []⟩) R s := by
  intro n
  induction n with
  | zero =>
    intro s h
    refine codeAny_builtin F.entry_any_loop ?_
    rw [Around.under_plainId F.plain_any_loop _]
    show wpAny _ X.A.in1 (pyNext (.ref a) >>= _) _ _ s
    refine wpAny_bind (gx_next hr hp h (fun H s' I nf qe => ?_) fun pins' σ' y H N v s' I ry c nx => ?_)
    · exact wpAny_bind (wpAny_rule (wpAny_pure (hR false _ _ H _ I qe)))
    · obtain ⟨b, rfl, c⟩ := c
      obtain rfl : v = Value.bool b := ry
      refine wpAny_bind (wpAny_holding (wpAny_truthy_bool ?_))
      refine wpAny_bind (wpAny_letGo ?_)
      cases b with
      | false =>
        simp only [Bool.false_eq_true, if_false] at c ⊢
        obtain ⟨k, e, _⟩ := nx c
        cases e
      | true =>
        simp only [if_true] at c ⊢
        exact wpAny_bind (wpAny_rule (wpAny_pure (hR true _ _ H _ I c)))
  | succ n ih =>
    intro s h
    refine codeAny_builtin F.entry_any_loop ?_
    rw [Around.under_plainId F.plain_any_loop _]
    show wpAny _ X.A.in1 (pyNext (.ref a) >>= _) _ _ s
    refine wpAny_bind (gx_next hr hp h (fun H s' I nf qe => ?_) fun pins' σ' y H N v s' I ry c nx => ?_)
    · exact wpAny_bind (wpAny_rule (wpAny_pure (hR false _ _ H _ I qe)))
    · obtain ⟨b, rfl, c⟩ := c
      obtain rfl : v = Value.bool b := ry
      refine wpAny_bind (wpAny_holding (wpAny_truthy_bool ?_))
      refine wpAny_bind (wpAny_letGo ?_)
      cases b with
      | false =>
        simp only [Bool.false_eq_true, if_false] at c ⊢
        obtain ⟨k, e, h'⟩ := nx c
        cases e
        exact wpAny_pure ⟨plainId_quiet F.plain_any_loop _, ih s' h'⟩
      | true =>
        simp only [if_true] at c ⊢
        exact wpAny_bind (wpAny_rule (wpAny_pure (hR true _ _ H _ I c)))
end

/-! ### the making -/
section
variable {X : Cx} {pins : List (Addr × Obj)} {σ : L2.St} {H : Hp} {s : Shared}
/-- the generator expression's frame, whatever it captures -/
abbrev gE (X : Cx) (scope : Scope) (cl : List (Str × Addr)) (C : Addr) (code : Value) : Env := genEnv scope cl C code builtinsNs X.env
theorem gx_make {c P : Addr} {elt tg iter : Expr} {ifs : List Expr} {scope : Scope} {own : List (Str × Nat)} {gpos : Pos} {wi : TI} {g : TG} {tt : TT} {te : TE} {Qe : Hp → Prop} {cons : V → Hp → Prop → Prop} {Q' : Value → Shared → Prop}
    (hr : Room 1 X.A) (hc : X.calm = true) (hN : X.N.Nodup) (TB : LamX.TabB X.base X.mg c P) (hcode : X.env.code = .ref c) (ok : GOk X.N X.env.scope scope own) (hi : PI X tg iter wi)
    (hg : ∀ (s : Shared) (H : Hp) (C : Addr) (cl : List (Str × Addr)) (code : Value) (fp : List Addr) (pn : List (Addr × Obj)), PG (gX X s H (gE X scope cl C code) fp pn) tg g)
    (ht : ∀ (s : Shared) (H : Hp) (C : Addr) (cl : List (Str × Addr)) (code : Value) (fp : List Addr) (pn : List (Addr × Obj)), PTs (gX X s H (gE X scope cl C code) fp pn) ifs tt)
    (he : ∀ (s : Shared) (H : Hp) (C : Addr) (cl : List (Str × Addr)) (code : Value) (fp : List Addr) (pn : List (Addr × Obj)), PE (gX X s H (gE X scope cl C code) fp pn) elt te)
    (hs : ∀ v, genFold iter X.env v = pure v) (I : Inv X pins σ H s)
    (h : wi σ H fun J H1 => TabG H1 P ∧ ∀ H2, Tabbed P H1 H2 → ∃ W : Nat → Nat → Hp → Prop, (∃ m, W 0 m H2) ∧ GTurns J g tt te (own.map (·.2)) σ W Qe cons)
    (hQ : ∀ Xg fp a g n s5, GPin Xg a g → GReady X Xg (wipe σ (own.map (·.2))) fp Qe cons a g n s5 → (∀ pins' σ' H' s', Inv Xg pins' σ' H' s' → Inv X pins σ H' s') → Q' (.ref a) s5) :
    wpAny (model X.prog X.w) X.A (eval (.GeneratorExp elt [⟨tg, iter, ifs, 0⟩] scope gpos) X.env) Q' X.xe s := by
  have hfree : ∀ y ∈ scope.names, y.2 = .free → ∃ c, X.env.cells.lookup y.1 = some c := fun y hy e => by
    rcases ok.blk.free y hy e with k | k
    · exact I.ok.has _ (.inl k)
    · exact I.ok.has _ (.inr k)
  refine wpAny_GeneratorExp_make ok.co (closure_ok hfree) ok.cell ok.dot ok.blk.kind hr.depth ?_ hs
  refine thn (hi.run pins s σ H _ I h) fun xv s1 hx => thn hx fun itv s2 h2 => ?_
  obtain ⟨it, fp, tn, J, H2, rfl, I2, T, st2, f2, ⟨ps, hP, htr⟩, q2⟩ := h2
  have hPs : s2.heap.get? P = some { cls := .none, data := .fields ps } := I2.hok P _ hP
  have hPlt : P < s2.heap.objs.size := Heap.lt_size hPs
  have cd : PySem.W.CodeHd s2.heap c P := TB.code.keeps fun b u e => I2.bk b u e
  have lim2 : s2.heap.NoLimit := I2.nolimit
  have sz : ∀ b ∈ fp, b < s2.heap.objs.size := fun b hb => by
    obtain ⟨o, e, _⟩ := T.obj _ _ st2 b hb
    exact Heap.lt_size e
  have Pfp : ∀ b ∈ fp, b ≠ P := fun b hb e => by
    have z := (f2 b hb).1
    rw [e, hP] at z
    cases z
  have cont : ∀ (code : Value) (h3 : Heap) (tk : Nat) (ps' : Array Value), Heap.ExtBut P s2.heap h3 → s2.heap.objs.size ≤ h3.objs.size → h3.get? P = some { cls := .none, data := .fields ps' } → (∃ more, ps' = ps ++ more) → TriplesOk ps'.toList →
      wpAny (model X.prog X.w) X.A (builtinsFor X.env.globals X.env.builtins) (fun bi s₄ =>
        ∀ h', h'.Ns s₄.heap.objs.size (fun y => if y = ".0" then some (Value.ref it) else none) → Heap.SameBut s₄.heap.objs.size (s₄.heap.push { cls := .type "frame", data := .dict #[] }) h' →
          Q' (.ref h'.objs.size) { s₄ with
            gens := s₄.gens.push (.fresh (.compStart (.GeneratorExp elt [⟨tg, iter, ifs, 0⟩] scope gpos) 0 (.ref it) .none (genEnv scope (cloFrom X.env.cells scope.names []) s₄.heap.objs.size code bi X.env))),
            toks := s₄.toks + 1 + 1 + 1,
            heap := h'.push { cls := .type "generator", data := .fields #[.int s₄.gens.size 0, .str "<genexpr>" (s₄.toks + 1), .str (X.env.qual ++ "<genexpr>") (s₄.toks + 1 + 1)] } }) X.xe { s2 with heap := h3, toks := tk } := by
    intro code h3 tk ps' hx hsz hP3 hmore ht3
    obtain ⟨more, rfl⟩ := hmore
    obtain ⟨bm, ob, e1, e2, e3, e4, e5, e6, e7, e8⟩ := TB.bm
    refine wpAny_builtinsFor (m := X.mg) (by rw [I2.ok.glob]; exact (I2.mod.glob.keeps I2.bk).extBut hx TB.gP) e1 e2 (hx _ _ e4 (I2.bk _ _ e5)) e6 e7 e8 ?_
    intro h' hn' hs'
    -- the def's state behind the code
    have I4 : Inv X pins σ (upd H2 P (.tbl (ps ++ more))) { s2 with heap := h3, toks := tk } := inv_tab (g' := s2.gens) (d' := s2.drawn) I2 hP hx hP3 I2.bare
    obtain ⟨W, ⟨m0, w0⟩, turn⟩ := q2 _ (⟨⟨ps ++ more, upd_same, ht3⟩, fun b hb => upd_ne hb⟩ : Tabbed P H2 (upd H2 P (.tbl (ps ++ more))))
    generalize hH4 : upd H2 P (.tbl (ps ++ more)) = H4 at I4 w0
    have nf4 : ∀ b ∈ fp, H4 b = none := fun b hb => by rw [← hH4, upd_ne (Pfp b hb)]; exact (f2 b hb).1
    have f4 : ∀ b ∈ fp, FpOk X pins H4 b ∧ b < ({ s2 with heap := h3, toks := tk } : Shared).heap.objs.size := fun b hb => ⟨⟨nf4 b hb, (f2 b hb).2⟩, Nat.lt_of_lt_of_le (sz b hb) hsz⟩
    have st4 : tn 0 h3 := T.keep _ _ _ st2 fun b hb o e => hx b o (Pfp b hb) e
    have hsz' : h'.objs.size = h3.objs.size + 1 := by rw [hs'.1, Heap.size_push]
    have keep' : ∀ b o, h3.get? b = some o → h'.get? b = some o := fun b o e => hs'.extBut b o (Nat.ne_of_lt (Heap.lt_size e)) (Heap.get?_push_of_some _ e)
    generalize hgo : ({ cls := .type "generator", data := .fields #[.int ({ s2 with heap := h3, toks := tk } : Shared).gens.size 0, .str "<genexpr>" (({ s2 with heap := h3, toks := tk } : Shared).toks + 1), .str (X.env.qual ++ "<genexpr>") (({ s2 with heap := h3, toks := tk } : Shared).toks + 1 + 1)] } : Obj) = go
    have keep5 : ∀ b o, h3.get? b = some o → (h'.push go).get? b = some o := fun b o e => Heap.get?_push_of_some _ (keep' b o e)
    have hga : (h'.push go).get? h'.objs.size = some go := Heap.get?_push_size _ (by rw [← hgo]; rfl)
    have hgd : ∀ v, go.data ≠ .cell v := fun v z => by rw [← hgo] at z; cases z
    have apart : ∀ b ∈ fp, h'.objs.size ≠ b := fun b hb e => by
      have h1 : b < h3.objs.size := (f4 b hb).2
      have h2 : b < h'.objs.size := by rw [hsz']; exact Nat.lt_succ_of_lt h1
      rw [e] at h2
      exact Nat.lt_irrefl _ h2
    have start : ∀ s5 : Shared, s5.os = s2.os → AllBare s5.gens → (∀ b o, (h'.push go).get? b = some o → s5.heap.get? b = some o) →
        Inv (gX X { s2 with heap := h3, toks := tk } H4 (gE X scope (cloFrom X.env.cells scope.names []) h3.objs.size code) fp [(h'.objs.size, go)]) [] (wipe σ (own.map (·.2))) H4 s5 := fun s5 os hb k =>
      gx_start I4 ok hN hr.hd f4 os hb (fun b o e => k b o (keep5 b o e)) ⟨_, (hn'.push go).keeps k⟩ (by show h3.objs.size < h'.objs.size; omega) (k _ _ hga) hgd
    refine hQ (gX X { s2 with heap := h3, toks := tk } H4 (gE X scope (cloFrom X.env.cells scope.names []) h3.objs.size code) fp [(h'.objs.size, go)]) fp h'.objs.size s2.gens.size (m0 + 1) _ ⟨go, _, _, by simp, by rw [← hgo], by rw [← hgo], by rw [← hgo]⟩ ?_ fun pins' σ' H' s' I' => ?_
    · refine ⟨⟨go, _, _, hga, by rw [← hgo], by rw [← hgo], by rw [← hgo]⟩, ?_, _, Array.getElem?_push_size .., rfl, ?_⟩
      · exact (lim2.extBut hx (fun e => by
          obtain ⟨_, hns, _⟩ := lim2
          obtain ⟨o', es, ep, ho, hd, _⟩ := hns
          rw [e, hPs] at ho
          cases ho
          cases hd)).keeps keep5
      · refine gx_begin hc ok.co T (hg _ _ _ _ _ _ _) (ht _ _ _ _ _ _ _) (he _ _ _ _ _ _ _) turn (fun b hb p hp => ?_) (m0 + 1) m0 _ _ H4 (Nat.lt_succ_self _) (start _ rfl (allBare_setGen (AllBare.push I2.bare rfl) rfl) fun _ _ e => e) ?_ nf4 w0
        · have e : p = (h'.objs.size, go) := by simpa using hp
          subst e
          exact apart b hb
        · exact T.keep _ _ _ st4 fun b _ o e => keep5 b o e
    · exact I4.call' (ch := fp) I'.os I'.base I'.hok I'.bare fun b hb => ⟨(f4 b hb).1.2.2.2.1, (f4 b hb).1.2.1, (f4 b hb).1.2.2.2.2.1, (f4 b hb).1.2.2.2.2.2⟩
  refine ⟨lim2, ?_⟩
  cases hf : codeAmong gpos ps.toList with
  | none =>
    refine wpAny_genexprCodeX hcode (cd.code hPs htr) (cd.tab hPs) hf fun c' h' tk hx hge hlt hco' _ htab' _ => ?_
    obtain ⟨o1, vs, f1, tf, fl, tg, inF, tx, tt, op, _, _, _, _, _, _, _, _, _, htr, _⟩ := hco'
    exact cont _ h' tk _ hx (Nat.le_trans hge (Nat.le_of_lt hlt)) htab'.2 ⟨_, rfl⟩ htr
  | some cv =>
    refine wpAny_genexprCode_hit hcode (cd.code hPs htr) hf ?_
    exact cont cv s2.heap s2.toks ps (Heap.ExtBut.refl _ _) (Nat.le_refl _) hPs ⟨#[], by simp⟩ htr

/-- all(elt for tg in iter if ..): W by the turn and a measure -/
def tAllG (P : Addr) (wi : TI) (g : TG) (tt : TT) (te : TE) (vs : List Nat) : TE := fun σ H Q => wi σ H fun J H1 => TabG H1 P ∧ ∀ H2, Tabbed P H1 H2 → ∃ W : Nat → Nat → Hp → Prop, (∃ m, W 0 m H2) ∧ GTurns J g tt te vs σ W (fun H => Q (.bl true) H) (consAll fun b H => Q (.bl b) H)
def tAnyG (P : Addr) (wi : TI) (g : TG) (tt : TT) (te : TE) (vs : List Nat) : TE := fun σ H Q => wi σ H fun J H1 => TabG H1 P ∧ ∀ H2, Tabbed P H1 H2 → ∃ W : Nat → Nat → Hp → Prop, (∃ m, W 0 m H2) ∧ GTurns J g tt te vs σ W (fun H => Q (.bl false) H) (consAny fun b H => Q (.bl b) H)
theorem boot_all : bootBuiltins "all" = some (.builtin "all") := by decide +kernel
theorem pe_allG {c P : Addr} {elt tg iter : Expr} {ifs : List Expr} {scope : Scope} {own : List (Str × Nat)} {p pos gpos : Pos} {wi : TI} {g : TG} {tt : TT} {te : TE}
    (hr : Room 1 X.A) (hc : X.calm = true) (hN : X.N.Nodup) (hgl : Gl X "all") (hm : X.mg "all" = none) (TB : LamX.TabB X.base X.mg c P) (hcode : X.env.code = .ref c) (ok : GOk X.N X.env.scope scope own) (hi : PI X tg iter wi)
    (hg : ∀ (s : Shared) (H : Hp) (C : Addr) (cl : List (Str × Addr)) (code : Value) (fp : List Addr) (pn : List (Addr × Obj)), PG (gX X s H (gE X scope cl C code) fp pn) tg g)
    (ht : ∀ (s : Shared) (H : Hp) (C : Addr) (cl : List (Str × Addr)) (code : Value) (fp : List Addr) (pn : List (Addr × Obj)), PTs (gX X s H (gE X scope cl C code) fp pn) ifs tt)
    (he : ∀ (s : Shared) (H : Hp) (C : Addr) (cl : List (Str × Addr)) (code : Value) (fp : List Addr) (pn : List (Addr × Obj)), PE (gX X s H (gE X scope cl C code) fp pn) elt te)
    (hs : ∀ v, genFold iter X.env v = pure v := by intro _; rfl)
    (hst : starEach [.GeneratorExp elt [⟨tg, iter, ifs, 0⟩] scope gpos] X.env = (false, eval (.GeneratorExp elt [⟨tg, iter, ifs, 0⟩] scope gpos) X.env) :: starEach [] X.env := by rfl) :
    PE X (.Call (.Name "all" p) [.GeneratorExp elt [⟨tg, iter, ifs, 0⟩] scope gpos] [] pos) (tAllG P wi g tt te (own.map (·.2))) := by
  refine ⟨fun pins s σ H Q I h => ?_⟩
  refine wpAny_Call_Name_kw (ld_blt I hgl hm boot_all ?_)
  refine PyProof.Rows.callWith_builtin1 ?_ hst (by rfl)
  rw [hst]
  show wpAny _ _ (spliced ((false, eval (.GeneratorExp elt [⟨tg, iter, ifs, 0⟩] scope gpos) X.env) :: backTo pos (starEach [] X.env))) _ _ s
  refine Calls.spliced_cons (gx_make (Qe := fun H => Q (.bl true) H) (cons := consAll fun b H => Q (.bl b) H) hr hc hN TB hcode ok hi hg ht he hs I h fun Xg fp a gg n s5 hp hG back => ?_)
  refine Calls.spliced_nil ?_
  refine call_function_tree F.kind_all F.plain_all F.entry_all (F.args_all1 _) ?_
  unfold Builtin.«all»
  refine wpAny_bind (m := oneArg "all" _) (wpAny_pure ?_)
  refine wpAny_bind (wpAny_pyIter_gen hG.1 ?_)
  refine wpAny_pure ⟨plainId_quiet F.plain_all_loop _, all_loop (Q := fun b H => Q (.bl b) H) hr hp (fun b pins' σ' H' s' I' q => ?_) n s5 hG⟩
  exact ⟨.bl b, H', back _ _ _ _ I', rfl, q⟩
theorem pe_anyG {c P : Addr} {elt tg iter : Expr} {ifs : List Expr} {scope : Scope} {own : List (Str × Nat)} {p pos gpos : Pos} {wi : TI} {g : TG} {tt : TT} {te : TE}
    (hr : Room 1 X.A) (hc : X.calm = true) (hN : X.N.Nodup) (hgl : Gl X "any") (hm : X.mg "any" = none) (TB : LamX.TabB X.base X.mg c P) (hcode : X.env.code = .ref c) (ok : GOk X.N X.env.scope scope own) (hi : PI X tg iter wi)
    (hg : ∀ (s : Shared) (H : Hp) (C : Addr) (cl : List (Str × Addr)) (code : Value) (fp : List Addr) (pn : List (Addr × Obj)), PG (gX X s H (gE X scope cl C code) fp pn) tg g)
    (ht : ∀ (s : Shared) (H : Hp) (C : Addr) (cl : List (Str × Addr)) (code : Value) (fp : List Addr) (pn : List (Addr × Obj)), PTs (gX X s H (gE X scope cl C code) fp pn) ifs tt)
    (he : ∀ (s : Shared) (H : Hp) (C : Addr) (cl : List (Str × Addr)) (code : Value) (fp : List Addr) (pn : List (Addr × Obj)), PE (gX X s H (gE X scope cl C code) fp pn) elt te)
    (hs : ∀ v, genFold iter X.env v = pure v := by intro _; rfl)
    (hst : starEach [.GeneratorExp elt [⟨tg, iter, ifs, 0⟩] scope gpos] X.env = (false, eval (.GeneratorExp elt [⟨tg, iter, ifs, 0⟩] scope gpos) X.env) :: starEach [] X.env := by rfl) :
    PE X (.Call (.Name "any" p) [.GeneratorExp elt [⟨tg, iter, ifs, 0⟩] scope gpos] [] pos) (tAnyG P wi g tt te (own.map (·.2))) := by
  refine ⟨fun pins s σ H Q I h => ?_⟩
  refine wpAny_Call_Name_kw (ld_blt I hgl hm boot_any ?_)
  refine PyProof.Rows.callWith_builtin1 ?_ hst (by rfl)
  rw [hst]
  show wpAny _ _ (spliced ((false, eval (.GeneratorExp elt [⟨tg, iter, ifs, 0⟩] scope gpos) X.env) :: backTo pos (starEach [] X.env))) _ _ s
  refine Calls.spliced_cons (gx_make (Qe := fun H => Q (.bl false) H) (cons := consAny fun b H => Q (.bl b) H) hr hc hN TB hcode ok hi hg ht he hs I h fun Xg fp a gg n s5 hp hG back => ?_)
  refine Calls.spliced_nil ?_
  refine call_function_tree F.kind_any F.plain_any F.entry_any (F.args_any1 _) ?_
  unfold Builtin.«any»
  refine wpAny_bind (m := oneArg "any" _) (wpAny_pure ?_)
  refine wpAny_bind (wpAny_pyIter_gen hG.1 ?_)
  refine wpAny_pure ⟨plainId_quiet F.plain_any_loop _, any_loop (Q := fun b H => Q (.bl b) H) hr hp (fun b pins' σ' H' s' I' q => ?_) n s5 hG⟩
  exact ⟨.bl b, H', back _ _ _ _ I', rfl, q⟩
end
end GX

set_option Elab.async false
set_option linter.all false
set_option maxRecDepth 100000
set_option maxHeartbeats 2000000
/-! Gx2: a generator expression of two clauses, drawn by all and any. -/
namespace GX
open PySem PySem.Spec PyProof.Rows L2 GxR GenW

section
variable {elt t1 it1 t2 it2 : Expr} {ifs1 ifs2 : List Expr} {scope : Scope} {pos : Pos}
theorem compTurn_gen2_in (it acc : Value) (env : Env) :
    compTurn (.GeneratorExp elt [⟨t1, it1, ifs1, 0⟩, ⟨t2, it2, ifs2, 0⟩] scope pos) 1 it acc env = (do
      standAt it2.pos
      match ← pyNext it with
      | none => pure (.done .next)
      | some v =>
        letOwnedTupleGo t2 it v
        assign t2 env v
        let mut ok := true
        for c in ifs2 do
          if ok then ok ← isTrue c env (eval c env)
        if ok then
          (do let v ← eval elt env; standAt elt.pos; let _ ← yieldOut env v)
        again (.compLoop (.GeneratorExp elt [⟨t1, it1, ifs1, 0⟩, ⟨t2, it2, ifs2, 0⟩] scope pos) 1 it acc env)) := by rfl
theorem compTurn_gen2_out (it acc : Value) (env : Env) :
    compTurn (.GeneratorExp elt [⟨t1, it1, ifs1, 0⟩, ⟨t2, it2, ifs2, 0⟩] scope pos) 0 it acc env = (do
      standAt it1.pos
      match ← pyNext it with
      | none => pure (.done .next)
      | some v =>
        letOwnedTupleGo t1 it v
        assign t1 env v
        let mut ok := true
        for c in ifs1 do
          if ok then ok ← isTrue c env (eval c env)
        if ok then
          let x ← eval it2 env
          standAt it2.pos
          let x ← foldedSetIterable it2 env x
          let _ ← runOwn (.compStart (.GeneratorExp elt [⟨t1, it1, ifs1, 0⟩, ⟨t2, it2, ifs2, 0⟩] scope pos) 1 (← holding [x] (pyIter x)) acc env) env
        again (.compLoop (.GeneratorExp elt [⟨t1, it1, ifs1, 0⟩, ⟨t2, it2, ifs2, 0⟩] scope pos) 0 it acc env)) := by rfl
theorem over2_loop {A : Around} {it acc it0 acc0 : Value} {cenv : Env} {k : Result → Sem Fin} {g : Bool} {l : List Value} {p : Pos} {kp : List Value} :
    A.over (.compLoop (.GeneratorExp elt [⟨t1, it1, ifs1, 0⟩, ⟨t2, it2, ifs2, 0⟩] scope pos) 1 it acc cenv) [.ret k none g l (.compLoop (.GeneratorExp elt [⟨t1, it1, ifs1, 0⟩, ⟨t2, it2, ifs2, 0⟩] scope pos) 0 it0 acc0 cenv) p kp] = A.deeper cenv := by
  obtain ⟨hd, d, fr, gs, u⟩ := A
  simp [Around.over, Around.deeper, marksOver, frameCount, unitsOf, envsOf, guardsOf, pushEnvs, pushGuards, Code.envs, Code.env?, Code.isFrame, Code.guards, Code.isGuard, Code.weight, Code.frames, Code.isCreation, Code.isCaller, Code.cUnits, Frame.where_, Frame.marks]
  rfl
theorem over2_start {A : Around} {it acc it0 acc0 : Value} {cenv : Env} {k : Result → Sem Fin} {g : Bool} {l : List Value} {p : Pos} {kp : List Value} :
    A.over (.compStart (.GeneratorExp elt [⟨t1, it1, ifs1, 0⟩, ⟨t2, it2, ifs2, 0⟩] scope pos) 1 it acc cenv) [.ret k none g l (.compLoop (.GeneratorExp elt [⟨t1, it1, ifs1, 0⟩, ⟨t2, it2, ifs2, 0⟩] scope pos) 0 it0 acc0 cenv) p kp] = A.deeper cenv := by
  obtain ⟨hd, d, fr, gs, u⟩ := A
  simp [Around.over, Around.deeper, marksOver, frameCount, unitsOf, envsOf, guardsOf, pushEnvs, pushGuards, Code.envs, Code.env?, Code.isFrame, Code.guards, Code.isGuard, Code.weight, Code.frames, Code.isCreation, Code.isCaller, Code.cUnits, Frame.where_, Frame.marks]
  rfl
end

section
variable {X : Cx} {s4 : Shared} {H4 : Hp} {cenv : Env} {fp : List Addr} {pn : List (Addr × Obj)}
/-- what is to be shown of the turns of the second clause -/
def GTurns1 (J : It) (g : TG) (tt : TT) (te : TE) (vs1 : List Nat) (σ2 : L2.St) (W1 : Nat → Nat → Hp → Prop) (Out : Nat → Hp → Prop) (cons : V → Hp → Prop → Prop) : Prop := ∀ j m H, W1 j m H →
  (J.stop j H ∧ Out m H) ∨ (J.go j H ∧ ∃ Nx : Hp → Prop, (∀ H', Nx H' → ∃ m', m' < m ∧ W1 (j + 1) m' H') ∧ ∀ x H', J.yld j H x H' → g x (wipe σ2 vs1) H' fun σ3 H3 => wipe σ3 vs1 = wipe σ2 vs1 ∧ tt σ3 H3 fun b H4 =>
    if b = true then te σ3 H4 fun y H5 => cons y H5 (Nx H5) else Nx H4)
/-- .. of both: W by the turn and a measure that falls in all turns -/
def GTurns2 (J : It) (g : TG) (tt : TT) (wi1 : TI) (g1 : TG) (tt1 : TT) (te : TE) (vs vs1 : List Nat) (σ : L2.St) (W : Nat → Nat → Hp → Prop) (Qe : Hp → Prop) (cons : V → Hp → Prop → Prop) : Prop := ∀ i m H, W i m H →
  (J.stop i H ∧ Qe H) ∨ (J.go i H ∧ ∀ x H', J.yld i H x H' → g x (wipe σ vs) H' fun σ2 H2 => wipe σ2 vs = wipe σ vs ∧ tt σ2 H2 fun b H3 =>
    if b = true then wi1 σ2 H3 fun J1 H4 => ∃ W1 : Nat → Nat → Hp → Prop, (∃ m1, m1 < m ∧ W1 0 m1 H4) ∧ GTurns1 J1 g1 tt1 te vs1 σ2 W1 (fun m1 H => ∃ m', m' < m1 ∧ W (i + 1) m' H) cons
    else ∃ m', m' < m ∧ W (i + 1) m' H3)
theorem gx2_all {elt t1 it1 t2 it2 : Expr} {ifs1 ifs2 : List Expr} {scope : Scope} {pos : Pos} {it : Addr} {J : It} {tn : Nat → Heap → Prop} {g g1 : TG} {tt tt1 : TT} {wi1 : TI} {te : TE} {vs vs1 : List Nat} {σ : L2.St} {W : Nat → Nat → Hp → Prop} {Qe : Hp → Prop} {cons : V → Hp → Prop → Prop}
    (hc : X.calm = true) (hco : cenv.scope.isCoroutine = false) (hv : ∀ i ∈ vs1, i ∈ vs) (T : Turn X.prog X.w X.K t1 J fp it tn) (hg : PG (gX X s4 H4 cenv fp pn) t1 g) (ht : PTs (gX X s4 H4 cenv fp pn) ifs1 tt)
    (hi1 : PI (gX X s4 H4 cenv fp pn) t2 it2 wi1) (hg1 : PG (gX X s4 H4 cenv fp pn) t2 g1) (ht1 : PTs (gX X s4 H4 cenv fp pn) ifs2 tt1) (he : PE (gX X s4 H4 cenv fp pn) elt te)
    (hs1 : ∀ x, foldedSetIterable it2 cenv x = pure x)
    (turn : GTurns2 J g tt wi1 g1 tt1 te vs vs1 σ W Qe cons) (hpf : ∀ b ∈ fp, ∀ p ∈ pn, p.1 ≠ b) :
    ∀ (n m : Nat), m < n →
      (∀ (i : Nat) (s₀ s : Shared) (H : Hp), Inv (gX X s4 H4 cenv fp pn) [] (wipe σ vs) H s → tn i s.heap → (∀ b ∈ fp, H b = none) → W i m H →
        Seg (model X.prog X.w) X.A.in1.in1 (fun _ _ r s1 => r = .ok .next ∧ GRe (gX X s4 H4 cenv fp pn) (wipe σ vs) fp Qe s1) (GYe (gX X s4 H4 cenv fp pn) cons) n s₀
          (.compLoop (.GeneratorExp elt [⟨t1, it1, ifs1, 0⟩, ⟨t2, it2, ifs2, 0⟩] scope pos) 0 (.ref it) .none cenv)
          ((model X.prog X.w).den (.compLoop (.GeneratorExp elt [⟨t1, it1, ifs1, 0⟩, ⟨t2, it2, ifs2, 0⟩] scope pos) 0 (.ref it) .none cenv)) [] s) ∧
      (∀ (i j : Nat) (hp7 : Heap) (σ8 : L2.St) (itb : Addr) (fp1 : List Addr) (tn1 : Nat → Heap → Prop) (J1 : It) (W1 : Nat → Nat → Hp → Prop) (kk : Result → Sem Fin) (gg : Bool) (l : List Value) (p : Pos) (s₀ s : Shared) (H : Hp),
        tn (i + 1) hp7 → (∀ b ∈ fp, ∃ o, hp7.get? b = some o) → wipe σ8 vs = wipe σ vs → Turn X.prog X.w X.K t2 J1 fp1 itb tn1 → (∀ b ∈ fp1, ∀ H', H' b = none → FpOk (gX X s4 H4 cenv fp pn) ([] ++ pinsAt fp hp7) H' b) →
        GTurns1 J1 g1 tt1 te vs1 σ8 W1 (fun m1 H => ∃ m', m' < m1 ∧ W (i + 1) m' H) cons → kk (.ok .next) = .pure (.again (.compLoop (.GeneratorExp elt [⟨t1, it1, ifs1, 0⟩, ⟨t2, it2, ifs2, 0⟩] scope pos) 0 (.ref it) .none cenv)) → gg = false →
        Inv (gX X s4 H4 cenv fp pn) ([] ++ pinsAt fp hp7) (wipe σ8 vs1) H s → tn1 j s.heap → (∀ b ∈ fp1, H b = none) → W1 j m H →
        Seg (model X.prog X.w) X.A.in1.in1 (fun _ _ r s1 => r = .ok .next ∧ GRe (gX X s4 H4 cenv fp pn) (wipe σ vs) fp Qe s1) (GYe (gX X s4 H4 cenv fp pn) cons) n s₀
          (.compLoop (.GeneratorExp elt [⟨t1, it1, ifs1, 0⟩, ⟨t2, it2, ifs2, 0⟩] scope pos) 1 (.ref itb) .none cenv)
          ((model X.prog X.w).den (.compLoop (.GeneratorExp elt [⟨t1, it1, ifs1, 0⟩, ⟨t2, it2, ifs2, 0⟩] scope pos) 1 (.ref itb) .none cenv)) [.ret kk none gg l (.compLoop (.GeneratorExp elt [⟨t1, it1, ifs1, 0⟩, ⟨t2, it2, ifs2, 0⟩] scope pos) 0 (.ref it) .none cenv) p []] s) := by
  have ov : X.A.in1.in1.over (.compLoop (.GeneratorExp elt [⟨t1, it1, ifs1, 0⟩, ⟨t2, it2, ifs2, 0⟩] scope pos) 0 (.ref it) .none cenv) [] = gA X.A cenv := over_loop0
  have ov1 : ∀ {itb : Addr} {kk : Result → Sem Fin} {gg : Bool} {l : List Value} {p : Pos}, X.A.in1.in1.over (.compLoop (.GeneratorExp elt [⟨t1, it1, ifs1, 0⟩, ⟨t2, it2, ifs2, 0⟩] scope pos) 1 (.ref itb) .none cenv) [.ret kk none gg l (.compLoop (.GeneratorExp elt [⟨t1, it1, ifs1, 0⟩, ⟨t2, it2, ifs2, 0⟩] scope pos) 0 (.ref it) .none cenv) p []] = gA X.A cenv := over2_loop
  have stat : ∀ {σ' : L2.St} {H' : Hp} {s' : Shared}, Inv (gX X s4 H4 cenv fp pn) [] σ' H' s' → (∀ b ∈ fp, H' b = none) → ∀ b ∈ fp, FpOk (gX X s4 H4 cenv fp pn) [] H' b := fun {σ' H' s'} I' hn b hb =>
    ⟨hn b hb, (I'.ok.exf b hb).1, I'.ok.exfs b hb, .inl hb, fun x c e => (I'.ok.exf b hb).2 x c e, fun p hp' => hpf b hb p (by simpa using hp')⟩
  have hy : ∀ v, yieldOut cenv v = yieldValue v := fun v => by simp only [yieldOut, hco, Bool.false_eq_true, if_false]
  intro n
  induction n with
  | zero => intro m hm; exact absurd hm (Nat.not_lt_zero _)
  | succ n ihn =>
    intro m
    induction m using Nat.strongRecOn with
    | ind m ihm =>
      intro hm
      refine ⟨fun i s₀ s H I st nf w => ?_, fun i j hp7 σ8 itb fp1 tn1 J1 W1 kk gg l p s₀ s H st7 ob7 hw8 T1 f1 turn1 hkk hgg I st nf w => ?_⟩
      · show Seg _ X.A.in1.in1 _ _ _ s₀ _ ((compTurn (.GeneratorExp elt [⟨t1, it1, ifs1, 0⟩, ⟨t2, it2, ifs2, 0⟩] scope pos) 0 (.ref it) .none cenv).onRaise (leaving cenv)) [] s
        rw [compTurn_gen2_out, Sem.onRaise_eq_wrap]
        refine seg_bind_wrap (wpAny_standAt ?_)
        refine seg_bind_wrap ?_
        rw [ov]
        rcases turn i m H w with ⟨stop, qe⟩ | ⟨go, step⟩
        · have td := T.done (gX X s4 H4 cenv fp pn) rfl rfl rfl hc i [] s _ H (fun _ _ => False) I (stat I nf) st stop
          refine thnF td fun r s6 ⟨hr, I6⟩ => ?_
          subst hr
          exact seg_end (.ok .next) ⟨rfl, H, I6, nf, qe⟩
        · have ti := T.item (gX X s4 H4 cenv fp pn) rfl rfl rfl hc i [] s _ H (fun _ _ => False) I (stat I nf) st go
          refine thnF ti fun r s6 ⟨u, hr, h6⟩ => ?_
          subst hr
          refine seg_bind_wrap ?_
          rw [ov]
          refine thnF h6 fun _ s7 ⟨x, H7, I7, r7, y7, st7, n7⟩ => ?_
          have I7' := I7.pinned (stat I7 n7) (T.obj _ _ st7)
          refine seg_bind_wrap ?_
          rw [ov]
          refine thnF (hg.run _ s7 _ H7 x u _ I7' r7 (step x H7 y7)) fun _ s8 ⟨σ8, H8, I8, hw8, q8⟩ => ?_
          refine seg_bind_wrap ?_
          rw [ov]
          refine thnF (ht.run _ s8 σ8 H8 _ I8 q8) fun b s9 ⟨H9, I9, q9⟩ => ?_
          cases b with
          | false =>
            simp only [Bool.false_eq_true, if_false] at q9 ⊢
            obtain ⟨m', hm', w'⟩ := q9
            have pin' : ∀ b ∈ fp, ∀ o, s7.heap.get? b = some o → s9.heap.get? b = some o ∧ H9 b = none := fun b hb o e =>
              let z := I9.pin (b, o) (List.mem_append_right _ (List.mem_append_right _ (mem_pinsAt hb e)))
              ⟨z.1, z.2.1⟩
            have hl : (wipe σ vs).length = σ8.length := by rw [← hw8, wipe_length]
            refine seg_again rfl ((ihm m' hm' (by omega)).1 (i + 1) s₀ s9 H9 ((I9.unpinned (pins := [])).weak hl (fun j v e => ?_)) (T.keep _ _ _ st7 fun b hb o e => (pin' b hb o e).1) (fun b hb => ?_) w')
            · rw [← hw8] at e
              exact (wipe_some e).1
            · obtain ⟨o, e, _⟩ := T.obj _ _ st7 b hb
              exact (pin' b hb o e).2
          | true =>
            simp only [if_true] at q9 ⊢
            refine seg_bind_wrap ?_
            rw [ov]
            refine thnF (hi1.run _ s9 σ8 H9 _ I9 q9) fun xv s10 hx => ?_
            refine seg_bind_wrap (wpAny_standAt ?_)
            refine seg_bind_wrap (wpAny_of_eq (hs1 xv) ?_)
            refine seg_bind_wrap (wpAny_holding ?_)
            rw [ov]
            refine thnF hx fun itv s11 ⟨itb, fp1, tn1, J1, H11, e11, I11, T1, st11, f11, W1, ⟨m1, hm1, w1⟩, turn1⟩ => ?_
            subst e11
            have obj7 : ∀ b ∈ fp, ∃ o, s7.heap.get? b = some o := fun b hb => by
              obtain ⟨o, e, _⟩ := T.obj _ _ st7 b hb
              exact ⟨o, e⟩
            refine seg_call fun p => ?_
            have inner := fun (kk : Result → Sem Fin) (gg : Bool) (l : List Value) (p : Pos) (e1 : kk (.ok .next) = .pure (.again (.compLoop (.GeneratorExp elt [⟨t1, it1, ifs1, 0⟩, ⟨t2, it2, ifs2, 0⟩] scope pos) 0 (.ref it) .none cenv))) (e2 : gg = false) =>
              (ihm m1 hm1 (by omega)).2 i 0 s7.heap σ8 itb fp1 tn1 J1 W1 kk gg l p s₀ s11 H11 st7 obj7 hw8 T1 (fun b hb H' hn => ⟨hn, (f11 b hb).2⟩) turn1 e1 e2 (I11.weak (wipe_length _ _) (fun j v e => (wipe_some e).1)) st11 (fun b hb => (f11 b hb).1) w1
            show Seg _ X.A.in1.in1 _ _ _ s₀ _ ((compStart (.GeneratorExp elt [⟨t1, it1, ifs1, 0⟩, ⟨t2, it2, ifs2, 0⟩] scope pos) 1 (.ref itb) .none cenv).onRaise (fun x => do noteFrame x cenv; standAt theWindowsPlace)) _ s11
            unfold compStart
            rw [Sem.onRaise_eq_wrap]
            show Seg _ X.A.in1.in1 _ _ _ s₀ _ ((ask >>= _).wrap _ _ _ _) _ s11
            refine seg_bind_wrap (wpAny_askSetting ?_)
            split
            · exact seg_again rfl (inner _ _ _ _ rfl rfl)
            · refine seg_bind_wrap (wpAny_rule ?_)
              first
                | exact seg_bind_wrap (wpAny_standAt (seg_bind_wrap (T1.self _ 0 s11 _ _ st11 (seg_again rfl (inner _ _ _ _ rfl rfl)))))
                | (show Seg _ X.A.in1.in1 _ _ _ s₀ _ ((standAt it2.pos >>= _).wrap _ _ _ _) _ s11; exact seg_bind_wrap (wpAny_standAt (seg_bind_wrap (T1.self _ 0 s11 _ _ st11 (seg_again rfl (inner _ _ _ _ rfl rfl))))))
      · show Seg _ X.A.in1.in1 _ _ _ s₀ _ ((compTurn (.GeneratorExp elt [⟨t1, it1, ifs1, 0⟩, ⟨t2, it2, ifs2, 0⟩] scope pos) 1 (.ref itb) .none cenv).onRaise (fun x => do noteFrame x cenv; theTreesLotGoes x)) _ s
        rw [compTurn_gen2_in, Sem.onRaise_eq_wrap]
        refine seg_bind_wrap (wpAny_standAt ?_)
        refine seg_bind_wrap ?_
        rw [ov1]
        rcases turn1 j m H w with ⟨stop, m', hm', w'⟩ | ⟨go, Nx, hNx, step⟩
        · refine thnF (T1.done (gX X s4 H4 cenv fp pn) rfl rfl rfl hc j _ s (wipe σ8 vs1) H (fun _ _ => False) I (fun b hb => f1 b hb H (nf b hb)) st stop) fun r s6 ⟨hr, I6⟩ => ?_
          subst hr
          have pin' : ∀ b ∈ fp, ∀ o, hp7.get? b = some o → s6.heap.get? b = some o ∧ H b = none := fun b hb o e =>
            let z := I6.pin (b, o) (List.mem_append_right _ (List.mem_append_right _ (mem_pinsAt hb e)))
            ⟨z.1, z.2.1⟩
          refine seg_leaf (.ok .next) ?_
          rw [hkk]
          refine seg_again rfl ((ihm m' hm' (by omega)).1 (i + 1) s₀ s6 H ((I6.unpinned (pins := [])).weak ?_ (fun j v e => ?_)) (T.keep _ _ _ st7 fun b hb o e => (pin' b hb o e).1) (fun b hb => ?_) w')
          · rw [← hw8, wipe_length, wipe_length]
          · rw [← hw8] at e
            obtain ⟨e1, e2⟩ := wipe_some e
            rw [wipe_out fun z => e2 (hv j z)]
            exact e1
          · obtain ⟨o, e⟩ := ob7 b hb
            exact (pin' b hb o e).2
        · refine thnF (T1.item (gX X s4 H4 cenv fp pn) rfl rfl rfl hc j _ s (wipe σ8 vs1) H (fun _ _ => False) I (fun b hb => f1 b hb H (nf b hb)) st go) fun r s6 ⟨u, hr, h6⟩ => ?_
          subst hr
          refine seg_bind_wrap ?_
          rw [ov1]
          refine thnF h6 fun _ s9 ⟨x, H9, I9, r9, y9, st9, n9⟩ => ?_
          have I9' := I9.pinned (fun b hb => f1 b hb H9 (n9 b hb)) (T1.obj _ _ st9)
          refine seg_bind_wrap ?_
          rw [ov1]
          refine thnF (hg1.run _ s9 _ H9 x u _ I9' r9 (step x H9 y9)) fun _ s10 ⟨σ10, H10, I10, hw10, q10⟩ => ?_
          refine seg_bind_wrap ?_
          rw [ov1]
          refine thnF (ht1.run _ s10 σ10 H10 _ I10 q10) fun b s11 ⟨H11, I11, q11⟩ => ?_
          have fin : ∀ {s' : Shared} {H' : Hp}, Inv (gX X s4 H4 cenv fp pn) (([] ++ pinsAt fp hp7) ++ pinsAt fp1 s9.heap) σ10 H' s' → Nx H' → ∃ m', m' < m ∧ Inv (gX X s4 H4 cenv fp pn) ([] ++ pinsAt fp hp7) (wipe σ8 vs1) H' s' ∧ tn1 (j + 1) s'.heap ∧ (∀ b ∈ fp1, H' b = none) ∧ W1 (j + 1) m' H' := fun {s' H'} I' nx => by
            obtain ⟨m', hm, w'⟩ := hNx H' nx
            have pin' : ∀ b ∈ fp1, ∀ o, s9.heap.get? b = some o → s'.heap.get? b = some o ∧ H' b = none := fun b hb o e =>
              let z := I'.pin (b, o) (List.mem_append_right _ (List.mem_append_right _ (mem_pinsAt hb e)))
              ⟨z.1, z.2.1⟩
            refine ⟨m', hm, I'.unpinned.weak (by rw [← hw10, wipe_length]) (fun j v e => by rw [← hw10] at e; exact (wipe_some e).1), T1.keep _ _ _ st9 fun b hb o e => (pin' b hb o e).1, fun b hb => ?_, w'⟩
            obtain ⟨o, e, _⟩ := T1.obj _ _ st9 b hb
            exact (pin' b hb o e).2
          cases b with
          | false =>
            simp only [Bool.false_eq_true, if_false] at q11 ⊢
            obtain ⟨m', hm', I', st', nf', w'⟩ := fin I11 q11
            exact seg_again rfl ((ihm m' hm' (by omega)).2 i (j + 1) hp7 σ8 itb fp1 tn1 J1 W1 kk gg l p s₀ s11 H11 st7 ob7 hw8 T1 f1 turn1 hkk hgg I' st' nf' w')
          | true =>
            simp only [if_true] at q11 ⊢
            simp only [hy]
            rw [Sem.bind_eq_wrap', Sem.bind_eq_wrap', Sem.wrap_wrap, Sem.wrap_wrap]
            refine seg_wrap ?_
            rw [ov1]
            refine thnF (he.run _ s11 σ10 H11 _ I11 q11) fun z s12 ⟨yv, H12, I12, r12, c12⟩ => ?_
            refine seg_at (seg_yield rfl rfl (by subst hgg; rfl) ⟨_, σ10, yv, H12, Nx H12, I12, r12, c12, fun s' k os hb nx => ?_⟩)
            obtain ⟨m', hm', I', st', nf', w'⟩ := fin (Inv.keepS I12 os k hb) nx
            exact seg_again rfl ((ihn m' (by omega)).2 i (j + 1) hp7 σ8 itb fp1 tn1 J1 W1 kk gg l p s' s' H12 st7 ob7 hw8 T1 f1 turn1 hkk hgg I' st' nf' w')
theorem gx2_begin {elt tg iter tg1 iter1 : Expr} {ifs ifs1 : List Expr} {scope : Scope} {pos : Pos} {it : Addr} {J : It} {tn : Nat → Heap → Prop} {wi1 : TI} {g g1 : TG} {tt tt1 : TT} {te : TE} {vs vs1 : List Nat} {σ : L2.St} {W : Nat → Nat → Hp → Prop} {Qe : Hp → Prop} {cons : V → Hp → Prop → Prop}
    (hc : X.calm = true) (hco : cenv.scope.isCoroutine = false) (hv : ∀ i ∈ vs1, i ∈ vs) (T : Turn X.prog X.w X.K tg J fp it tn) (hg : PG (gX X s4 H4 cenv fp pn) tg g) (ht : PTs (gX X s4 H4 cenv fp pn) ifs tt) (hi1 : PI (gX X s4 H4 cenv fp pn) tg1 iter1 wi1) (hg1 : PG (gX X s4 H4 cenv fp pn) tg1 g1) (ht1 : PTs (gX X s4 H4 cenv fp pn) ifs1 tt1) (he : PE (gX X s4 H4 cenv fp pn) elt te) (hs1 : ∀ v, foldedSetIterable iter1 cenv v = pure v)
    (turn : GTurns2 J g tt wi1 g1 tt1 te vs vs1 σ W Qe cons) (hpf : ∀ b ∈ fp, ∀ p ∈ pn, p.1 ≠ b) (n m : Nat) (s₀ s : Shared) (H : Hp) (hm : m < n) (I : Inv (gX X s4 H4 cenv fp pn) [] (wipe σ vs) H s) (st : tn 0 s.heap) (nf : ∀ b ∈ fp, H b = none) (w : W 0 m H) :
      Seg (model X.prog X.w) X.A.in1.in1 (fun _ _ r s1 => r = .ok .next ∧ GRe (gX X s4 H4 cenv fp pn) (wipe σ vs) fp Qe s1) (GYe (gX X s4 H4 cenv fp pn) cons) n s₀
        (.compStart (.GeneratorExp elt [⟨tg, iter, ifs, 0⟩, ⟨tg1, iter1, ifs1, 0⟩] scope pos) 0 (.ref it) .none cenv)
        ((model X.prog X.w).den (.compStart (.GeneratorExp elt [⟨tg, iter, ifs, 0⟩, ⟨tg1, iter1, ifs1, 0⟩] scope pos) 0 (.ref it) .none cenv)) [] s := by
  have loop := (gx2_all (it1 := iter) (scope := scope) (pos := pos) hc hco hv T hg ht hi1 hg1 ht1 he hs1 turn hpf n m hm).1 0 s₀ s H I st nf w
  show Seg _ X.A.in1.in1 _ _ _ s₀ _ ((compStart (.GeneratorExp elt [⟨tg, iter, ifs, 0⟩, ⟨tg1, iter1, ifs1, 0⟩] scope pos) 0 (.ref it) .none cenv).onRaise (leaving cenv)) [] s
  unfold compStart
  rw [Sem.onRaise_eq_wrap]
  show Seg _ X.A.in1.in1 _ _ _ s₀ _ ((ask >>= _).wrap _ _ _ _) [] s
  refine seg_bind_wrap (wpAny_askSetting ?_)
  split
  · exact seg_again rfl loop
  · first
      | exact seg_bind_wrap (wpAny_rule (seg_bind_wrap (wpAny_standAt (seg_bind_wrap (T.self _ 0 s _ _ st (seg_again rfl loop))))))
      | (refine seg_bind_wrap (wpAny_rule ?_); show Seg _ X.A.in1.in1 _ _ _ s₀ _ ((standAt iter.pos >>= _).wrap _ _ _ _) [] s; exact seg_bind_wrap (wpAny_standAt (seg_bind_wrap (T.self _ 0 s _ _ st (seg_again rfl loop)))))

end

section
variable {M : Model} {A : Around} {E : Value → Shared → Prop} {s : Shared}
theorem eval_GeneratorExp2 (elt target iter : Expr) (ifs : List Expr) (rest : List Comprehension) (scope : Scope) (pos : Pos) (env : Env) (hco : scope.isCoroutine = false) :
    eval (.GeneratorExp elt (⟨target, iter, ifs, 0⟩ :: rest) scope pos) env = (do
      let x ← eval iter env
      standAt iter.pos
      let x ← genFold iter env x
      let it ← holding [x] (pyIter x)
      enterFrame
      let cl ← closureFor scope env
      let code ← genexprCode env pos (env.qual ++ "<genexpr>") scope
      let bi ← builtinsFor env.globals env.builtins
      let cenv ← newFunctionEnv scope env.globals cl [(".0", it)] (env.qual ++ "<genexpr>.") none code none bi
      newGenerator (.compStart (.GeneratorExp elt (⟨target, iter, ifs, 0⟩ :: rest) scope pos) 0 it .none cenv) "<genexpr>" (env.qual ++ "<genexpr>")) := by
  rw [arm_eval_GeneratorExp]
  simp only [hco, Bool.false_eq_true, if_false]
  cases iter <;> rfl

theorem wpAny_GeneratorExp_make2 {env : Env} {elt target iter : Expr} {ifs : List Expr} {rest : List Comprehension} {scope : Scope} {cl : List (Str × Addr)} {pos : Pos} {Q : Value → Shared → Prop}
    (hco : scope.isCoroutine = false) (hclos : closureFor scope env = pure cl) (hcell : ∀ y ∈ scope.names, y.2 ≠ .cell) (h0 : scope.names.lookup (".0" : Str) = some NameKind.local) (hkind : scope.kind = .function)
    (hroom : A.depth < recursionLimit)
    (h : wpAny M A (eval iter env) (fun xv s₁ => wpAny M A (pyIter xv) (fun it s₂ => s₂.heap.NoLimit ∧
      wpAny M A (genexprCode env pos (env.qual ++ "<genexpr>") scope) (fun code s₃ => wpAny M A (builtinsFor env.globals env.builtins) (fun bi s₄ =>
        ∀ h', h'.Ns s₄.heap.objs.size (fun y => if y = ".0" then some it else none) → Heap.SameBut s₄.heap.objs.size (s₄.heap.push { cls := .type "frame", data := .dict #[] }) h' →
          Q (.ref h'.objs.size) { s₄ with
            gens := s₄.gens.push (.fresh (.compStart (.GeneratorExp elt (⟨target, iter, ifs, 0⟩ :: rest) scope pos) 0 it .none (genEnv scope cl s₄.heap.objs.size code bi env))),
            toks := s₄.toks + 1 + 1 + 1,
            heap := h'.push { cls := .type "generator", data := .fields #[.int s₄.gens.size 0, .str "<genexpr>" (s₄.toks + 1), .str (env.qual ++ "<genexpr>") (s₄.toks + 1 + 1)] } }) E s₃) E s₂) E s₁) E s)
    (hs : ∀ x, genFold iter env x = pure x) :
    wpAny M A (eval (.GeneratorExp elt (⟨target, iter, ifs, 0⟩ :: rest) scope pos) env) Q E s := by
  rw [eval_GeneratorExp2 _ _ _ _ _ _ _ _ hco, hclos]
  refine wpAny_bind (wpAny_mono h (fun xv s₁ h₁ => ?_) fun _ _ e => e)
  refine wpAny_bind (wpAny_standAt ?_)
  refine wpAny_bind (wpAny_of_eq (hs xv) ?_)
  refine wpAny_bind (wpAny_holding (wpAny_mono h₁ (fun it s₂ h₂ => ?_) fun _ _ e => e))
  refine wpAny_bind (wpAny_enterFrame h₂.1 hroom ?_)
  refine wpAny_bind (wpAny_pure ?_)
  refine wpAny_bind (wpAny_mono h₂.2 (fun code s₃ h₃ => ?_) fun _ _ e => e)
  refine wpAny_bind (wpAny_mono h₃ (fun bi s₄ h₄ => ?_) fun _ _ e => e)
  have hbinds : ∀ y ∈ ([((".0" : Str), it)] : List (Str × Value)), scope.names.lookup y.1 = some NameKind.local := by
    intro y hy
    rcases List.mem_cons.mp hy with rfl | hy
    · exact h0
    · cases hy
  refine wpAny_bind (wpAny_newFunctionEnv hcell hbinds (fun h' hn' hs' => ?_) hkind)
  have e : (fun y : Str => ([((".0" : Str), it)] : List (Str × Value)).reverse.lookup y) = fun y : Str => if y = (".0" : Str) then some it else none := by
    funext y
    by_cases hy : y = ".0"
    · subst hy; simp
    · have : (y == (".0" : Str)) = false := by simpa using hy
      simp [List.lookup, this, hy]
  rw [e] at hn'
  simp only [newGenerator, newFields]
  refine wpAny_bind (wpAny_newGen (wpAny_bind (wpAny_mkText (wpAny_bind (wpAny_mkText (wpAny_newObj_type ?_ (by size_fits)))))))
  exact h₄ h' hn' hs'

end

section
variable {X : Cx} {pins : List (Addr × Obj)} {σ : L2.St} {H : Hp} {s : Shared}
theorem gx2_make {c P : Addr} {elt tg iter tg1 iter1 : Expr} {ifs ifs1 : List Expr} {vs1 : List Nat} {scope : Scope} {own : List (Str × Nat)} {gpos : Pos} {wi wi1 : TI} {g g1 : TG} {tt tt1 : TT} {te : TE} {Qe : Hp → Prop} {cons : V → Hp → Prop → Prop} {Q' : Value → Shared → Prop}
    (hr : Room 1 X.A) (hc : X.calm = true) (hN : X.N.Nodup) (TB : LamX.TabB X.base X.mg c P) (hcode : X.env.code = .ref c) (ok : GOk X.N X.env.scope scope own) (hv : ∀ i ∈ vs1, i ∈ own.map (·.2)) (hi : PI X tg iter wi)
    (hg : ∀ (s : Shared) (H : Hp) (C : Addr) (cl : List (Str × Addr)) (code : Value) (fp : List Addr) (pn : List (Addr × Obj)), PG (gX X s H (gE X scope cl C code) fp pn) tg g)
    (ht : ∀ (s : Shared) (H : Hp) (C : Addr) (cl : List (Str × Addr)) (code : Value) (fp : List Addr) (pn : List (Addr × Obj)), PTs (gX X s H (gE X scope cl C code) fp pn) ifs tt)
    (hi1 : ∀ (s : Shared) (H : Hp) (C : Addr) (cl : List (Str × Addr)) (code : Value) (fp : List Addr) (pn : List (Addr × Obj)), PI (gX X s H (gE X scope cl C code) fp pn) tg1 iter1 wi1)
    (hg1 : ∀ (s : Shared) (H : Hp) (C : Addr) (cl : List (Str × Addr)) (code : Value) (fp : List Addr) (pn : List (Addr × Obj)), PG (gX X s H (gE X scope cl C code) fp pn) tg1 g1)
    (ht1 : ∀ (s : Shared) (H : Hp) (C : Addr) (cl : List (Str × Addr)) (code : Value) (fp : List Addr) (pn : List (Addr × Obj)), PTs (gX X s H (gE X scope cl C code) fp pn) ifs1 tt1)
    (he : ∀ (s : Shared) (H : Hp) (C : Addr) (cl : List (Str × Addr)) (code : Value) (fp : List Addr) (pn : List (Addr × Obj)), PE (gX X s H (gE X scope cl C code) fp pn) elt te)
    (hs : ∀ v, genFold iter X.env v = pure v) (hs1 : ∀ env v, foldedSetIterable iter1 env v = pure v) (I : Inv X pins σ H s)
    (h : wi σ H fun J H1 => TabG H1 P ∧ ∀ H2, Tabbed P H1 H2 → ∃ W : Nat → Nat → Hp → Prop, (∃ m, W 0 m H2) ∧ GTurns2 J g tt wi1 g1 tt1 te (own.map (·.2)) vs1 σ W Qe cons)
    (hQ : ∀ Xg fp a g n s5, GPin Xg a g → GReady X Xg (wipe σ (own.map (·.2))) fp Qe cons a g n s5 → (∀ pins' σ' H' s', Inv Xg pins' σ' H' s' → Inv X pins σ H' s') → Q' (.ref a) s5) :
    wpAny (model X.prog X.w) X.A (eval (.GeneratorExp elt [⟨tg, iter, ifs, 0⟩, ⟨tg1, iter1, ifs1, 0⟩] scope gpos) X.env) Q' X.xe s := by
  have hfree : ∀ y ∈ scope.names, y.2 = .free → ∃ c, X.env.cells.lookup y.1 = some c := fun y hy e => by
    rcases ok.blk.free y hy e with k | k
    · exact I.ok.has _ (.inl k)
    · exact I.ok.has _ (.inr k)
  refine wpAny_GeneratorExp_make2 ok.co (closure_ok hfree) ok.cell ok.dot ok.blk.kind hr.depth ?_ hs
  refine thn (hi.run pins s σ H _ I h) fun xv s1 hx => thn hx fun itv s2 h2 => ?_
  obtain ⟨it, fp, tn, J, H2, rfl, I2, T, st2, f2, ⟨ps, hP, htr⟩, q2⟩ := h2
  have hPs : s2.heap.get? P = some { cls := .none, data := .fields ps } := I2.hok P _ hP
  have hPlt : P < s2.heap.objs.size := Heap.lt_size hPs
  have cd : PySem.W.CodeHd s2.heap c P := TB.code.keeps fun b u e => I2.bk b u e
  have lim2 : s2.heap.NoLimit := I2.nolimit
  have sz : ∀ b ∈ fp, b < s2.heap.objs.size := fun b hb => by
    obtain ⟨o, e, _⟩ := T.obj _ _ st2 b hb
    exact Heap.lt_size e
  have Pfp : ∀ b ∈ fp, b ≠ P := fun b hb e => by
    have z := (f2 b hb).1
    rw [e, hP] at z
    cases z
  have cont : ∀ (code : Value) (h3 : Heap) (tk : Nat) (ps' : Array Value), Heap.ExtBut P s2.heap h3 → s2.heap.objs.size ≤ h3.objs.size → h3.get? P = some { cls := .none, data := .fields ps' } → (∃ more, ps' = ps ++ more) → TriplesOk ps'.toList →
      wpAny (model X.prog X.w) X.A (builtinsFor X.env.globals X.env.builtins) (fun bi s₄ =>
        ∀ h', h'.Ns s₄.heap.objs.size (fun y => if y = ".0" then some (Value.ref it) else none) → Heap.SameBut s₄.heap.objs.size (s₄.heap.push { cls := .type "frame", data := .dict #[] }) h' →
          Q' (.ref h'.objs.size) { s₄ with
            gens := s₄.gens.push (.fresh (.compStart (.GeneratorExp elt [⟨tg, iter, ifs, 0⟩, ⟨tg1, iter1, ifs1, 0⟩] scope gpos) 0 (.ref it) .none (genEnv scope (cloFrom X.env.cells scope.names []) s₄.heap.objs.size code bi X.env))),
            toks := s₄.toks + 1 + 1 + 1,
            heap := h'.push { cls := .type "generator", data := .fields #[.int s₄.gens.size 0, .str "<genexpr>" (s₄.toks + 1), .str (X.env.qual ++ "<genexpr>") (s₄.toks + 1 + 1)] } }) X.xe { s2 with heap := h3, toks := tk } := by
    intro code h3 tk ps' hx hsz hP3 hmore ht3
    obtain ⟨more, rfl⟩ := hmore
    obtain ⟨bm, ob, e1, e2, e3, e4, e5, e6, e7, e8⟩ := TB.bm
    refine wpAny_builtinsFor (m := X.mg) (by rw [I2.ok.glob]; exact (I2.mod.glob.keeps I2.bk).extBut hx TB.gP) e1 e2 (hx _ _ e4 (I2.bk _ _ e5)) e6 e7 e8 ?_
    intro h' hn' hs'
    -- the def's state behind the code
    have I4 : Inv X pins σ (upd H2 P (.tbl (ps ++ more))) { s2 with heap := h3, toks := tk } := inv_tab (g' := s2.gens) (d' := s2.drawn) I2 hP hx hP3 I2.bare
    obtain ⟨W, ⟨m0, w0⟩, turn⟩ := q2 _ (⟨⟨ps ++ more, upd_same, ht3⟩, fun b hb => upd_ne hb⟩ : Tabbed P H2 (upd H2 P (.tbl (ps ++ more))))
    generalize hH4 : upd H2 P (.tbl (ps ++ more)) = H4 at I4 w0
    have nf4 : ∀ b ∈ fp, H4 b = none := fun b hb => by rw [← hH4, upd_ne (Pfp b hb)]; exact (f2 b hb).1
    have f4 : ∀ b ∈ fp, FpOk X pins H4 b ∧ b < ({ s2 with heap := h3, toks := tk } : Shared).heap.objs.size := fun b hb => ⟨⟨nf4 b hb, (f2 b hb).2⟩, Nat.lt_of_lt_of_le (sz b hb) hsz⟩
    have st4 : tn 0 h3 := T.keep _ _ _ st2 fun b hb o e => hx b o (Pfp b hb) e
    have hsz' : h'.objs.size = h3.objs.size + 1 := by rw [hs'.1, Heap.size_push]
    have keep' : ∀ b o, h3.get? b = some o → h'.get? b = some o := fun b o e => hs'.extBut b o (Nat.ne_of_lt (Heap.lt_size e)) (Heap.get?_push_of_some _ e)
    generalize hgo : ({ cls := .type "generator", data := .fields #[.int ({ s2 with heap := h3, toks := tk } : Shared).gens.size 0, .str "<genexpr>" (({ s2 with heap := h3, toks := tk } : Shared).toks + 1), .str (X.env.qual ++ "<genexpr>") (({ s2 with heap := h3, toks := tk } : Shared).toks + 1 + 1)] } : Obj) = go
    have keep5 : ∀ b o, h3.get? b = some o → (h'.push go).get? b = some o := fun b o e => Heap.get?_push_of_some _ (keep' b o e)
    have hga : (h'.push go).get? h'.objs.size = some go := Heap.get?_push_size _ (by rw [← hgo]; rfl)
    have hgd : ∀ v, go.data ≠ .cell v := fun v z => by rw [← hgo] at z; cases z
    have apart : ∀ b ∈ fp, h'.objs.size ≠ b := fun b hb e => by
      have h1 : b < h3.objs.size := (f4 b hb).2
      have h2 : b < h'.objs.size := by rw [hsz']; exact Nat.lt_succ_of_lt h1
      rw [e] at h2
      exact Nat.lt_irrefl _ h2
    have start : ∀ s5 : Shared, s5.os = s2.os → AllBare s5.gens → (∀ b o, (h'.push go).get? b = some o → s5.heap.get? b = some o) →
        Inv (gX X { s2 with heap := h3, toks := tk } H4 (gE X scope (cloFrom X.env.cells scope.names []) h3.objs.size code) fp [(h'.objs.size, go)]) [] (wipe σ (own.map (·.2))) H4 s5 := fun s5 os hb k =>
      gx_start I4 ok hN hr.hd f4 os hb (fun b o e => k b o (keep5 b o e)) ⟨_, (hn'.push go).keeps k⟩ (by show h3.objs.size < h'.objs.size; omega) (k _ _ hga) hgd
    refine hQ (gX X { s2 with heap := h3, toks := tk } H4 (gE X scope (cloFrom X.env.cells scope.names []) h3.objs.size code) fp [(h'.objs.size, go)]) fp h'.objs.size s2.gens.size (m0 + 1) _ ⟨go, _, _, by simp, by rw [← hgo], by rw [← hgo], by rw [← hgo]⟩ ?_ fun pins' σ' H' s' I' => ?_
    · refine ⟨⟨go, _, _, hga, by rw [← hgo], by rw [← hgo], by rw [← hgo]⟩, ?_, _, Array.getElem?_push_size .., rfl, ?_⟩
      · exact (lim2.extBut hx (fun e => by
          obtain ⟨_, hns, _⟩ := lim2
          obtain ⟨o', es, ep, ho, hd, _⟩ := hns
          rw [e, hPs] at ho
          cases ho
          cases hd)).keeps keep5
      · refine gx2_begin hc ok.co hv T (hg _ _ _ _ _ _ _) (ht _ _ _ _ _ _ _) (hi1 _ _ _ _ _ _ _) (hg1 _ _ _ _ _ _ _) (ht1 _ _ _ _ _ _ _) (he _ _ _ _ _ _ _) (hs1 _) turn (fun b hb p hp => ?_) (m0 + 1) m0 _ _ H4 (Nat.lt_succ_self _) (start _ rfl (allBare_setGen (AllBare.push I2.bare rfl) rfl) fun _ _ e => e) ?_ nf4 w0
        · have e : p = (h'.objs.size, go) := by simpa using hp
          subst e
          exact apart b hb
        · exact T.keep _ _ _ st4 fun b _ o e => keep5 b o e
    · exact I4.call' (ch := fp) I'.os I'.base I'.hok I'.bare fun b hb => ⟨(f4 b hb).1.2.2.2.1, (f4 b hb).1.2.1, (f4 b hb).1.2.2.2.2.1, (f4 b hb).1.2.2.2.2.2⟩
  refine ⟨lim2, ?_⟩
  cases hf : codeAmong gpos ps.toList with
  | none =>
    refine wpAny_genexprCodeX hcode (cd.code hPs htr) (cd.tab hPs) hf fun c' h' tk hx hge hlt hco' _ htab' _ => ?_
    obtain ⟨o1, vs, f1, tf, fl, tg, inF, tx, tt, op, _, _, _, _, _, _, _, _, _, htr, _⟩ := hco'
    exact cont _ h' tk _ hx (Nat.le_trans hge (Nat.le_of_lt hlt)) htab'.2 ⟨_, rfl⟩ htr
  | some cv =>
    refine wpAny_genexprCode_hit hcode (cd.code hPs htr) hf ?_
    exact cont cv s2.heap s2.toks ps (Heap.ExtBut.refl _ _) (Nat.le_refl _) hPs ⟨#[], by simp⟩ htr

end
section
variable {X : Cx}

def tAllG2 (P : Addr) (wi : TI) (g : TG) (tt : TT) (wi1 : TI) (g1 : TG) (tt1 : TT) (te : TE) (vs vs1 : List Nat) : TE := fun σ H Q => wi σ H fun J H1 => TabG H1 P ∧ ∀ H2, Tabbed P H1 H2 → ∃ W : Nat → Nat → Hp → Prop, (∃ m, W 0 m H2) ∧ GTurns2 J g tt wi1 g1 tt1 te vs vs1 σ W (fun H => Q (.bl true) H) (consAll fun b H => Q (.bl b) H)
def tAnyG2 (P : Addr) (wi : TI) (g : TG) (tt : TT) (wi1 : TI) (g1 : TG) (tt1 : TT) (te : TE) (vs vs1 : List Nat) : TE := fun σ H Q => wi σ H fun J H1 => TabG H1 P ∧ ∀ H2, Tabbed P H1 H2 → ∃ W : Nat → Nat → Hp → Prop, (∃ m, W 0 m H2) ∧ GTurns2 J g tt wi1 g1 tt1 te vs vs1 σ W (fun H => Q (.bl false) H) (consAny fun b H => Q (.bl b) H)
theorem pe_allG2 {c P : Addr} {elt tg iter tg1 iter1 : Expr} {ifs ifs1 : List Expr} {vs1 : List Nat} {scope : Scope} {own : List (Str × Nat)} {p pos gpos : Pos} {wi wi1 : TI} {g g1 : TG} {tt tt1 : TT} {te : TE}
    (hr : Room 1 X.A) (hc : X.calm = true) (hN : X.N.Nodup) (hgl : Gl X "all") (hm : X.mg "all" = none) (TB : LamX.TabB X.base X.mg c P) (hcode : X.env.code = .ref c) (ok : GOk X.N X.env.scope scope own) (hv : ∀ i ∈ vs1, i ∈ own.map (·.2)) (hi : PI X tg iter wi)
    (hg : ∀ (s : Shared) (H : Hp) (C : Addr) (cl : List (Str × Addr)) (code : Value) (fp : List Addr) (pn : List (Addr × Obj)), PG (gX X s H (gE X scope cl C code) fp pn) tg g)
    (ht : ∀ (s : Shared) (H : Hp) (C : Addr) (cl : List (Str × Addr)) (code : Value) (fp : List Addr) (pn : List (Addr × Obj)), PTs (gX X s H (gE X scope cl C code) fp pn) ifs tt)
    (hi1 : ∀ (s : Shared) (H : Hp) (C : Addr) (cl : List (Str × Addr)) (code : Value) (fp : List Addr) (pn : List (Addr × Obj)), PI (gX X s H (gE X scope cl C code) fp pn) tg1 iter1 wi1)
    (hg1 : ∀ (s : Shared) (H : Hp) (C : Addr) (cl : List (Str × Addr)) (code : Value) (fp : List Addr) (pn : List (Addr × Obj)), PG (gX X s H (gE X scope cl C code) fp pn) tg1 g1)
    (ht1 : ∀ (s : Shared) (H : Hp) (C : Addr) (cl : List (Str × Addr)) (code : Value) (fp : List Addr) (pn : List (Addr × Obj)), PTs (gX X s H (gE X scope cl C code) fp pn) ifs1 tt1)
    (he : ∀ (s : Shared) (H : Hp) (C : Addr) (cl : List (Str × Addr)) (code : Value) (fp : List Addr) (pn : List (Addr × Obj)), PE (gX X s H (gE X scope cl C code) fp pn) elt te)
    (hs : ∀ v, genFold iter X.env v = pure v := by intro _; rfl) (hs1 : ∀ env v, foldedSetIterable iter1 env v = pure v := by intro _ _; rfl)
    (hst : starEach [.GeneratorExp elt [⟨tg, iter, ifs, 0⟩, ⟨tg1, iter1, ifs1, 0⟩] scope gpos] X.env = (false, eval (.GeneratorExp elt [⟨tg, iter, ifs, 0⟩, ⟨tg1, iter1, ifs1, 0⟩] scope gpos) X.env) :: starEach [] X.env := by rfl) :
    PE X (.Call (.Name "all" p) [.GeneratorExp elt [⟨tg, iter, ifs, 0⟩, ⟨tg1, iter1, ifs1, 0⟩] scope gpos] [] pos) (tAllG2 P wi g tt wi1 g1 tt1 te (own.map (·.2)) vs1) := by
  refine ⟨fun pins s σ H Q I h => ?_⟩
  refine wpAny_Call_Name_kw (ld_blt I hgl hm boot_all ?_)
  refine PyProof.Rows.callWith_builtin1 ?_ hst (by rfl)
  rw [hst]
  show wpAny _ _ (spliced ((false, eval (.GeneratorExp elt [⟨tg, iter, ifs, 0⟩, ⟨tg1, iter1, ifs1, 0⟩] scope gpos) X.env) :: backTo pos (starEach [] X.env))) _ _ s
  refine Calls.spliced_cons (gx2_make (Qe := fun H => Q (.bl true) H) (cons := consAll fun b H => Q (.bl b) H) hr hc hN TB hcode ok hv hi hg ht hi1 hg1 ht1 he hs hs1 I h fun Xg fp a gg n s5 hp hG back => ?_)
  refine Calls.spliced_nil ?_
  refine call_function_tree F.kind_all F.plain_all F.entry_all (F.args_all1 _) ?_
  unfold Builtin.«all»
  refine wpAny_bind (m := oneArg "all" _) (wpAny_pure ?_)
  refine wpAny_bind (wpAny_pyIter_gen hG.1 ?_)
  refine wpAny_pure ⟨plainId_quiet F.plain_all_loop _, all_loop (Q := fun b H => Q (.bl b) H) hr hp (fun b pins' σ' H' s' I' q => ?_) n s5 hG⟩
  exact ⟨.bl b, H', back _ _ _ _ I', rfl, q⟩
theorem pe_anyG2 {c P : Addr} {elt tg iter tg1 iter1 : Expr} {ifs ifs1 : List Expr} {vs1 : List Nat} {scope : Scope} {own : List (Str × Nat)} {p pos gpos : Pos} {wi wi1 : TI} {g g1 : TG} {tt tt1 : TT} {te : TE}
    (hr : Room 1 X.A) (hc : X.calm = true) (hN : X.N.Nodup) (hgl : Gl X "any") (hm : X.mg "any" = none) (TB : LamX.TabB X.base X.mg c P) (hcode : X.env.code = .ref c) (ok : GOk X.N X.env.scope scope own) (hv : ∀ i ∈ vs1, i ∈ own.map (·.2)) (hi : PI X tg iter wi)
    (hg : ∀ (s : Shared) (H : Hp) (C : Addr) (cl : List (Str × Addr)) (code : Value) (fp : List Addr) (pn : List (Addr × Obj)), PG (gX X s H (gE X scope cl C code) fp pn) tg g)
    (ht : ∀ (s : Shared) (H : Hp) (C : Addr) (cl : List (Str × Addr)) (code : Value) (fp : List Addr) (pn : List (Addr × Obj)), PTs (gX X s H (gE X scope cl C code) fp pn) ifs tt)
    (hi1 : ∀ (s : Shared) (H : Hp) (C : Addr) (cl : List (Str × Addr)) (code : Value) (fp : List Addr) (pn : List (Addr × Obj)), PI (gX X s H (gE X scope cl C code) fp pn) tg1 iter1 wi1)
    (hg1 : ∀ (s : Shared) (H : Hp) (C : Addr) (cl : List (Str × Addr)) (code : Value) (fp : List Addr) (pn : List (Addr × Obj)), PG (gX X s H (gE X scope cl C code) fp pn) tg1 g1)
    (ht1 : ∀ (s : Shared) (H : Hp) (C : Addr) (cl : List (Str × Addr)) (code : Value) (fp : List Addr) (pn : List (Addr × Obj)), PTs (gX X s H (gE X scope cl C code) fp pn) ifs1 tt1)
    (he : ∀ (s : Shared) (H : Hp) (C : Addr) (cl : List (Str × Addr)) (code : Value) (fp : List Addr) (pn : List (Addr × Obj)), PE (gX X s H (gE X scope cl C code) fp pn) elt te)
    (hs : ∀ v, genFold iter X.env v = pure v := by intro _; rfl) (hs1 : ∀ env v, foldedSetIterable iter1 env v = pure v := by intro _ _; rfl)
    (hst : starEach [.GeneratorExp elt [⟨tg, iter, ifs, 0⟩, ⟨tg1, iter1, ifs1, 0⟩] scope gpos] X.env = (false, eval (.GeneratorExp elt [⟨tg, iter, ifs, 0⟩, ⟨tg1, iter1, ifs1, 0⟩] scope gpos) X.env) :: starEach [] X.env := by rfl) :
    PE X (.Call (.Name "any" p) [.GeneratorExp elt [⟨tg, iter, ifs, 0⟩, ⟨tg1, iter1, ifs1, 0⟩] scope gpos] [] pos) (tAnyG2 P wi g tt wi1 g1 tt1 te (own.map (·.2)) vs1) := by
  refine ⟨fun pins s σ H Q I h => ?_⟩
  refine wpAny_Call_Name_kw (ld_blt I hgl hm boot_any ?_)
  refine PyProof.Rows.callWith_builtin1 ?_ hst (by rfl)
  rw [hst]
  show wpAny _ _ (spliced ((false, eval (.GeneratorExp elt [⟨tg, iter, ifs, 0⟩, ⟨tg1, iter1, ifs1, 0⟩] scope gpos) X.env) :: backTo pos (starEach [] X.env))) _ _ s
  refine Calls.spliced_cons (gx2_make (Qe := fun H => Q (.bl false) H) (cons := consAny fun b H => Q (.bl b) H) hr hc hN TB hcode ok hv hi hg ht hi1 hg1 ht1 he hs hs1 I h fun Xg fp a gg n s5 hp hG back => ?_)
  refine Calls.spliced_nil ?_
  refine call_function_tree F.kind_any F.plain_any F.entry_any (F.args_any1 _) ?_
  unfold Builtin.«any»
  refine wpAny_bind (m := oneArg "any" _) (wpAny_pure ?_)
  refine wpAny_bind (wpAny_pyIter_gen hG.1 ?_)
  refine wpAny_pure ⟨plainId_quiet F.plain_any_loop _, any_loop (Q := fun b H => Q (.bl b) H) hr hp (fun b pins' σ' H' s' I' q => ?_) n s5 hG⟩
  exact ⟨.bl b, H', back _ _ _ _ I', rfl, q⟩
end
end GX

set_option Elab.async false
set_option linter.all false
set_option maxRecDepth 100000
set_option maxHeartbeats 2000000
/-! Tree: data as trees over the abstract heap, what stays of a heap (tables of code objects may grow, what is named may change), repr. -/
namespace Tree
open PySem PySem.Spec PyProof.Rows L2 GxR

/-! ### what stays -/
/-- all that is tracked is as it was, but what B names; a table of a code object may have grown -/
def Kx (B : List Addr) (H H' : Hp) : Prop := ∀ b o, b ∉ B → H b = some o → H' b = some o ∨ ∃ ps qs, o = .tbl ps ∧ H' b = some (.tbl qs) ∧ (TriplesOk ps.toList → TriplesOk qs.toList)
theorem Kx.refl {B : List Addr} (H : Hp) : Kx B H H := fun _ _ _ h => .inl h
theorem Kx.trans {B : List Addr} {H H1 H2 : Hp} (a : Kx B H H1) (b : Kx B H1 H2) : Kx B H H2 := fun c o n h => by
  rcases a c o n h with h1 | ⟨ps, qs, rfl, h1, f⟩
  · exact b c o n h1
  · rcases b c _ n h1 with h2 | ⟨ps', qs', e, h2, f'⟩
    · exact .inr ⟨ps, qs, rfl, h2, f⟩
    · cases e
      exact .inr ⟨ps, qs', rfl, h2, fun z => f' (f z)⟩
theorem Kx.of {B : List Addr} {H H' : Hp} (k : Kx [] H H') : Kx B H H' := fun b o _ h => k b o (by simp) h
theorem Kx.sub {B C : List Addr} {H H' : Hp} (k : Kx B H H') (h : ∀ b ∈ B, b ∈ C) : Kx C H H' := fun b o n e => k b o (fun z => n (h b z)) e
/-- a new object -/
theorem Kx.new {B : List Addr} {H : Hp} {p : Addr} {o : HO} (h : H p = none) : Kx B H (upd H p o) := fun b u _ e => .inl (by rw [upd_ne (ne_of_none e h)]; exact e)
/-- a named object is written -/
theorem Kx.put {B : List Addr} {H : Hp} {p : Addr} {o : HO} (h : p ∈ B) : Kx B H (upd H p o) := fun b u n e => .inl (by rw [upd_ne (fun z => n (by rw [z]; exact h))]; exact e)
/-- an object younger than H may change -/
theorem Kx.mut {B : List Addr} {H H' : Hp} {p : Addr} {o : HO} (k : Kx B H H') (h : H p = none) : Kx B H (upd H' p o) := fun b u n e => by
  have hb : b ≠ p := ne_of_none e h
  rw [upd_ne hb]
  exact k b u n e
theorem Kx.at {B : List Addr} {H H' : Hp} (k : Kx B H H') {b : Addr} {o : HO} (n : b ∉ B) (h : H b = some o) (ht : ∀ ps, o ≠ .tbl ps) : H' b = some o := by
  rcases k b o n h with h1 | ⟨ps, _, e, _⟩
  · exact h1
  · exact absurd e (ht ps)
theorem Kx.lst {B : List Addr} {H H' : Hp} (k : Kx B H H') {b : Addr} {xs : List V} (n : b ∉ B) (h : H b = some (.lst xs)) : H' b = some (.lst xs) := k.at n h fun _ z => by cases z
theorem Kx.tup {B : List Addr} {H H' : Hp} (k : Kx B H H') {b : Addr} {xs : List V} (n : b ∉ B) (h : H b = some (.tup xs)) : H' b = some (.tup xs) := k.at n h fun _ z => by cases z
theorem Kx.free {B : List Addr} {H H' : Hp} (k : Kx B H H') {b : Addr} (n : b ∉ B) (h : H' b = none) : H b = none := by
  cases e : H b with
  | none => rfl
  | some o =>
    rcases k b o n e with h1 | ⟨_, _, _, h1, _⟩ <;> rw [h] at h1 <;> cases h1
/-- what Tabbed says -/
theorem Kx.tabbed {B : List Addr} {H H' : Hp} {P : Addr} (h0 : TabG H P) (h : Tabbed P H H') : Kx B H H' := fun b o _ e => by
  by_cases hb : b = P
  · subst hb
    obtain ⟨ps, e1, t1⟩ := h0
    obtain ⟨⟨qs, e2, t2⟩, _⟩ := h
    rw [e] at e1; cases e1
    exact .inr ⟨ps, qs, rfl, e2, fun _ => t2⟩
  · exact .inl (by rw [h.2 b hb]; exact e)
theorem Kx.tab {B : List Addr} {H H' : Hp} {P : Addr} (k : Kx B H H') (n : P ∉ B) (h : TabG H P) : TabG H' P := by
  obtain ⟨ps, e, t⟩ := h
  rcases k P _ n e with h1 | ⟨_, qs, e2, h1, f⟩
  · exact ⟨ps, h1, t⟩
  · cases e2
    exact ⟨qs, h1, f t⟩
/-- the tables stand -/
def Tb (Ps : List Addr) (H : Hp) : Prop := ∀ P ∈ Ps, TabG H P
theorem Tb.kx {B : List Addr} {H H' : Hp} {Ps : List Addr} (h : Tb Ps H) (k : Kx B H H') (n : ∀ P ∈ Ps, P ∉ B := by intro P _; simp) : Tb Ps H' := fun P hP => k.tab (n P hP) (h P hP)
theorem Tb.sub {H : Hp} {Ps Qs : List Addr} (h : Tb Ps H) (s : ∀ P ∈ Qs, P ∈ Ps) : Tb Qs H := fun P hP => h P (s P hP)

/-! ### trees -/
mutual
/-- v is the tree d over H, no part of it at an address of B -/
inductive Tr (B : List Addr) (H : Hp) : V → PyData → Prop
  | non : Tr B H .non .none
  | bl (b : Bool) : Tr B H (.bl b) (.bool b)
  | int (i : Int) : Tr B H (.int i) (.int i)
  | str (x : Str) : Tr B H (.str x) (.str x)
  | lst {a : Addr} {xs : List V} {ds : List PyData} : a ∉ B → H a = some (.lst xs) → TrAll B H xs ds → Tr B H (.ref a) (.list ds)
  | tup {a : Addr} {xs : List V} {ds : List PyData} : a ∉ B → H a = some (.tup xs) → TrAll B H xs ds → Tr B H (.ref a) (.tuple ds)
  | dic {a : Addr} : a ∉ B → H a = some (.dK []) → Tr B H (.ref a) (.dict [])
inductive TrAll (B : List Addr) (H : Hp) : List V → List PyData → Prop
  | nil : TrAll B H [] []
  | cons {v : V} {vs : List V} {d : PyData} {ds : List PyData} : Tr B H v d → TrAll B H vs ds → TrAll B H (v :: vs) (d :: ds)
end
mutual
theorem Tr.kx {B C : List Addr} {H H' : Hp} (k : Kx C H H') (hs : ∀ b ∈ C, b ∈ B) : ∀ (d : PyData) (v : V), Tr B H v d → Tr B H' v d
  | _, _, .non => .non
  | _, _, .bl b => .bl b
  | _, _, .int i => .int i
  | _, _, .str x => .str x
  | .list ds, _, .lst n h l => .lst n (k.lst (fun z => n (hs _ z)) h) (TrAll.kx k hs ds _ l)
  | .tuple ds, _, .tup n h l => .tup n (k.tup (fun z => n (hs _ z)) h) (TrAll.kx k hs ds _ l)
  | _, _, .dic n h => .dic n (k.at (fun z => n (hs _ z)) h fun _ z => by cases z)
theorem TrAll.kx {B C : List Addr} {H H' : Hp} (k : Kx C H H') (hs : ∀ b ∈ C, b ∈ B) : ∀ (ds : List PyData) (vs : List V), TrAll B H vs ds → TrAll B H' vs ds
  | _, _, .nil => .nil
  | d :: ds, _, .cons h t => .cons (Tr.kx k hs d _ h) (TrAll.kx k hs ds _ t)
end
mutual
/-- fewer addresses are forbidden -/
theorem Tr.less {B C : List Addr} {H : Hp} (hs : ∀ b ∈ C, b ∈ B) : ∀ (d : PyData) (v : V), Tr B H v d → Tr C H v d
  | _, _, .non => .non
  | _, _, .bl b => .bl b
  | _, _, .int i => .int i
  | _, _, .str x => .str x
  | .list ds, _, .lst n h l => .lst (fun z => n (hs _ z)) h (TrAll.less hs ds _ l)
  | .tuple ds, _, .tup n h l => .tup (fun z => n (hs _ z)) h (TrAll.less hs ds _ l)
  | _, _, .dic n h => .dic (fun z => n (hs _ z)) h
theorem TrAll.less {B C : List Addr} {H : Hp} (hs : ∀ b ∈ C, b ∈ B) : ∀ (ds : List PyData) (vs : List V), TrAll B H vs ds → TrAll C H vs ds
  | _, _, .nil => .nil
  | d :: ds, _, .cons h t => .cons (Tr.less hs d _ h) (TrAll.less hs ds _ t)
end
section
variable {B : List Addr} {H H' : Hp} {v : V} {d : PyData} {vs : List V} {ds : List PyData}
theorem Tr.up (h : Tr B H v d) (k : Kx [] H H') : Tr B H' v d := Tr.kx k (by simp) d v h
theorem Tr.upB (h : Tr B H v d) (k : Kx B H H') : Tr B H' v d := Tr.kx k (fun _ z => z) d v h
theorem TrAll.up (h : TrAll B H vs ds) (k : Kx [] H H') : TrAll B H' vs ds := TrAll.kx k (by simp) ds vs h
theorem TrAll.upB (h : TrAll B H vs ds) (k : Kx B H H') : TrAll B H' vs ds := TrAll.kx k (fun _ z => z) ds vs h
theorem Tr.nil (h : Tr B H v d) : Tr [] H v d := Tr.less (by simp) d v h
theorem TrAll.nilB (h : TrAll B H vs ds) : TrAll [] H vs ds := TrAll.less (by simp) ds vs h
theorem TrAll.length : ∀ {vs : List V} {ds : List PyData}, TrAll B H vs ds → vs.length = ds.length
  | _, _, .nil => rfl
  | _, _, .cons _ t => congrArg (· + 1) t.length
theorem TrAll.get : ∀ {vs : List V} {ds : List PyData} {i : Nat} {v : V}, TrAll B H vs ds → vs[i]? = some v → ∃ d, ds[i]? = some d ∧ Tr B H v d
  | _, _, _, _, .nil, e => by simp at e
  | _, _, 0, _, .cons h _, e => by simp at e; subst e; exact ⟨_, rfl, h⟩
  | _, _, i + 1, _, .cons _ t, e => by
    obtain ⟨d, h1, h2⟩ := TrAll.get (i := i) t (by simpa using e)
    exact ⟨d, by simpa using h1, h2⟩
theorem TrAll.get' : ∀ {vs : List V} {ds : List PyData} {i : Nat} {d : PyData}, TrAll B H vs ds → ds[i]? = some d → ∃ v, vs[i]? = some v ∧ Tr B H v d
  | _, _, _, _, .nil, e => by simp at e
  | _, _, 0, _, .cons h _, e => by simp at e; subst e; exact ⟨_, rfl, h⟩
  | _, _, i + 1, _, .cons _ t, e => by
    obtain ⟨d, h1, h2⟩ := TrAll.get' (i := i) t (by simpa using e)
    exact ⟨d, by simpa using h1, h2⟩
theorem TrAll.append : ∀ {vs ws : List V} {ds es : List PyData}, TrAll B H vs ds → TrAll B H ws es → TrAll B H (vs ++ ws) (ds ++ es)
  | _, _, _, _, .nil, s => s
  | _, _, _, _, .cons r t, s => .cons r (TrAll.append t s)
theorem TrAll.take : ∀ {vs : List V} {ds : List PyData} (n : Nat), TrAll B H vs ds → TrAll B H (vs.take n) (ds.take n)
  | _, _, 0, _ => .nil
  | _, _, _ + 1, .nil => .nil
  | _, _, n + 1, .cons r t => .cons r (TrAll.take n t)
theorem TrAll.drop : ∀ {vs : List V} {ds : List PyData} (n : Nat), TrAll B H vs ds → TrAll B H (vs.drop n) (ds.drop n)
  | _, _, 0, r => r
  | _, _, _ + 1, .nil => .nil
  | _, _, n + 1, .cons _ t => TrAll.drop n t
theorem TrAll.reverse : ∀ {vs : List V} {ds : List PyData}, TrAll B H vs ds → TrAll B H vs.reverse ds.reverse
  | _, _, .nil => .nil
  | _, _, .cons r t => by
    rw [List.reverse_cons, List.reverse_cons]
    exact TrAll.append (TrAll.reverse t) (.cons r .nil)
theorem TrAll.snoc (h : TrAll B H vs ds) (r : Tr B H v d) : TrAll B H (vs ++ [v]) (ds ++ [d]) := h.append (.cons r .nil)
theorem TrAll.ints : ∀ ns : List Int, TrAll B H (ns.map V.int) (ns.map PyData.int)
  | [] => .nil
  | n :: ns => .cons (.int n) (TrAll.ints ns)
end

/-! ### kinds -/
def tyD : PyData → String
  | .none => "NoneType"
  | .bool _ => "bool"
  | .int _ => "int"
  | .str _ => "str"
  | .list _ => "list"
  | .tuple _ => "tuple"
  | .dict _ => "dict"
theorem Tr.ty {K : PySem.W.Frag} {B : List Addr} {H : Hp} {v : V} {d : PyData} (h : Tr B H v d) : TyX K H v (.type (tyD d)) := by
  cases h with
  | non => exact .base .non
  | bl b => exact .base (.bl b)
  | int i => exact .base (.int i)
  | str x => exact .base (.str x)
  | lst _ h _ => exact .base (.lst h)
  | tup _ h _ => exact .base (.tup h)
  | dic _ h => exact .base (.dK h)

/-! ### to the library's Reads -/
theorem dic_entries {P : Program} {w : World} {h : Heap} {a : Addr} (x : h.DictOf (mixKind P w) a []) : ∃ o es n, h.get? a = some o ∧ o.cls = .type "dict" ∧ o.data = .dict es n ∧ es.toList = [] := by
  obtain ⟨o, es, n, e, hx, hd, _, hes, _⟩ := x
  refine ⟨o, es, n, e, hx.1, hd, ?_⟩
  cases q : es.toList with
  | nil => rfl
  | cons y r =>
    rw [q] at hes
    exact nomatch hes
section
variable {X : Cx} {pins : List (Addr × Obj)} {σ : L2.St} {s : Shared}
mutual
theorem Tr.reads {B : List Addr} {H : Hp} (I : Inv X pins σ H s) : ∀ (d : PyData) (v : V) (u : Value), Tr B H v d → RelV v u → ∃ as, Reads s.heap u d as ∧ ∀ b ∈ as, H b ≠ none
  | .none, v, u, h, r => by
    cases h
    cases r
    exact ⟨[], .none, by simp⟩
  | .bool b, v, u, h, r => by
    cases h
    cases r
    exact ⟨[], .bool b, by simp⟩
  | .int i, v, u, h, r => by
    cases h
    obtain ⟨t, rfl⟩ := r
    exact ⟨[], .int i t, by simp⟩
  | .str x, v, u, h, r => by
    cases h
    obtain ⟨t, rfl⟩ := r
    exact ⟨[], .str x t, by simp⟩
  | .list ds, v, u, h, r => by
    cases h with
    | lst n e l =>
      rename_i a xs
      obtain rfl : u = Value.ref a := r
      obtain ⟨_, its, k, rv, e2⟩ := I.hok a _ e
      obtain ⟨as, h1, h2⟩ := TrAll.reads I ds xs its l rv
      exact ⟨a :: as, .list e2 rfl rfl (by simpa using h1), fun b hb => by
        rcases List.mem_cons.mp hb with z | z
        · rw [z, e]; simp
        · exact h2 b z⟩
  | .tuple ds, v, u, h, r => by
    cases h with
    | tup n e l =>
      rename_i a xs
      obtain rfl : u = Value.ref a := r
      obtain ⟨_, its, rv, o, e2, c, k, d⟩ := I.hok a _ e
      obtain ⟨as, h1, h2⟩ := TrAll.reads I ds xs its l rv
      exact ⟨as, .tuple e2 c d (by simpa using h1), h2⟩
  | .dict kvs, v, u, h, r => by
    cases h with
    | dic n e =>
      rename_i a
      obtain rfl : u = Value.ref a := r
      obtain ⟨_, _, vs, kv, x⟩ := I.hok a _ e
      cases kv
      obtain ⟨o, es, k, e2, c, hd, hes⟩ := dic_entries x
      refine ⟨a :: [] ++ [], .dict (n := k) e2 c hd (by rw [hes]; exact .nil) (by rw [hes]; exact .nil), fun b hb => ?_⟩
      have z : b = a := by simpa using hb
      rw [z, e]; simp
theorem TrAll.reads {B : List Addr} {H : Hp} (I : Inv X pins σ H s) : ∀ (ds : List PyData) (vs : List V) (us : List Value), TrAll B H vs ds → Vals vs us → ∃ as, ReadsAll s.heap us ds as ∧ ∀ b ∈ as, H b ≠ none
  | [], vs, us, h, r => by
    cases h
    cases r
    exact ⟨[], .nil, by simp⟩
  | d :: ds, vs, us, h, r => by
    cases h with
    | cons h1 h2 =>
      cases r with
      | cons r1 r2 =>
        obtain ⟨as, a1, a2⟩ := Tr.reads I d _ _ h1 r1
        obtain ⟨bs, b1, b2⟩ := TrAll.reads I ds _ _ h2 r2
        exact ⟨as ++ bs, .cons a1 b1, fun b hb => (List.mem_append.mp hb).elim (a2 b) (b2 b)⟩
end
/-- repr of a tree, where no guard is under way -/
def rRepr : List V → Hp → VK → Prop := fun xs H Q => ∃ v d, xs = [v] ∧ Tr [] H v d ∧ d.showable = true ∧ d.depth ≤ 40 ∧ d.shown.length ≤ sizeLine ∧ Q (.str d.shown) H
theorem call_repr_tree (hg : X.A.guards = some []) (hu : X.A.units + 64 < cLine) (hm : ∃ o, X.base.get? sysModules = some o) : CallR X (.builtin "repr") rRepr := by
  intro pins s σ H vs us Q I r h
  obtain ⟨v, d, rfl, ht, hs, hd, hz, q⟩ := h
  cases r with
  | cons r rr =>
    cases rr
    rename_i u
    obtain ⟨as, hr, ha⟩ := Tr.reads I d v u ht r
    have fin : ∀ (h' : Heap) (t tk : Nat), (∀ b o, s.heap.get? b = some o → h'.get? b = some o) → EP X pins σ Q (.str d.shown t) { s with heap := h', toks := tk } := fun h' t tk k => ⟨.str d.shown, H, I.kept (t' := tk) k, ⟨t, rfl⟩, q⟩
    cases hr with
    | none => exact PySem.P.repr_of_none (fin s.heap _ _ fun _ _ e => e)
    | bool b => exact PySem.P.repr_of_bool (fin s.heap _ _ fun _ _ e => e)
    | int i t => exact PySem.P.repr_of_int (by simpa [PyData.showable] using hs) (fin s.heap _ _ fun _ _ e => e)
    | str x t => exact PySem.P.repr_of_str (fin s.heap _ _ fun _ _ e => e) hz
    | list h1 h2 h3 h4 =>
      exact repr_of_reads' (.list h1 h2 h3 h4) hs (fun _ z => by
        obtain ⟨o, e⟩ := hm
        exact ha _ z (I.bs _ _ e).2) hg (by omega) (fun _ _ e => e) (fun h' t tk k => fin h' t tk k) hz
    | tuple h1 h2 h3 h4 =>
      exact repr_of_reads' (.tuple h1 h2 h3 h4) hs (fun _ z => by
        obtain ⟨o, e⟩ := hm
        exact ha _ z (I.bs _ _ e).2) hg (by omega) (fun _ _ e => e) (fun h' t tk k => fin h' t tk k) hz
    | dict h1 h2 h3 h4 h5 =>
      exact repr_of_reads' (.dict h1 h2 h3 h4 h5) hs (fun _ z => by
        obtain ⟨o, e⟩ := hm
        exact ha _ z (I.bs _ _ e).2) hg (by omega) (fun _ _ e => e) (fun h' t tk k => fin h' t tk k) hz
end
end Tree

set_option Elab.async false
set_option linter.all false
set_option maxRecDepth 100000
set_option maxHeartbeats 2000000
/-! EndG: the end of a law row whose own def asks repr: no guard is under way where it is called. -/
namespace EndG
open PySem PySem.Spec PyProof.Rows L2
/-- a def kept where no guard is under way -/
structure FnG (P : Program) (w : World) (K : PySem.W.Frag) (mg : Str → Option Value) (base : Heap) (k : Nat) (f : Addr) (fd : FuncData) (ps : List Str) (sp : Sp) : Prop where
  len : ∀ vs H Q E, sp vs H Q E → vs.length = ps.length
  run : ∀ (A : Around) (outer : List Env) (s : Shared) (H : Hp) (args : Args) (us : List Value) (vs : List V) (Q : VK) (E : XK), A.guards = some [] → Room k A → Env0 P w K mg base A outer s H → BindsTo s fd args (ps.zip us) → Vals vs us → sp vs H Q E →
    codeAny (model P w) A (.call (.ref f) args) (CR CX0 outer P w H s Q E) s
section
variable {P : Program} {w : World} {K : PySem.W.Frag} {mg : Str → Option Value} {base : Heap}
theorem fnG {x qual : Str} {st : Stmt} {f : Addr} {fd : FuncData} {N ps : List Str} {k : Nat} {sp : Sp} (F : FunD K x qual (defArgs st) (defBody st) (defScope st) [] [] f fd) (S : FnScope N ps (defScope st)) (len : ∀ vs H Q E, sp vs H Q E → vs.length = ps.length)
    (hbody : ∀ (cdv : Value) (A : Around) (outer : List Env) (s : Shared) (H : Hp) (vs : List V) (Q : VK) (E : XK), A.guards = some [] → fd.code = cdv → Room k (A.deeper (envOfC qual (defScope st) s.heap.objs.size f cdv)) → sp vs H Q E →
      ∃ t, PSs (cxOf CX0 P w K mg base N qual (defScope st) f cdv A outer s H E).nox (defBody st) t ∧ t { nx := fun _ H' => Q .non H', rt := Q } (start N vs) H) : FnG P w K mg base (k + 1) f fd ps sp := by
  obtain ⟨oc, od, dV, kV, doc, pm, an, cdv, ct, osl, rfl, lk, hcd, _, _⟩ := F.ex
  refine ⟨len, fun A outer s H args us vs Q E hgu hr e0 hb r hsp => ?_⟩
  have KX : K.In s.heap := e0.mod.kin.keeps fun b o e => (e0.bs b o e).1
  have lim := e0.mod.nolimit.keeps fun b o e => (e0.bs b o e).1
  have hkind : ∀ y ∈ ps.zip us, (defScope st).names.lookup y.1 = some .local ∨ ((defScope st).names.lookup y.1 = some .cell ∧ ((cellsFrom (s.heap.objs.size + 1) (defScope st).names []).lookup y.1).isSome = true) := fun y hy =>
    (S.par y.1 (List.of_mem_zip (show (y.1, y.2) ∈ ps.zip us from hy)).1).elim .inl fun q => .inr ⟨q, PySem.W.cellsFrom_some _ _ _ (.inl q)⟩
  refine codeAny_call_function hr.depth (KX _ _ lk) rfl S.co S.gen rfl (PySem.W.codeRec_of KX hcd) (hb _ _ _ _ (wpAny_newFunctionEnv_cells S.kind hkind fun env he s1 x => ?_))
  subst he
  refine ⟨lim.keeps x.toInCall.keep, codeAny_func ?_⟩
  obtain ⟨t, ht, hq⟩ := hbody cdv A outer s H vs Q E hgu rfl (hr.deeper _) hsp
  have I := inv_start (CX := CX0) (E := E) S hr.hd e0 (len _ _ _ _ hsp) r x
  refine wpAny_mono (ht.nox.run [] s1 (start N vs) H _ I hq) (fun fl s' hs => ?_) fun e s' hs => hs
  cases fl with
  | ret u => obtain ⟨v, σ', H', J, rv, q⟩ := hs; exact ⟨v, H', J.os, J.bare, J.base, J.hok, rv, q⟩
  | next => obtain ⟨σ', H', J, q⟩ := hs; exact ⟨V.non, H', J.os, J.bare, J.base, J.hok, rfl, q⟩
  | brk => obtain ⟨_, _, _, q⟩ := hs; exact q.elim
  | cont => obtain ⟨_, _, _, q⟩ := hs; exact q.elim
/-- what is known of the law's promise at the head's heap h; cs: the code objects with their tables -/
def LawAtG (l : PySem.W.OpenLaw) (w : World) (K : PySem.W.Frag) (k n : Nat) (x : Str) (mg : Str → Option Value) (fa : Addr) (h : Heap) : Prop :=
  ∃ (fd : FuncData) (cs : List (Addr × Addr)) (sp : Sp), (∀ p ∈ cs, h.get? p.2 = some { cls := .none, data := .fields #[] }) ∧ (∀ p ∈ cs, K.lookup p.2 = none) ∧ (∀ p ∈ cs, PySem.W.CodeHd h p.1 p.2) ∧ (∃ o, h.get? sysModules = some o ∧ o.cls = .type "dict") ∧ (∀ (s : Shared) (u : Value), BindsTo s fd ⟨[u], []⟩ [(x, u)]) ∧
    (∀ (H : Hp) (a : Addr) (ns : List Int), ns.length ≤ n → (∀ z ∈ ns, Builtin.Int.intBits z ≤ 1048576) → (∀ p ∈ cs, H p.2 = some (.tbl #[])) → SqL K H a (ns.map V.int) → sp [.ref a] H (fun v _ => v = .bl true) fun _ _ _ => False) ∧
    ∀ base : Heap, K.In base → base.Ns mainGlobals mg → (∀ p ∈ cs, LamX.TabB base mg p.1 p.2) → (∃ o, base.get? sysModules = some o) → FnG l.prog w K mg base k fa fd [x] sp

/-- the call of the law's def behind the head; T: the tables' places -/
theorem law_callG {mb : Str → Option Value} {k : Nat} {fa a : Addr} {cs : List (Addr × Addr)} {fd : FuncData} {x : Str} {sp : Sp} {s₁ : Shared} {vs : List Value} {ns : List Int}
    (KX : K.In s₁.heap) (hns : s₁.heap.Ns mainGlobals mg) (hb : s₁.heap.Ns builtinsNs mb) (hbb : ∀ x : Str, x ≠ "__name__" → mb x = bootBuiltins x) (hlim : s₁.heap.NoLimit) (hg : s₁.gens = #[])
    (hT : ∀ p ∈ cs, s₁.heap.get? p.2 = some { cls := .none, data := .fields #[] }) (nT : ∀ p ∈ cs, K.lookup p.2 = none) (C : ∀ p ∈ cs, PySem.W.CodeHd s₁.heap p.1 p.2)
    (hbm : ∃ (bm : Addr) (ob : Obj), mg "__builtins__" = some (.ref bm) ∧ bm ≠ builtinsNs ∧ s₁.heap.get? bm = some ob ∧ ob.cls = .type "module" ∧ ob.dict = some builtinsNs ∧ ob.data = .plain)
    (ha : s₁.heap.get? a = some { cls := .type "list", data := .seq vs.toArray }) (hi : IntsAre vs ns) (hl : ns.length ≤ sizeLine) (hr : Room k callerA)
    (F : ∀ base : Heap, K.In base → base.Ns mainGlobals mg → (∀ p ∈ cs, LamX.TabB base mg p.1 p.2) → (∃ o, base.get? sysModules = some o) → FnG P w K mg base k fa fd [x] sp) (hsm : ∃ o, s₁.heap.get? sysModules = some o ∧ o.cls = .type "dict") (hbind : ∀ (s : Shared) (u : Value), BindsTo s fd ⟨[u], []⟩ [(x, u)])
    (hsp : ∀ H : Hp, (∀ p ∈ cs, H p.2 = some (.tbl #[])) → SqL K H a (ns.map V.int) → sp [.ref a] H (fun v _ => v = .bl true) fun _ _ _ => False) :
    codeAny (model P w) callerA (.call (.ref fa) ⟨[.ref a], []⟩) (fun r s' => r = .ok (.ret (.bool true)) ∧ OldK s₁.heap s'.heap ∧ s'.os = s₁.os ∧ AllBare s'.gens) s₁ := by
  have rv := vals_ints hi
  have lenV := hi.length
  -- the places of the tables
  have isT : ∀ b : Addr, (∃ p ∈ cs, p.2 = b) → s₁.heap.get? b = some { cls := .none, data := .fields #[] } := fun b ⟨p, hp, e⟩ => e ▸ hT p hp
  have aT : ¬ ∃ p ∈ cs, p.2 = a := fun z => by
    have q := (isT a z).symm.trans ha
    cases q
  -- H: nothing but tables and (where it is no object of the module) the script
  have core : ∀ H : Hp, (∀ p ∈ cs, H p.2 = some (.tbl #[])) → (∀ b, H b = none ∨ (∃ p ∈ cs, p.2 = b) ∨ ∃ o xs, H b = some (.frz o (.lst xs))) → SqL K H a (ns.map V.int) → HOk P w H s₁.heap → (∀ b, H b ≠ none → b = a ∨ ∃ p ∈ cs, p.2 = b) → (H a ≠ none → K.lookup a = none) →
      codeAny (model P w) callerA (.call (.ref fa) ⟨[.ref a], []⟩) (fun r s' => r = .ok (.ret (.bool true)) ∧ OldK s₁.heap s'.heap ∧ s'.os = s₁.os ∧ AllBare s'.gens) s₁ := by
    intro H hH hO hS hok hA hK
    have low : ∀ {b : Addr} {o : Obj}, s₁.heap.get? b = some o → H b = none → (hidT s₁.heap H).get? b = some o := fun e n => hidT_get e n
    have untr : ∀ {b : Addr} {o : Obj}, s₁.heap.get? b = some o → (∀ vs n, o.data ≠ .seq vs n) → o.data ≠ .fields #[] → H b = none := fun {b o} e h1 h2 => by
      refine Classical.byContradiction fun q => ?_
      rcases hA b q with e' | e'
      · subst e'; rw [ha] at e; cases e; exact h1 _ _ rfl
      · rw [isT b e'] at e; cases e; exact h2 rfl
    have nsL : ∀ {b : Addr} {m : Str → Option Value}, s₁.heap.Ns b m → (hidT s₁.heap H).Ns b m := fun {b m} ⟨o, es, ep, e, d, r⟩ =>
      ⟨o, es, ep, low e (untr e (fun _ _ z => by rw [d] at z; cases z) fun z => by rw [d] at z; cases z), d, r⟩
    have hKb : K.In (hidT s₁.heap H) := fun b o e => low (KX b o e) (Classical.byContradiction fun q => by
      rcases hA b q with e' | ⟨p, hp, ep⟩
      · subst e'; rw [hK q] at e; cases e
      · rw [← ep, nT p hp] at e; cases e)
    have hM : L2.Mod K mg (hidT s₁.heap H) := ⟨hKb, nsL hns, ⟨mb, nsL hb, hbb⟩, hlim.elim fun mc h => ⟨mc, nsL h.1, h.2⟩⟩
    have gne : ∀ (b : Addr), s₁.heap.get? b = some { cls := .none, data := .fields #[] } → mainGlobals ≠ b := fun b e z => by
      obtain ⟨o, es, ep, e', hd, _⟩ := hns
      rw [z, e] at e'; cases e'; cases hd
    have TB : ∀ p ∈ cs, LamX.TabB (hidT s₁.heap H) mg p.1 p.2 := fun p hp => by
      refine ⟨?_, ?_, gne _ (hT p hp)⟩
      · obtain ⟨o, us, file, tf, flags, tg, inF, text, tt, e1, r0, r1, r2, r⟩ := C p hp
        refine ⟨o, us, file, tf, flags, tg, inF, text, tt, low e1 (untr e1 (fun _ _ z => ?_) fun z => ?_), r0, r1, r2, r⟩
        · rw [r1] at z; cases z
        · rw [r1] at z; cases z; simp at r2
      · obtain ⟨bm, ob, b1, b2, b3, b4, b5, b6⟩ := hbm
        refine ⟨bm, ob, b1, b2, fun q => ?_, fun q => ?_, low b3 (untr b3 (fun _ _ z => ?_) fun z => ?_), b4, b5, b6⟩
        · obtain ⟨o, es, ep, e, hd, _⟩ := hns
          rw [q, e] at b3; cases b3; rw [hd] at b6; cases b6
        · rw [q, hT p hp] at b3; cases b3; cases b6
        · rw [b6] at z; cases z
        · rw [b6] at z; cases z
    have e0 : Env0 P w K mg (hidT s₁.heap H) callerA [] s₁ H := ⟨rfl, hM, fun b o e => of_hidT e, Nat.le_of_eq (hidT_size _ _), trivial, fun b hb => absurd (show b ∈ ([] : List Addr) from hb) (by simp), hok, .of_eq hg⟩
    have sm : ∃ o, (hidT s₁.heap H).get? sysModules = some o := by
      obtain ⟨o, e, c⟩ := hsm
      refine ⟨o, low e (Classical.byContradiction fun q => ?_)⟩
      rcases hA _ q with e' | e'
      · rw [e', ha] at e; cases e; exact absurd (Value.type.inj c) (by decide)
      · rw [isT _ e'] at e; cases e; cases c
    refine codeAny_mono ((F _ hKb (nsL hns) TB sm).run callerA [] s₁ H ⟨[.ref a], []⟩ [.ref a] [.ref a] _ _ rfl hr e0 (hbind s₁ (.ref a)) (.cons rfl .nil) (hsp H hH hS)) fun r s' h => ?_
    match r, h with
    | .error e, h => exact False.elim h
    | .ok .next, h => exact False.elim h
    | .ok .brk, h => exact False.elim h
    | .ok .cont, h => exact False.elim h
    | .ok (.ret u), h =>
      obtain ⟨v, H', os, bare, un, hok', r', q⟩ := h
      have q' : v = .bl true := q
      subst q'
      obtain rfl : u = Value.bool true := r'
      have key : ∀ b o, (¬ ∃ p ∈ cs, p.2 = b) → s₁.heap.get? b = some o → s'.heap.get? b = some o := fun b o nb e => by
        rcases hO b with z | z | ⟨ob, xs, z⟩
        · exact un.keep b o e z (fun hm => absurd (show b ∈ ([] : List Addr) from hm) (by simp)) (by simp)
        · exact absurd z nb
        · have e1 := (hok b _ z).1
          rw [e] at e1; cases e1
          exact (hok' b _ (un.frzs b o _ z)).1
      have grown : ∀ p ∈ cs, ∃ more : Array Value, s'.heap.get? p.2 = some { cls := .none, data := .fields more } := fun p hp => by
        obtain ⟨more, z⟩ := un.tbls p.2 #[] (hH p hp)
        exact ⟨_, hok' p.2 _ z⟩
      refine ⟨rfl, ⟨fun b o e => ?_, fun b o e => ?_⟩, os, bare⟩
      · by_cases hb : ∃ p ∈ cs, p.2 = b
        · obtain ⟨p, hp, rfl⟩ := hb
          obtain ⟨more, hm⟩ := grown p hp
          rw [hT p hp] at e; cases e
          exact .inr (.inl ⟨((C p hp).tab (hT p hp)).isCodeTable, rfl, #[], more, rfl, by rw [Array.empty_append]; exact hm⟩)
        · exact .inl (key b o hb e)
      · by_cases hb : ∃ p ∈ cs, p.2 = b
        · obtain ⟨p, hp, rfl⟩ := hb
          obtain ⟨more, hm⟩ := grown p hp
          exact ⟨_, hm⟩
        · exact ⟨o, key b o hb e⟩
  have dec : ∀ b : Addr, Decidable (∃ p ∈ cs, p.2 = b) := fun b => Classical.propDecidable _
  cases hk : K.lookup a with
  | some o =>
    have e := KX a o hk
    rw [ha] at e; cases e
    refine core (fun b => if ∃ p ∈ cs, p.2 = b then some (.tbl #[]) else none) (fun p hp => if_pos ⟨p, hp, rfl⟩) (fun b => ?_) (.inr ⟨_, vs.toArray, _, hk, rfl, rfl, rfl, by rw [List.size_toArray, lenV]; exact hl, by simpa using rv⟩) (fun b u z => ?_) (fun b z => ?_) fun z => absurd (if_neg aT) z
    · by_cases hb : ∃ p ∈ cs, p.2 = b
      · exact .inr (.inl hb)
      · exact .inl (if_neg hb)
    · by_cases hb : ∃ p ∈ cs, p.2 = b
      · have z' := (if_pos hb).symm.trans z; cases z'; exact isT b hb
      · have z' := (if_neg hb).symm.trans z; cases z'
    · by_cases hb : ∃ p ∈ cs, p.2 = b
      · exact .inr hb
      · exact absurd (if_neg hb) z
  | none =>
    refine core (fun b => if b = a then some (.frz { cls := .type "list", data := .seq vs.toArray } (.lst (ns.map V.int))) else if ∃ p ∈ cs, p.2 = b then some (.tbl #[]) else none) (fun p hp => (if_neg (fun z => aT ⟨p, hp, z⟩)).trans (if_pos ⟨p, hp, rfl⟩)) (fun b => ?_)
      (.inl (.inr ⟨{ cls := .type "list", data := .seq vs.toArray }, if_pos rfl⟩)) (fun b u z => ?_) (fun b z => ?_) fun _ => hk
    · by_cases hb : b = a
      · exact .inr (.inr ⟨_, _, if_pos hb⟩)
      · by_cases hb2 : ∃ p ∈ cs, p.2 = b
        · exact .inr (.inl hb2)
        · exact .inl ((if_neg hb).trans (if_neg hb2))
    · by_cases hb : b = a
      · have z' := (if_pos hb).symm.trans z; cases z'
        rw [hb]
        exact ⟨ha, by rw [List.length_map]; exact hl, vs, _, rv, ha⟩
      · have z1 := (if_neg hb).symm.trans z
        by_cases hb2 : ∃ p ∈ cs, p.2 = b
        · have z' := (if_pos hb2).symm.trans z1; cases z'; exact isT b hb2
        · have z' := (if_neg hb2).symm.trans z1; cases z'
    · by_cases hb : b = a
      · exact .inl hb
      · by_cases hb2 : ∃ p ∈ cs, p.2 = b
        · exact .inr hb2
        · exact absurd ((if_neg hb).trans (if_neg hb2)) z
end
theorem walk_ofG {l : PySem.W.OpenLaw} {n k : Nat} {q : Program} {loose : List Str} {XP : (Str → Option Value) → Heap → Prop} {YP : World → Heap → Prop} {d : DefRec} {x : Str}
    (hn : l.most = some n) (hn2 : n ≤ sizeLine) (hdf : d.params.defaults = []) (hr : Room k callerA)
    (F : ∀ (w : World) (mg : Str → Option Value) (fa : Addr) (h : Heap), YP w h → h.Ns mainGlobals mg → mg d.name = some (.ref fa) → ∃ K : PySem.W.Frag, K.In h ∧ LawAtG l w K k n x mg fa h) :
    PySem.W.WalkO q loose XP YP l.row.toRowW d [] (fun f vs => PySem.call f vs) := by
  refine Att.attach_callB hn hdf fun w s₀ s₁ mg mb fa o pm cd doc a vs ns G Y ho hd hcd hmg hobj hints hlen hbits hg => ?_
  obtain ⟨K, KX, fd, cs, sp, hT, nT, C, hsm, hb, hsp, hF⟩ := F w mg fa _ Y G.T.g hmg
  exact law_callG KX G.T.g G.T.b G.T.builtins G.T.nolimit hg hT nT C G.T.bmain hobj hints (Nat.le_trans hlen hn2) hr hF hsm hb fun H hH hS => hsp H a ns hlen hbits hH hS
end EndG

set_option Elab.async false
set_option linter.all false
set_option maxRecDepth 100000
set_option maxHeartbeats 2000000
/-! Kit: a def of the text with its facts, constants, a few operators. -/
namespace Kit
open PySem PySem.Spec PyProof.Rows L2 GxR Tree

/-- a def without defaults as it stands behind the top -/
structure DefAt (K : PySem.W.Frag) (mg : Str → Option Value) (x : Str) (st : Stmt) (ps : List Str) (f : Addr) (fd : FuncData) : Prop where
  F : FunD K x x (defArgs st) (defBody st) (defScope st) [] [] f fd
  g : mg x = some (.ref f)
  b : Binds K fd ps []
theorem DefAt.kp {K : PySem.W.Frag} {mg : Str → Option Value} {x : Str} {st : Stmt} {ps : List Str} {f : Addr} {fd : FuncData} (D : DefAt K mg x st ps f fd) : PySem.W.keepIn K (.ref f) = true := D.F.kp
/-- the code object of the def and its table -/
structure TabAt (base : Heap) (mg : Str → Option Value) (fd : FuncData) (c P : Addr) : Prop where
  code : fd.code = .ref c
  tb : LamX.TabB base mg c P
section
variable {P : Program} {w : World} {K : PySem.W.Frag} {mg : Str → Option Value} {base : Heap} {x : Str} {st : Stmt} {ps : List Str} {f : Addr} {fd : FuncData}
/-- THE RULE for a def; its code object is told -/
theorem DefAt.ok {N : List Str} {k : Nat} {sp : Sp} (D : DefAt K mg x st ps f fd) (S : FnScope N ps (defScope st)) (len : ∀ vs H Q E, sp vs H Q E → vs.length = ps.length)
    (hbody : ∀ (cdv : Value) (A : Around) (outer : List Env) (s : Shared) (H : Hp) (vs : List V) (Q : VK) (E : XK), fd.code = cdv → Room k (A.deeper (envOfC x (defScope st) s.heap.objs.size f cdv)) → sp vs H Q E →
      ∃ t, PSs (cxOf CX0 P w K mg base N x (defScope st) f cdv A outer s H E).nox (defBody st) t ∧ t { nx := fun _ H' => Q .non H', rt := Q } (start N vs) H) : FnOk P w K mg base CX0 (k + 1) f fd ps sp := by
  obtain ⟨oc, od, dV, kV, doc, pm, an, cdv, ct, osl, rfl, lk, hcd, _, _⟩ := D.F.ex
  exact fn_of lk hcd S len fun A outer s H vs Q E hr hsp => by
    obtain ⟨t, h, q⟩ := hbody cdv A outer s H vs Q E rfl hr hsp
    exact ⟨t, h.nox, q⟩
end
/-- the built-in names that the text does not bind -/
structure Bt (mg : Str → Option Value) : Prop where
  len : mg "len" = none
  range : mg "range" = none
  isinstance : mg "isinstance" = none
  int : mg "int" = none
  bool : mg "bool" = none
  str : mg "str" = none
  list : mg "list" = none
  tuple : mg "tuple" = none
  set : mg "set" = none
  dict : mg "dict" = none
  sorted : mg "sorted" = none
  repr : mg "repr" = none
  max : mg "max" = none
  min : mg "min" = none
  sum : mg "sum" = none
  all : mg "all" = none
  any : mg "any" = none
section
variable {X : Cx}
/-- a constant of the module -/
theorem pe_gint {x : Str} {i : Int} {pos : Pos} (hg : Gl X x) (hm : ∃ t, X.mg x = some (.int i t)) (hd : (x == ("__debug__" : Str)) = false := by decide) : PE X (.Name x pos) (tC (.int i)) := by
  obtain ⟨t, hm⟩ := hm
  exact pe_glob hg hm ⟨_, rfl⟩ hd
/-! rules with the written part named (so that a reading within a block does not hang on the block) -/
theorem ix_listK (K : PySem.W.Frag) (h : X.K = K) : IxR X (rIxL K) := h ▸ ix_list
theorem ix_tupK (K : PySem.W.Frag) (h : X.K = K) : IxR X (rIxT K) := h ▸ ix_tup
theorem sl_listK (K : PySem.W.Frag) (h : X.K = K) : SlR X (rSlL K) := h ▸ sl_list
theorem sl_tupAK (K : PySem.W.Frag) (h : X.K = K) : SlR X (rSlA K) := h ▸ sl_tupA
def rLenK (K : PySem.W.Frag) : List V → Hp → VK → Prop := fun xs H Q => ∃ p ys, xs = [.ref p] ∧ (SqL K H p ys ∨ SqT K H p ys) ∧ Q (.int ys.length) H
theorem call_lenK (K : PySem.W.Frag) (h : X.K = K) : CallR X (.builtin "len") (rLenK K) := h ▸ call_len_seq
theorem call_isiK' (K : PySem.W.Frag) (h : X.K = K) : CallR X (.builtin "isinstance") (rIsi K) := h ▸ call_isi
theorem call_isiTK (K : PySem.W.Frag) (h : X.K = K) : CallR X (.builtin "isinstance") (rIsiT K) := h ▸ call_isiT
def rListK (K : PySem.W.Frag) : List V → Hp → VK → Prop := fun xs H Q => ∃ p ys, xs = [.ref p] ∧ (SqL K H p ys ∨ SqT K H p ys) ∧ ∀ l, H l = none → Q (.ref l) (upd H l (.lst ys))
theorem call_listK (K : PySem.W.Frag) (h : X.K = K) : CallR X (.type "list") (rListK K) := h ▸ call_list_of
def rTupleK (K : PySem.W.Frag) : List V → Hp → VK → Prop := fun xs H Q => ∃ p ys, xs = [.ref p] ∧ ((SqL K H p ys ∧ ∀ l, H l = none → Q (.ref l) (upd H l (.tup ys))) ∨ (SqT K H p ys ∧ Q (.ref p) H))
theorem call_tupleK (K : PySem.W.Frag) (h : X.K = K) : CallR X (.type "tuple") (rTupleK K) := h ▸ call_tuple_of
theorem op_inK (K : PySem.W.Frag) (h : X.K = K) : OpR X (compareOp .In) (rIn K false) := h ▸ op_in_seq
theorem op_notInK (K : PySem.W.Frag) (h : X.K = K) : OpR X (compareOp .NotIn) (rIn K true) := h ▸ op_notIn_seq
theorem op_catAK (K : PySem.W.Frag) (h : X.K = K) : OpR X (binaryOp .Add) (rCatA K) := h ▸ op_catA
theorem op_eqDK (K : PySem.W.Frag) (h : X.K = K) (hu : X.A.units + 64 < cLine) : OpR X (compareOp .Eq) (rEqD K) := h ▸ op_eqD hu
theorem op_neDK (K : PySem.W.Frag) (h : X.K = K) (hu : X.A.units + 64 < cLine) : OpR X (compareOp .NotEq) (rNeD K) := h ▸ op_neD hu
theorem pi_listK (K : PySem.W.Frag) (h : X.K = K) {tg l : Expr} {tl : TE} (hl : PE X l tl) : PI X tg l (iList K tl) := h ▸ pi_list hl
theorem pi_tupK (K : PySem.W.Frag) (h : X.K = K) {tg l : Expr} {tl : TE} (hl : PE X l tl) : PI X tg l (iTup K tl) := h ▸ pi_tup hl
theorem pg_tupK (K : PySem.W.Frag) (hK : X.K = K) {es : List Expr} {k : Nat} {t : TGs} {n : Nat} {pos : Pos} (hc : X.calm = true) (h : PGs X es t)
    (hn : (assignEach es X.env).length = n := by rfl) (hst : (assignEach es X.env).findIdx? (·.1) = none := by rfl) : PG X (.Tuple es k pos) (gTup K n t) := hK ▸ pg_tup hc h hn hst
theorem pe_revLK (K : PySem.W.Frag) (h : X.K = K) {e : Expr} {te : TE} {k j : Nat} {p1 p2 p3 pos : Pos} (he : PE X e te) : PE X (.Subscript e (.Slice none none (some (.UnaryOp .USub (.Constant (.int 1) k p1) p2)) p3) pos) (tRevL K te) := h ▸ pe_revL he
/-- ** of ints that are not too great -/
def CPowW (i j : Int) : Prop := 0 ≤ j ∧ (i.natAbs.log2 + 1 : Nat) * j ≤ 2 ^ 27
theorem op_powW : OpR X (binaryOp .Pow) (rI CPowW fun i j => .int (i ^ j.toNat)) := opI fun i j _ _ _ _ _ hc q => by
  refine pow_int hc.1 ?_ q
  have h1 : Builtin.Int.intBits i ≤ i.natAbs.log2 + 1 := by
    unfold Builtin.Int.intBits
    split <;> omega
  have h2 : ((Builtin.Int.intBits i : Nat) : Int) * j ≤ ((i.natAbs.log2 + 1 : Nat) : Int) * j := Int.mul_le_mul_of_nonneg_right (by exact_mod_cast h1) hc.1
  exact Int.le_trans h2 hc.2
theorem powW_ok {i j : Int} {b : Nat} (hj : 0 ≤ j) (hi : i.natAbs < 2 ^ b) (h0 : 0 < b) (h : (b : Int) * j ≤ 2 ^ 27) : CPowW i j := by
  refine ⟨hj, ?_⟩
  have h1 := PySem.Flt.log2_lt_of h0 hi
  exact Int.le_trans (Int.mul_le_mul_of_nonneg_right (by omega) hj) h
end
end Kit

set_option Elab.async false
set_option linter.all false
set_option maxRecDepth 100000
set_option maxHeartbeats 2000000
/-! Data: what a day is, as a total function on trees. -/
namespace Data
open PySem PySem.Spec PyProof.Rows L2 GxR Tree Kit

def isiD (T : String) : PyData → Bool
  | .int _ => T == "int"
  | .bool _ => T == "int" || T == "bool"
  | .none => T == "NoneType"
  | .str _ => T == "str"
  | .list _ => T == "list"
  | .tuple _ => T == "tuple"
  | .dict _ => T == "dict"
theorem kit_int {K : PySem.W.Frag} (d : PyData) : PySem.W.kitOne K (.type (tyD d)) (.type "int") = some (isiD "int" d) := by
  cases d <;> (refine kit_ty ?_; dsimp only [tyD, isiD]; decide +kernel)
theorem kit_bool {K : PySem.W.Frag} (d : PyData) : PySem.W.kitOne K (.type (tyD d)) (.type "bool") = some (isiD "bool" d) := by
  cases d <;> (refine kit_ty ?_; dsimp only [tyD, isiD]; decide +kernel)
theorem kit_list {K : PySem.W.Frag} (d : PyData) : PySem.W.kitOne K (.type (tyD d)) (.type "list") = some (isiD "list" d) := by
  cases d <;> (refine kit_ty ?_; dsimp only [tyD, isiD]; decide +kernel)
theorem kit_tuple {K : PySem.W.Frag} (d : PyData) : PySem.W.kitOne K (.type (tyD d)) (.type "tuple") = some (isiD "tuple" d) := by
  cases d <;> (refine kit_ty ?_; dsimp only [tyD, isiD]; decide +kernel)

def isNum : PyData → Bool
  | .int _ => true
  | _ => false
def isWh (lo hi : Int) : PyData → Bool
  | .int i => decide (lo ≤ i) && decide (i ≤ hi)
  | _ => false
def isLs (lo hi : Int) : PyData → Bool
  | .list xs => decide (lo ≤ (xs.length : Int)) && decide ((xs.length : Int) ≤ hi)
  | _ => false
def isTp (n : Int) : PyData → Bool
  | .tuple xs => decide ((xs.length : Int) = n)
  | _ => false
def listAll (p : PyData → Bool) : PyData → Bool
  | .list xs => xs.all p
  | _ => false
/-- the ints among the things -/
def intsD : List PyData → List Int
  | [] => []
  | .int i :: r => i :: intsD r
  | _ :: r => intsD r
def risesB (ns : List Int) : Bool := decide (ns.Pairwise (· < ·))
def heardB (craft : Int) : PyData → Bool
  | .list xs => xs.all (isWh 0 (craft - 1)) && risesB (intsD xs)
  | _ => false
def sightB (hours craft : Int) : PyData → Bool := fun d => isLs hours hours d && listAll (heardB craft) d
def storesB : PyData → Bool := fun d => isLs 1 4 d && listAll (isWh 0 5) d
def sightsB (hours craft : Int) : PyData → Bool := fun d => isLs 1 3 d && listAll (sightB hours craft) d
def isNone : PyData → Bool
  | .none => true
  | _ => false
def asksB (dishes : Int) : PyData → Bool := fun d => isLs dishes dishes d && listAll (fun a => isNone a || isWh 0 999 a) d
def blockB (hours craft : Int) : PyData → Bool
  | .tuple [house, number, ready, due, worth] => isWh 0 5 house && (isWh 0 (craft - 1) number && (isWh 0 (hours - 1) ready && ((isNone due || (match ready with | .int r => isWh r (hours - 1) due | _ => false)) && isWh 1 9999 worth)))
  | _ => false
def blocksB (hours craft : Int) : PyData → Bool := fun d => isLs 0 14 d && listAll (blockB hours craft) d
def lenD : PyData → Int
  | .list xs => xs.length
  | .tuple xs => xs.length
  | _ => 0
def intOf : PyData → Int
  | .int i => i
  | _ => 0
def isDayB : PyData → Bool
  | .tuple [hours, stores, sights, asks, blocks] => isWh 1 10 hours && (storesB stores && (sightsB (intOf hours) (lenD stores) sights && (asksB (lenD sights) asks && blocksB (intOf hours) (lenD stores) blocks)))
  | _ => false

theorem isWh_int {lo hi : Int} {d : PyData} (h : isWh lo hi d = true) : ∃ i, d = .int i ∧ lo ≤ i ∧ i ≤ hi := by
  cases d with
  | int i =>
    have h' : (decide (lo ≤ i) && decide (i ≤ hi)) = true := h
    simp only [Bool.and_eq_true, decide_eq_true_eq] at h'
    exact ⟨i, rfl, h'.1, h'.2⟩
  | _ => cases h
theorem isLs_list {lo hi : Int} {d : PyData} (h : isLs lo hi d = true) : ∃ xs, d = .list xs ∧ lo ≤ (xs.length : Int) ∧ (xs.length : Int) ≤ hi := by
  cases d with
  | list xs =>
    have h' : (decide (lo ≤ (xs.length : Int)) && decide ((xs.length : Int) ≤ hi)) = true := h
    simp only [Bool.and_eq_true, decide_eq_true_eq] at h'
    exact ⟨xs, rfl, h'.1, h'.2⟩
  | _ => cases h
theorem isTp_tuple {n : Int} {d : PyData} (h : isTp n d = true) : ∃ xs, d = .tuple xs ∧ (xs.length : Int) = n := by
  cases d with
  | tuple xs => exact ⟨xs, rfl, of_decide_eq_true h⟩
  | _ => cases h
theorem tuple5 {xs : List PyData} (h : (xs.length : Int) = 5) : ∃ a b c d e, xs = [a, b, c, d, e] := by
  match xs, h with
  | [a, b, c, d, e], _ => exact ⟨a, b, c, d, e, rfl⟩
  | [], h => simp at h
  | [_], h => simp at h
  | [_, _], h => simp at h
  | [_, _, _], h => simp at h
  | [_, _, _, _], h => simp at h
  | _ :: _ :: _ :: _ :: _ :: _ :: r, h => simp at h; omega
theorem all_ints {lo hi : Int} : ∀ {xs : List PyData}, xs.all (isWh lo hi) = true → xs = (intsD xs).map PyData.int
  | [], _ => rfl
  | x :: r, h => by
    rw [List.all_cons, Bool.and_eq_true] at h
    obtain ⟨i, rfl, _, _⟩ := isWh_int h.1
    show PyData.int i :: r = PyData.int i :: (intsD r).map PyData.int
    rw [← all_ints h.2]
/-! ### how many parts -/
mutual
def sz : PyData → Nat
  | .none => 1
  | .bool _ => 1
  | .int _ => 1
  | .str _ => 1
  | .list xs => szAll xs + 1
  | .tuple xs => szAll xs + 1
  | .dict _ => 1
def szAll : List PyData → Nat
  | [] => 0
  | x :: xs => sz x + szAll xs
end
theorem sz_pos (d : PyData) : 1 ≤ sz d := by
  cases d <;> simp only [sz] <;> omega
theorem szAll_mem : ∀ {xs : List PyData} {d : PyData}, d ∈ xs → sz d ≤ szAll xs
  | x :: xs, d, h => by
    simp only [szAll]
    rcases List.mem_cons.mp h with rfl | h
    · omega
    · have := szAll_mem h
      omega
theorem szAll_len : ∀ xs : List PyData, xs.length ≤ szAll xs
  | [] => Nat.le_refl _
  | x :: xs => by
    have h1 := sz_pos x
    have h2 := szAll_len xs
    simp only [szAll, List.length_cons]
    omega
theorem szAll_append : ∀ xs ys : List PyData, szAll (xs ++ ys) = szAll xs + szAll ys
  | [], ys => by simp [szAll]
  | x :: xs, ys => by
    simp only [List.cons_append, szAll, szAll_append xs ys]
    omega
theorem intsD_length : ∀ xs : List PyData, (intsD xs).length ≤ xs.length
  | [] => Nat.le_refl _
  | x :: xs => by
    have ih := intsD_length xs
    cases x <;> simp only [intsD, List.length_cons] <;> omega
end Data

set_option Elab.async false
set_option linter.all false
set_option maxRecDepth 100000
set_option maxHeartbeats 2000000
/-! Loops: all, any over lists of trees and over ranges; comprehensions over them; what they keep is said by Kx. -/
namespace Loops
open PySem PySem.Spec PyProof.Rows L2 GxR GX Tree Kit
section
variable {K : PySem.W.Frag} {P : Addr} {g : TG} {te : TE} {vs : List Nat} {σ : L2.St} {H : Hp} {Q : VK}
/-- all(e for x in l), l the list at a: one turn hands on any wish R of the truth -/
theorem all_tree {a : Addr} {xs : List V} {ds : List PyData} {pd : PyData → Bool} (ha : H a = some (.lst xs)) (hd : TrAll [] H xs ds) (hT : TabG H P)
    (step : ∀ x d H', d ∈ ds → Tr [] H' x d → Kx [] H H' → ∀ R : Bool → Hp → Prop, (∀ H'', Kx [] H' H'' → R (pd d) H'') → g x (wipe σ vs) H' fun σ2 H2 => wipe σ2 vs = wipe σ vs ∧ te σ2 H2 fun y H4 => ∃ b, y = .bl b ∧ R b H4)
    (q : ∀ H', Kx [] H H' → Q (.bl (ds.all pd)) H') :
    TabG H P ∧ ∀ H2, Tabbed P H H2 → ∃ W : Nat → Nat → Hp → Prop, (∃ m, W 0 m H2) ∧ GTurns (Itl K a) g tYes te vs σ W (fun H => Q (.bl true) H) (consAll fun b H => Q (.bl b) H) := by
  refine ⟨hT, fun H2 ht => ?_⟩
  have hlen := hd.length
  refine ⟨fun i m H' => m = xs.length - i ∧ i ≤ xs.length ∧ Kx [] H H' ∧ (ds.take i).all pd = true, ⟨xs.length, by simp, Nat.zero_le _, Kx.tabbed hT ht, by simp⟩, ?_⟩
  rintro i m H' ⟨rfl, hi, k, hp⟩
  have hS : SqL K H' a xs := SqL.of (k.lst (by simp) ha)
  by_cases hlt : i < xs.length
  · have hdl : i < ds.length := by omega
    have ei : ds[i]? = some ds[i] := List.getElem?_eq_getElem hdl
    have et : (ds.take (i + 1)).all pd = ((ds.take i).all pd && pd ds[i]) := by
      rw [List.take_add_one, ei, List.all_append]
      simp
    refine .inr ⟨⟨xs, xs[i], hS, by simp [hlt]⟩, fun H'' => Kx [] H H'' ∧ pd ds[i] = true, fun H'' z => ⟨xs.length - (i + 1), by omega, rfl, hlt, z.1, by rw [et, hp, z.2]; rfl⟩, fun x H5 y => ?_⟩
    obtain ⟨rfl, y⟩ := y
    have hx := y xs hS
    obtain ⟨d, e1, e2⟩ := (hd.up k).get hx
    rw [ei] at e1
    cases e1
    have st := step x ds[i] H5 (List.getElem_mem hdl) e2 k (fun b H4 => if b = true then (Kx [] H H4 ∧ pd ds[i] = true) else Q (.bl false) H4) (fun H'' k2 => by
      cases hb : pd ds[i] with
      | true => exact ⟨k.trans k2, rfl⟩
      | false =>
        have hall : ds.all pd = false := by
          rw [Bool.eq_false_iff]
          intro z
          rw [List.all_eq_true.mp z _ (List.getElem_mem hdl)] at hb
          cases hb
        have := q H'' (k.trans k2)
        rw [hall] at this
        exact this)
    exact st
  · have e : i = xs.length := by omega
    subst e
    refine .inl ⟨⟨xs, hS, Nat.le_refl _⟩, ?_⟩
    have := q H' k
    rw [hlen, List.take_length] at hp
    rw [hp] at this
    exact this
/-- all(e for i in range(n)) -/
theorem all_range {n : Nat} {p : Nat → Bool} (hT : TabG H P)
    (step : ∀ i H', i < n → Kx [] H H' → ∀ R : Bool → Hp → Prop, (∀ H'', Kx [] H' H'' → R (p i) H'') → g (.int i) (wipe σ vs) H' fun σ2 H2 => wipe σ2 vs = wipe σ vs ∧ te σ2 H2 fun y H4 => ∃ b, y = .bl b ∧ R b H4)
    (q : ∀ H', Kx [] H H' → Q (.bl ((List.range n).all p)) H') :
    TabG H P ∧ ∀ H2, Tabbed P H H2 → ∃ W : Nat → Nat → Hp → Prop, (∃ m, W 0 m H2) ∧ GTurns (Itr 0 n) g tYes te vs σ W (fun H => Q (.bl true) H) (consAll fun b H => Q (.bl b) H) := by
  refine ⟨hT, fun H2 ht => ?_⟩
  refine ⟨fun i m H' => m = n - i ∧ i ≤ n ∧ Kx [] H H' ∧ ∀ j, j < i → p j = true, ⟨n, by simp, Nat.zero_le _, Kx.tabbed hT ht, fun j hj => absurd hj (Nat.not_lt_zero _)⟩, ?_⟩
  rintro i m H' ⟨rfl, hi, k, hp⟩
  by_cases hlt : i < n
  · refine .inr ⟨hlt, fun H'' => Kx [] H H'' ∧ p i = true, fun H'' z => ⟨n - (i + 1), by omega, rfl, hlt, z.1, fun j hj => ?_⟩, fun x H5 y => ?_⟩
    · rcases Nat.lt_or_eq_of_le (Nat.le_of_lt_succ hj) with h | h
      · exact hp j h
      · rw [h]; exact z.2
    · obtain ⟨rfl, rfl⟩ := y
      rw [Int.zero_add]
      refine step i H5 hlt k (fun b H4 => if b = true then (Kx [] H H4 ∧ p i = true) else Q (.bl false) H4) (fun H'' k2 => ?_)
      cases hb : p i with
      | true => exact ⟨k.trans k2, rfl⟩
      | false =>
        have hall : (List.range n).all p = false := by
          rw [Bool.eq_false_iff]
          intro z
          rw [List.all_eq_true.mp z i (List.mem_range.mpr hlt)] at hb
          cases hb
        have := q H'' (k.trans k2)
        rw [hall] at this
        exact this
  · have e : i = n := by omega
    subst e
    refine .inl ⟨Nat.le_refl _, ?_⟩
    have := q H' k
    rw [show (List.range i).all p = true from List.all_eq_true.mpr fun j hj => hp j (List.mem_range.mp hj)] at this
    exact this
/-- the same at a name that holds the list -/
theorem all_treeV {j : Nat} {a : Addr} {xs : List V} {ds : List PyData} (pd : PyData → Bool) (hσ : σ[j]? = some (some (.ref a))) (ha : H a = some (.lst xs)) (hd : TrAll [] H xs ds) (hT : TabG H P)
    (step : ∀ x d H', d ∈ ds → Tr [] H' x d → Kx [] H H' → ∀ R : Bool → Hp → Prop, (∀ H'', Kx [] H' H'' → R (pd d) H'') → g x (wipe σ vs) H' fun σ2 H2 => wipe σ2 vs = wipe σ vs ∧ te σ2 H2 fun y H4 => ∃ b, y = .bl b ∧ R b H4)
    (q : ∀ H', Kx [] H H' → Q (.bl (ds.all pd)) H') : tAllG P (iList K (tVar j)) g tYes te vs σ H Q :=
  ⟨.ref a, hσ, a, rfl, ⟨xs, SqL.of ha⟩, all_tree ha hd hT step q⟩
end
end Loops

set_option Elab.async false
set_option linter.all false
set_option maxRecDepth 100000
set_option maxHeartbeats 2000000
/-! Comps: comprehensions and for loops whose turns may change what B names. -/
namespace Comps
open PySem PySem.Spec PyProof.Rows L2 GxR GX Tree Kit
/-- the iteration J hands out f 0, .., f (N - 1), as long as all stays but B -/
structure ItAt (J : It) (B : List Addr) (H : Hp) (N : Nat) (f : Nat → V) : Prop where
  go : ∀ i H', i < N → Kx B H H' → J.go i H'
  stop : ∀ H', Kx B H H' → J.stop N H'
  yld : ∀ i H' x H'', i < N → Kx B H H' → J.yld i H' x H'' → H'' = H' ∧ x = f i
theorem itr_at {B : List Addr} {H : Hp} (n : Nat) : ItAt (Itr 0 n) B H n (fun i => .int i) :=
  ⟨fun i H' h _ => h, fun H' _ => Nat.le_refl _, fun i H' x H'' h k y => by
    obtain ⟨rfl, rfl⟩ := y
    rw [Int.zero_add]
    exact ⟨rfl, rfl⟩⟩
theorem itl_at {K : PySem.W.Frag} {B : List Addr} {H : Hp} {a : Addr} {xs : List V} (h : H a = some (.lst xs)) (n : a ∉ B) : ItAt (Itl K a) B H xs.length (fun i => xs.getD i .non) :=
  ⟨fun i H' hi k => ⟨xs, xs[i], SqL.of (k.lst n h), by simp [hi]⟩, fun H' k => ⟨xs, SqL.of (k.lst n h), Nat.le_refl _⟩, fun i H' x H'' hi k y => by
    obtain ⟨rfl, y⟩ := y
    have := y xs (SqL.of (k.lst n h))
    exact ⟨rfl, by rw [List.getD_eq_getElem?_getD, this]; rfl⟩⟩
/-- after a step from H -/
theorem _root_.Tree.Kx.then {B C : List Addr} {H H1 H2 : Hp} (k : Kx C H H1) (k2 : Kx B H1 H2) (h : ∀ b ∈ B, b ∈ C) : Kx C H H2 := k.trans (k2.sub h)
/-- what a comprehension over the iteration J asks -/
def CompG (J : It) (g : TG) (tt : TT) (te : TE) (vs : List Nat) (σ : L2.St) (H : Hp) (Q : VK) : Prop := ∀ D, H D = none → ∃ W : Nat → Nat → Hp → Prop, (∃ m, W 0 m (upd H D (.lst []))) ∧ ∀ i m H, W i m H → (J.stop i H ∧ Q (.ref D) H) ∨ (J.go i H ∧ ∃ Nx : Hp → Prop, (∀ H', Nx H' → ∃ m', m' < m ∧ W (i + 1) m' H') ∧ ∀ x H', J.yld i H x H' → g x (wipe σ vs) H' fun σ2 H2 => wipe σ2 vs = wipe σ vs ∧ tt σ2 H2 fun b H3 => if b = true then te σ2 H3 fun y H4 => ∃ acc, H4 D = some (.lst acc) ∧ acc.length < sizeLine ∧ Nx (upd H4 D (.lst (acc ++ [y]))) else Nx H3)
theorem lc_use {wi : TI} {g : TG} {tt : TT} {te : TE} {vs : List Nat} {σ : L2.St} {H : Hp} {Q : VK} (h : wi σ H fun J H1 => CompG J g tt te vs σ H1 Q) : tLc wi g tt te vs σ H Q := h
theorem st_name {i : Nat} {v : V} {σ : L2.St} {H : Hp} {Q : L2.St → Hp → Prop} (h : Q (σ.set i (some v)) H) : gName i v σ H Q := h
theorem st_asg {te : TE} {g : TG} {D : Ends} {σ : L2.St} {H : Hp} (h : te σ H fun x H1 => g x σ H1 D.nx) : tAsg te g D σ H := h
theorem st_seq {a b : TS} {D : Ends} {σ : L2.St} {H : Hp} (h : a { D with nx := b D } σ H) : tSeq a b D σ H := h
theorem st_set {te : TE} {i : Nat} {b : TS} {D : Ends} {σ : L2.St} {H : Hp} (h : te σ H fun x H1 => b D (σ.set i (some x)) H1) : tSeq (tAsg te (gName i)) b D σ H := h
theorem st_yes {te : TE} {σ : L2.St} {H : Hp} {R : VK} {R0 : Hp → Prop} (h : te σ H R) : tYes σ H fun b H3 => if b = true then te σ H3 R else R0 H3 := by
  show if true = true then te σ H R else R0 H
  rw [if_pos rfl]
  exact h
theorem st_next {D : Ends} {σ : L2.St} {H : Hp} (h : D.nx σ H) : tNext D σ H := h
theorem st_ifs {t : TT} {a b : TS} {D : Ends} {σ : L2.St} {H : Hp} (h : t σ H fun c H1 => if c = true then a D σ H1 else b D σ H1) : tIfS t a b D σ H := h
theorem st_test {te : TE} {σ : L2.St} {H : Hp} {Q : Bool → Hp → Prop} (h : te σ H fun x H' => ∃ k, x = .bl k ∧ Q k H') : tTest te σ H Q := h
theorem st_op {r : R2} {ta tb : TE} {σ : L2.St} {H : Hp} {Q : VK} (h : ta σ H fun x H1 => tb σ H1 fun y H2 => r x y H2 Q) : tOp r ta tb σ H Q := h
theorem st_ret {te : TE} {D : Ends} {σ : L2.St} {H : Hp} (h : te σ H D.rt) : tRet te D σ H := h
theorem st_lst {ts : TA} {σ : L2.St} {H : Hp} {Q : VK} (h : ts σ H fun xs H1 => xs.length ≤ sizeLine ∧ ∀ p, H1 p = none → Q (.ref p) (upd H1 p (.lst xs))) : tLst ts σ H Q := h
theorem st_for {wi : TI} {g : TG} {tb : TS} {D : Ends} {σ : L2.St} {H : Hp} (h : wi σ H fun J H1 => ∃ W : Nat → Nat → L2.St → Hp → Prop, (∃ m, W 0 m σ H1) ∧ ∀ i m σ H, W i m σ H → (J.stop i H ∧ D.nx σ H) ∨ (J.go i H ∧ ∃ N : L2.St → Hp → Prop, (∀ σ' H', N σ' H' → ∃ m', m' < m ∧ W (i + 1) m' σ' H') ∧ ∀ x H', J.yld i H x H' → g x σ H' fun σ2 H2 => tb { D with nx := N, ct := N, bk := D.nx } σ2 H2)) : tFor wi g tb D σ H := h
theorem st_ilist {te : TE} {σ : L2.St} {H : Hp} {K : PySem.W.Frag} {R : It → Hp → Prop} (h : te σ H fun x H1 => ∃ a, x = .ref a ∧ (∃ xs, SqL K H1 a xs) ∧ R (Itl K a) H1) : iList K te σ H R := h
theorem st_cons {ta : TE} {ts : TA} {σ : L2.St} {H : Hp} {Q : List V → Hp → Prop} (h : ta σ H fun x H1 => ts σ H1 fun xs H2 => Q (x :: xs) H2) : tCons ta ts σ H Q := h
section
variable {g : TG} {tt : TT} {te : TE} {vs : List Nat} {σ : L2.St} {H : Hp} {Q : VK}
/-- a comprehension; A i acc: what is known of the items behind i turns -/
theorem lc_gen {J : It} {B : List Addr} {N : Nat} {f : Nat → V} (It : ItAt J B H N f) (hN : N < sizeLine) {D : Addr} (hD : H D = none) {A : Nat → List V → Hp → Prop}
    (h0 : A 0 [] (upd H D (.lst [])))
    (step : ∀ i H' acc, i < N → Kx B H H' → H' D = some (.lst acc) → A i acc H' → ∀ (R : V → Hp → Prop) (R0 : Hp → Prop),
      (∀ y H'', Kx B H H'' → H'' D = some (.lst acc) → A (i + 1) (acc ++ [y]) (upd H'' D (.lst (acc ++ [y]))) → R y H'') →
      (∀ H'', Kx B H H'' → H'' D = some (.lst acc) → A (i + 1) acc H'' → R0 H'') →
      g (f i) (wipe σ vs) H' fun σ2 H2 => wipe σ2 vs = wipe σ vs ∧ tt σ2 H2 fun b H3 => if b = true then te σ2 H3 R else R0 H3)
    (q : ∀ acc H', Kx B H H' → H' D = some (.lst acc) → A N acc H' → Q (.ref D) H') :
    ∃ W : Nat → Nat → Hp → Prop, (∃ m, W 0 m (upd H D (.lst []))) ∧ ∀ i m H, W i m H → (J.stop i H ∧ Q (.ref D) H) ∨ (J.go i H ∧ ∃ Nx : Hp → Prop, (∀ H', Nx H' → ∃ m', m' < m ∧ W (i + 1) m' H') ∧ ∀ x H', J.yld i H x H' → g x (wipe σ vs) H' fun σ2 H2 => wipe σ2 vs = wipe σ vs ∧ tt σ2 H2 fun b H3 => if b = true then te σ2 H3 fun y H4 => ∃ acc, H4 D = some (.lst acc) ∧ acc.length < sizeLine ∧ Nx (upd H4 D (.lst (acc ++ [y]))) else Nx H3) := by
  refine ⟨fun i m H' => m = N - i ∧ i ≤ N ∧ Kx B H H' ∧ ∃ acc, H' D = some (.lst acc) ∧ acc.length ≤ i ∧ A i acc H', ⟨N, by simp, Nat.zero_le _, (Kx.refl H).mut hD, [], upd_same, Nat.le_refl _, h0⟩, ?_⟩
  rintro i m H' ⟨rfl, hi, k, acc, hd, hl, ha⟩
  by_cases hlt : i < N
  · refine .inr ⟨It.go i H' hlt k, fun H'' => Kx B H H'' ∧ ∃ acc, H'' D = some (.lst acc) ∧ acc.length ≤ i + 1 ∧ A (i + 1) acc H'', fun H'' z => ⟨N - (i + 1), by omega, rfl, hlt, z.1, z.2⟩, fun x H5 y => ?_⟩
    obtain ⟨rfl, rfl⟩ := It.yld i H' x H5 hlt k y
    exact step i H5 acc hlt k hd ha _ _ (fun y H'' k2 hd2 ha2 => ⟨acc, hd2, by omega, k2.mut hD, _, upd_same, by rw [List.length_append]; exact Nat.succ_le_succ hl, ha2⟩) (fun H'' k2 hd2 ha2 => ⟨k2, acc, hd2, by omega, ha2⟩)
  · have e : i = N := by omega
    subst e
    exact .inl ⟨It.stop H' k, q acc H' k hd ha⟩
/-- items as trees: each turn hands on one that is G (or, where ex is false, perhaps none); Iv: what is known of all else -/
theorem lc_tr {J : It} {B C : List Addr} {N : Nat} {f : Nat → V} (It : ItAt J B H N f) (hN : N < sizeLine) {Iv : Nat → Hp → Prop} (G : PyData → Prop) (ex : Bool) (hBC : ∀ b ∈ B, b ∈ C) (hC : ∀ c ∈ C, H c ≠ none)
    (hIv : ∀ i H' D o, H D = none → Iv i H' → Iv i (upd H' D o)) (hBn : ∀ i H', Iv i H' → ∀ b ∈ B, H' b ≠ none) (h0 : Iv 0 H)
    (step : ∀ D i H', H D = none → (∀ c ∈ D :: C, H' c ≠ none) → i < N → Kx B H H' → Iv i H' → ∀ (R : V → Hp → Prop) (R0 : Hp → Prop),
      (∀ y d H'', Kx B H' H'' → Iv (i + 1) H'' → Tr (D :: C) H'' y d → G d → R y H'') →
      (ex = false → ∀ H'', Kx B H' H'' → Iv (i + 1) H'' → R0 H'') →
      g (f i) (wipe σ vs) H' fun σ2 H2 => wipe σ2 vs = wipe σ vs ∧ tt σ2 H2 fun b H3 => if b = true then te σ2 H3 R else R0 H3)
    (q : ∀ D ds H', Kx B H H' → Iv N H' → Tr C H' (.ref D) (.list ds) → ds.length ≤ N → (ex = true → ds.length = N) → (∀ d ∈ ds, G d) → Q (.ref D) H') :
    CompG J g tt te vs σ H Q := by
  intro D hD
  have nD : D ∉ C := fun h => hC D h hD
  have nB : D ∉ B := fun h => nD (hBC D h)
  refine lc_gen It hN hD (A := fun i acc H' => Iv i H' ∧ ∃ ds, TrAll (D :: C) H' acc ds ∧ ds.length ≤ i ∧ (ex = true → ds.length = i) ∧ ∀ d ∈ ds, G d) ⟨hIv 0 H D _ hD h0, [], .nil, Nat.le_refl _, fun _ => rfl, fun d h => nomatch h⟩ (fun i H' acc hi k hd ha R R0 hR hR0 => ?_) fun acc H' k hd ha => ?_
  · obtain ⟨iv, ds, ht, hl, hx, hg⟩ := ha
    have dk : ∀ {H''}, Kx B H' H'' → H'' D = some (.lst acc) := fun k2 => k2.lst nB hd
    refine step D i H' hD (fun c hc => ?_) hi k iv R R0 (fun y d H'' k2 iv2 ty gd => hR y H'' (k.trans k2) (dk k2) ⟨hIv _ _ _ _ hD iv2, ds ++ [d], ?_, by rw [List.length_append]; exact Nat.succ_le_succ hl, fun z => by rw [List.length_append, hx z]; rfl, fun d' h => ?_⟩) fun z H'' k2 iv2 => hR0 H'' (k.trans k2) (dk k2) ⟨iv2, ds, TrAll.kx k2 (fun b hb => List.mem_cons_of_mem _ (hBC b hb)) _ _ ht, Nat.le_succ_of_le hl, (fun y => by rw [z] at y; cases y), hg⟩
    · rcases List.mem_cons.mp hc with e | e
      · rw [e, hd]; simp
      · intro z
        by_cases hb : c ∈ B
        · exact hBn i H' iv c hb z
        · exact hC c e (k.free hb z)
    · have t2 := TrAll.kx k2 (fun b hb => List.mem_cons_of_mem _ (hBC b hb)) _ _ ht
      have kp : Kx [D] H'' (upd H'' D (.lst (acc ++ [y]))) := Kx.put (by simp)
      exact TrAll.kx kp (fun b hb => by rcases List.mem_cons.mp hb with e | e <;> simp_all) _ _ (t2.snoc ty)
    · rcases List.mem_append.mp h with h | h
      · exact hg d' h
      · rw [List.mem_singleton.mp h]; exact gd
  · obtain ⟨iv, ds, ht, hl, hx, hg⟩ := ha
    exact q D ds H' k iv (.lst nD hd (TrAll.less (fun b hb => List.mem_cons_of_mem _ hb) _ _ ht)) hl hx hg
/-- items as trees, each with the turn that made it -/
inductive Made (G : Nat → PyData → Prop) : List Nat → List PyData → Prop
  | nil : Made G [] []
  | snoc {js : List Nat} {ds : List PyData} {j : Nat} {d : PyData} : Made G js ds → (∀ i ∈ js, i < j) → G j d → Made G (js ++ [j]) (ds ++ [d])
theorem lc_ix {J : It} {B C : List Addr} {N : Nat} {f : Nat → V} (It : ItAt J B H N f) (hN : N < sizeLine) {Iv : Nat → Hp → Prop} (G : Nat → PyData → Prop) (hBC : ∀ b ∈ B, b ∈ C) (hC : ∀ c ∈ C, H c ≠ none)
    (hIv : ∀ i H' D o, H D = none → Iv i H' → Iv i (upd H' D o)) (hBn : ∀ i H', Iv i H' → ∀ b ∈ B, H' b ≠ none) (h0 : Iv 0 H)
    (step : ∀ D i H', H D = none → (∀ c ∈ D :: C, H' c ≠ none) → i < N → Kx B H H' → Iv i H' → ∀ (R : V → Hp → Prop) (R0 : Hp → Prop),
      (∀ y d H'', Kx B H' H'' → Iv (i + 1) H'' → Tr (D :: C) H'' y d → G i d → R y H'') →
      (∀ H'', Kx B H' H'' → Iv (i + 1) H'' → R0 H'') →
      g (f i) (wipe σ vs) H' fun σ2 H2 => wipe σ2 vs = wipe σ vs ∧ tt σ2 H2 fun b H3 => if b = true then te σ2 H3 R else R0 H3)
    (q : ∀ D js ds H', Kx B H H' → Iv N H' → Tr C H' (.ref D) (.list ds) → Made G js ds → (∀ j ∈ js, j < N) → Q (.ref D) H') :
    CompG J g tt te vs σ H Q := by
  intro D hD
  have nD : D ∉ C := fun h => hC D h hD
  have nB : D ∉ B := fun h => nD (hBC D h)
  refine lc_gen It hN hD (A := fun i acc H' => Iv i H' ∧ ∃ js ds, TrAll (D :: C) H' acc ds ∧ Made G js ds ∧ ∀ j ∈ js, j < i) ⟨hIv 0 H D _ hD h0, [], [], .nil, .nil, fun _ h => nomatch h⟩ (fun i H' acc hi k hd ha R R0 hR hR0 => ?_) fun acc H' k hd ha => ?_
  · obtain ⟨iv, js, ds, ht, hm, hl⟩ := ha
    have dk : ∀ {H''}, Kx B H' H'' → H'' D = some (.lst acc) := fun k2 => k2.lst nB hd
    refine step D i H' hD (fun c hc => ?_) hi k iv R R0 (fun y d H'' k2 iv2 ty gd => hR y H'' (k.trans k2) (dk k2) ⟨hIv _ _ _ _ hD iv2, js ++ [i], ds ++ [d], ?_, .snoc hm hl gd, fun j hj => ?_⟩) fun H'' k2 iv2 => hR0 H'' (k.trans k2) (dk k2) ⟨iv2, js, ds, TrAll.kx k2 (fun b hb => List.mem_cons_of_mem _ (hBC b hb)) _ _ ht, hm, fun j hj => Nat.lt_succ_of_lt (hl j hj)⟩
    · rcases List.mem_cons.mp hc with e | e
      · rw [e, hd]; simp
      · intro z
        by_cases hb : c ∈ B
        · exact hBn i H' iv c hb z
        · exact hC c e (k.free hb z)
    · have t2 := TrAll.kx k2 (fun b hb => List.mem_cons_of_mem _ (hBC b hb)) _ _ ht
      have kp : Kx [D] H'' (upd H'' D (.lst (acc ++ [y]))) := Kx.put (by simp)
      exact TrAll.kx kp (fun b hb => by rcases List.mem_cons.mp hb with e | e <;> simp_all) _ _ (t2.snoc ty)
    · rcases List.mem_append.mp hj with h | h
      · exact Nat.lt_succ_of_lt (hl j h)
      · rw [List.mem_singleton.mp h]; exact Nat.lt_succ_self i
  · obtain ⟨iv, js, ds, ht, hm, hl⟩ := ha
    exact q D js ds H' k iv (.lst nD hd (TrAll.less (fun b hb => List.mem_cons_of_mem _ hb) _ _ ht)) hm hl
theorem Made.rising {G : Nat → PyData → Prop} {js : List Nat} {ds : List PyData} (h : Made G js ds) : js.Pairwise (· < ·) := by
  induction h with
  | nil => exact .nil
  | snoc _ hl _ ih => exact List.pairwise_append.mpr ⟨ih, List.pairwise_singleton _ _, fun a ha b hb => by rw [List.mem_singleton.mp hb]; exact hl a ha⟩
theorem Made.eq {f : Nat → PyData} {js : List Nat} {ds : List PyData} (h : Made (fun j d => d = f j) js ds) : ds = js.map f := by
  induction h with
  | nil => rfl
  | snoc _ _ hg ih => rw [ih, hg, List.map_append]; rfl
theorem Made.length {G : Nat → PyData → Prop} {js : List Nat} {ds : List PyData} (h : Made G js ds) : js.length = ds.length := by
  induction h with
  | nil => rfl
  | snoc _ _ _ ih => rw [List.length_append, List.length_append, ih]; rfl
/-- [x for x in l if ..]: the items that pass; nothing old is changed -/
theorem lc_filter {K : PySem.W.Frag} {a : Addr} {xs : List V} {ds : List PyData} (pd : PyData → Bool) (ha : H a = some (.lst xs)) (hd : TrAll [] H xs ds) (hN : ds.length < sizeLine)
    (step : ∀ x d H', d ∈ ds → Tr [] H' x d → Kx [] H H' → ∀ (R : V → Hp → Prop) (R0 : Hp → Prop), (pd d = true → ∀ H'', Kx [] H' H'' → R x H'') → (pd d = false → ∀ H'', Kx [] H' H'' → R0 H'') →
      g x (wipe σ vs) H' fun σ2 H2 => wipe σ2 vs = wipe σ vs ∧ tt σ2 H2 fun b H3 => if b = true then te σ2 H3 R else R0 H3)
    (q : ∀ D ys H', Kx [] H H' → H D = none → H' D = some (.lst ys) → TrAll [] H' ys (ds.filter pd) → Q (.ref D) H') :
    CompG (Itl K a) g tt te vs σ H Q := by
  intro D hD
  have hlen := hd.length
  refine lc_gen (itl_at (B := []) ha (by simp)) (by omega) hD (A := fun i acc _ => TrAll [] H acc ((ds.take i).filter pd)) .nil (fun i H' acc hi k hdd hacc R R0 hR hR0 => ?_) fun acc H' k hdd hacc => ?_
  · have ei : ds[i]? = some ds[i] := List.getElem?_eq_getElem (by omega)
    have ex : xs[i]? = some xs[i] := List.getElem?_eq_getElem (by omega)
    obtain ⟨d, e1, e2⟩ := hd.get ex
    rw [ei] at e1
    cases e1
    have ef : ∀ b, pd ds[i] = b → (ds.take (i + 1)).filter pd = (ds.take i).filter pd ++ (if b = true then [ds[i]] else []) := fun b eb => by
      rw [List.take_add_one, ei, List.filter_append]
      cases b <;> simp [eb]
    have e3 : xs.getD i V.non = xs[i] := by
      rw [List.getD_eq_getElem?_getD, ex]; rfl
    rw [e3]
    refine step xs[i] ds[i] H' (List.getElem_mem (by omega)) (e2.up k) k R R0 (fun pt H'' k2 => hR _ H'' (k.trans k2) (k2.lst (by simp) hdd) ?_) fun pf H'' k2 => hR0 H'' (k.trans k2) (k2.lst (by simp) hdd) ?_
    · rw [ef true pt]
      exact hacc.snoc e2
    · rw [ef false pf]
      rw [if_neg (by simp), List.append_nil]
      exact hacc
  · rw [show xs.length = ds.length from hlen, List.take_length] at hacc
    exact q D acc H' k hD hdd (hacc.up k)
end
section
variable {g : TG} {tb : TS} {D : Ends} {σ : L2.St} {H : Hp}
/-- a for loop -/
theorem for_gen {J : It} {B : List Addr} {N : Nat} {f : Nat → V} (It : ItAt J B H N f) {Iv : Nat → L2.St → Hp → Prop} (h0 : Iv 0 σ H)
    (step : ∀ i σ' H', i < N → Kx B H H' → Iv i σ' H' → ∀ Nn : L2.St → Hp → Prop, (∀ σ'' H'', Kx B H H'' → Iv (i + 1) σ'' H'' → Nn σ'' H'') → g (f i) σ' H' fun σ2 H2 => tb { D with nx := Nn, ct := Nn, bk := D.nx } σ2 H2)
    (q : ∀ σ' H', Kx B H H' → Iv N σ' H' → D.nx σ' H') :
    ∃ W : Nat → Nat → L2.St → Hp → Prop, (∃ m, W 0 m σ H) ∧ ∀ i m σ H, W i m σ H → (J.stop i H ∧ D.nx σ H) ∨ (J.go i H ∧ ∃ N : L2.St → Hp → Prop, (∀ σ' H', N σ' H' → ∃ m', m' < m ∧ W (i + 1) m' σ' H') ∧ ∀ x H', J.yld i H x H' → g x σ H' fun σ2 H2 => tb { D with nx := N, ct := N, bk := D.nx } σ2 H2) := by
  refine ⟨fun i m σ' H' => m = N - i ∧ i ≤ N ∧ Kx B H H' ∧ Iv i σ' H', ⟨N, by simp, Nat.zero_le _, Kx.refl _, h0⟩, ?_⟩
  rintro i m σ' H' ⟨rfl, hi, k, hv⟩
  by_cases hlt : i < N
  · refine .inr ⟨It.go i H' hlt k, fun σ'' H'' => Kx B H H'' ∧ Iv (i + 1) σ'' H'', fun σ'' H'' z => ⟨N - (i + 1), by omega, rfl, hlt, z⟩, fun x H5 y => ?_⟩
    obtain ⟨rfl, rfl⟩ := It.yld i H' x H5 hlt k y
    exact step i σ' H5 hlt k hv _ fun σ'' H'' k2 h2 => ⟨k2, h2⟩
  · have e : i = N := by omega
    subst e
    exact .inl ⟨It.stop H' k, q σ' H' k hv⟩
end
end Comps

set_option Elab.async false
set_option linter.all false
set_option maxRecDepth 100000
set_option maxHeartbeats 2000000
/-! Loops2: all over two clauses of ranges; comprehensions that filter. -/
namespace Loops2
open PySem PySem.Spec PyProof.Rows L2 GxR GX Tree Kit Comps
section
variable {K : PySem.W.Frag} {P : Addr} {g g1 : TG} {te : TE} {wi1 : TI} {vs vs1 : List Nat} {σ : L2.St} {H : Hp} {Q : VK}
theorem meas {n1 n2 i j : Nat} (h : i < n1) : (n1 - (i + 1)) * (n2 + 2) + (n2 - j) + 1 < (n1 - i) * (n2 + 2) := by
  have e : n1 - i = (n1 - (i + 1)) + 1 := by omega
  rw [e, Nat.add_mul, Nat.one_mul]
  omega
/-- all(e for i in range(n1) for j in range(n2)) -/
theorem all_range2 {n1 n2 : Nat} {p : Nat → Nat → Bool} (hT : TabG H P)
    (step : ∀ i H', i < n1 → Kx [] H H' → ∀ Z : It → L2.St → Hp → Prop,
      (∀ σ2 H3, Kx [] H' H3 → (∀ j H5, j < n2 → Kx [] H3 H5 → ∀ R : Bool → Hp → Prop, (∀ H6, Kx [] H5 H6 → R (p i j) H6) → g1 (.int j) (wipe σ2 vs1) H5 fun σ3 H7 => wipe σ3 vs1 = wipe σ2 vs1 ∧ te σ3 H7 fun y H8 => ∃ b, y = .bl b ∧ R b H8) → Z (Itr 0 n2) σ2 H3) →
      g (.int i) (wipe σ vs) H' fun σ2 H2 => wipe σ2 vs = wipe σ vs ∧ wi1 σ2 H2 fun J1 H4 => Z J1 σ2 H4)
    (q : ∀ H', Kx [] H H' → Q (.bl ((List.range n1).all fun i => (List.range n2).all (p i))) H') :
    TabG H P ∧ ∀ H2, Tabbed P H H2 → ∃ W : Nat → Nat → Hp → Prop, (∃ m, W 0 m H2) ∧ GTurns2 (Itr 0 n1) g tYes wi1 g1 tYes te vs vs1 σ W (fun H => Q (.bl true) H) (consAll fun b H => Q (.bl b) H) := by
  refine ⟨hT, fun H2 ht => ?_⟩
  refine ⟨fun i m H' => m = (n1 - i) * (n2 + 2) ∧ i ≤ n1 ∧ Kx [] H H' ∧ ∀ i', i' < i → ∀ j, j < n2 → p i' j = true, ⟨_, rfl, Nat.zero_le _, Kx.tabbed hT ht, fun i' hi' => absurd hi' (Nat.not_lt_zero _)⟩, ?_⟩
  rintro i m H' ⟨rfl, hi, k, hp⟩
  by_cases hlt : i < n1
  · refine .inr ⟨hlt, fun x H5 y => ?_⟩
    obtain ⟨rfl, rfl⟩ := y
    rw [Int.zero_add]
    refine step i H5 hlt k (fun J1 σ2 H4 => ∃ W1 : Nat → Nat → Hp → Prop, (∃ m1, m1 < (n1 - i) * (n2 + 2) ∧ W1 0 m1 H4) ∧ GTurns1 J1 g1 tYes te vs1 σ2 W1 (fun m1 H' => ∃ m', m' < m1 ∧ (m' = (n1 - (i + 1)) * (n2 + 2) ∧ i + 1 ≤ n1 ∧ Kx [] H H' ∧ ∀ i', i' < i + 1 → ∀ j, j < n2 → p i' j = true)) (consAll fun b H => Q (.bl b) H)) fun σ2 H3 k3 inner => ?_
    refine ⟨fun j m1 H' => m1 = (n1 - (i + 1)) * (n2 + 2) + (n2 - j) + 1 ∧ j ≤ n2 ∧ Kx [] H3 H' ∧ ∀ j', j' < j → p i j' = true, ⟨_, meas hlt, rfl, Nat.zero_le _, Kx.refl _, fun j' hj' => absurd hj' (Nat.not_lt_zero _)⟩, ?_⟩
    rintro j m1 H6 ⟨rfl, hj, k6, hpj⟩
    have kk := k.trans (k3.trans k6)
    by_cases hjl : j < n2
    · refine .inr ⟨hjl, fun H'' => Kx [] H3 H'' ∧ p i j = true, fun H'' z => ⟨(n1 - (i + 1)) * (n2 + 2) + (n2 - (j + 1)) + 1, by omega, rfl, hjl, z.1, fun j' hj' => ?_⟩, fun x H7 y => ?_⟩
      · rcases Nat.lt_or_eq_of_le (Nat.le_of_lt_succ hj') with h | h
        · exact hpj j' h
        · rw [h]; exact z.2
      · obtain ⟨rfl, rfl⟩ := y
        rw [Int.zero_add]
        refine inner j H7 hjl k6 (fun b H4 => if b = true then (Kx [] H3 H4 ∧ p i j = true) else Q (.bl false) H4) (fun H'' k2 => ?_)
        cases hb : p i j with
        | true => exact ⟨k6.trans k2, rfl⟩
        | false =>
          have hall : ((List.range n1).all fun i => (List.range n2).all (p i)) = false := by
            rw [Bool.eq_false_iff]
            intro z
            have z1 := List.all_eq_true.mp z i (List.mem_range.mpr hlt)
            rw [List.all_eq_true.mp z1 j (List.mem_range.mpr hjl)] at hb
            cases hb
          have := q H'' (kk.trans k2)
          rw [hall] at this
          exact this
    · have e : j = n2 := by omega
      subst e
      refine .inl ⟨Nat.le_refl _, _, ?_, rfl, hlt, kk, fun i' hi' j' hj' => ?_⟩
      · omega
      · rcases Nat.lt_or_eq_of_le (Nat.le_of_lt_succ hi') with h | h
        · exact hp i' h j' hj'
        · rw [h]; exact hpj j' hj'
  · have e : i = n1 := by omega
    subst e
    refine .inl ⟨Nat.le_refl _, ?_⟩
    have := q H' k
    rw [show ((List.range i).all fun i => (List.range n2).all (p i)) = true from List.all_eq_true.mpr fun i' hi' => List.all_eq_true.mpr fun j hj => hp i' (List.mem_range.mp hi') j (List.mem_range.mp hj)] at this
    exact this
end
section
variable {g : TG} {tt : TT} {te : TE} {vs : List Nat} {σ : L2.St} {H : Hp} {Q : VK}
/-- [i for i in range(n) if ..] -/
theorem lc_range {n : Nat} (p : Nat → Bool) (hN : n < sizeLine)
    (step : ∀ i H', i < n → Kx [] H H' → ∀ (R : V → Hp → Prop) (R0 : Hp → Prop), (p i = true → ∀ H'', Kx [] H' H'' → R (.int i) H'') → (p i = false → ∀ H'', Kx [] H' H'' → R0 H'') →
      g (.int i) (wipe σ vs) H' fun σ2 H2 => wipe σ2 vs = wipe σ vs ∧ tt σ2 H2 fun b H3 => if b = true then te σ2 H3 R else R0 H3)
    (q : ∀ D H', Kx [] H H' → H D = none → H' D = some (.lst ((((List.range n).filter p).map fun i : Nat => (i : Int)).map V.int)) → Q (.ref D) H') :
    CompG (Itr 0 n) g tt te vs σ H Q := by
  intro D hD
  refine lc_gen (B := []) (itr_at n) hN hD (A := fun i acc _ => acc = ((((List.range i).filter p).map fun i : Nat => (i : Int)).map V.int)) rfl (fun i H' acc hi k hd ha R R0 hR hR0 => ?_) fun acc H' k hd ha => q D H' k hD (ha ▸ hd)
  have ef : ∀ b, p i = b → (List.range (i + 1)).filter p = (List.range i).filter p ++ (if b = true then [i] else []) := fun b eb => by
    rw [List.range_succ, List.filter_append]
    cases b <;> simp [eb]
  refine step i H' hi k R R0 (fun pt H'' k2 => hR _ H'' (k.trans k2) (k2.lst (by simp) hd) ?_) fun pf H'' k2 => hR0 H'' (k.trans k2) (k2.lst (by simp) hd) ?_
  · rw [ef true pt, ha, if_pos rfl, List.map_append, List.map_append]
    rfl
  · rw [ef false pf, ha, if_neg (by simp), List.append_nil]
/-- [x for x in l if ..], l a list of ints -/
theorem lc_filtI {K : PySem.W.Frag} {a : Addr} {ns : List Int} (p : Int → Bool) (ha : H a = some (.lst (ns.map V.int))) (hN : ns.length < sizeLine)
    (step : ∀ n H', n ∈ ns → Kx [] H H' → ∀ (R : V → Hp → Prop) (R0 : Hp → Prop), (p n = true → ∀ H'', Kx [] H' H'' → R (.int n) H'') → (p n = false → ∀ H'', Kx [] H' H'' → R0 H'') →
      g (.int n) (wipe σ vs) H' fun σ2 H2 => wipe σ2 vs = wipe σ vs ∧ tt σ2 H2 fun b H3 => if b = true then te σ2 H3 R else R0 H3)
    (q : ∀ D H', Kx [] H H' → H D = none → H' D = some (.lst ((ns.filter p).map V.int)) → Q (.ref D) H') :
    CompG (Itl K a) g tt te vs σ H Q := by
  intro D hD
  refine lc_gen (itl_at (B := []) ha (by simp)) (by rw [List.length_map]; exact hN) hD (A := fun i acc _ => acc = ((ns.take i).filter p).map V.int) rfl (fun i H' acc hi k hd hacc R R0 hR hR0 => ?_) fun acc H' k hd hacc => ?_
  · have hi' : i < ns.length := by rw [List.length_map] at hi; exact hi
    have ei : ns[i]? = some ns[i] := List.getElem?_eq_getElem hi'
    have ef : ∀ b, p ns[i] = b → (ns.take (i + 1)).filter p = (ns.take i).filter p ++ (if b = true then [ns[i]] else []) := fun b eb => by
      rw [List.take_add_one, ei, List.filter_append]
      cases b <;> simp [eb]
    have e3 : (ns.map V.int).getD i V.non = .int ns[i] := by
      rw [List.getD_eq_getElem?_getD, List.getElem?_map, ei]; rfl
    rw [e3]
    refine step ns[i] H' (List.getElem_mem hi') k R R0 (fun pt H'' k2 => hR _ H'' (k.trans k2) (k2.lst (by simp) hd) ?_) fun pf H'' k2 => hR0 H'' (k.trans k2) (k2.lst (by simp) hd) ?_
    · rw [ef true pt, if_pos rfl, List.map_append, hacc]
      rfl
    · rw [ef false pf, if_neg (by simp), List.append_nil]
      exact hacc
  · rw [List.length_map, List.take_length] at hacc
    exact q D H' k hD (hacc ▸ hd)
/-- .. of trees, none at an address of C -/
theorem lc_filtC {K : PySem.W.Frag} {C : List Addr} {a : Addr} {xs : List V} {ds : List PyData} (pd : PyData → Bool) (al : ∀ c ∈ C, H c ≠ none) (ha : H a = some (.lst xs)) (hd : TrAll C H xs ds) (hN : ds.length < sizeLine)
    (step : ∀ x d H', d ∈ ds → Tr C H' x d → Kx [] H H' → ∀ (R : V → Hp → Prop) (R0 : Hp → Prop), (pd d = true → ∀ H'', Kx [] H' H'' → R x H'') → (pd d = false → ∀ H'', Kx [] H' H'' → R0 H'') →
      g x (wipe σ vs) H' fun σ2 H2 => wipe σ2 vs = wipe σ vs ∧ tt σ2 H2 fun b H3 => if b = true then te σ2 H3 R else R0 H3)
    (q : ∀ D H', Kx [] H H' → H D = none → Tr C H' (.ref D) (.list (ds.filter pd)) → Q (.ref D) H') :
    CompG (Itl K a) g tt te vs σ H Q := by
  intro D hD
  have hlen := hd.length
  have nD : D ∉ C := fun z => al D z hD
  refine lc_gen (itl_at (B := []) ha (by simp)) (by omega) hD (A := fun i acc _ => TrAll C H acc ((ds.take i).filter pd)) .nil (fun i H' acc hi k hdd hacc R R0 hR hR0 => ?_) fun acc H' k hdd hacc => ?_
  · have ei : ds[i]? = some ds[i] := List.getElem?_eq_getElem (by omega)
    have ex : xs[i]? = some xs[i] := List.getElem?_eq_getElem (by omega)
    obtain ⟨d, e1, e2⟩ := hd.get ex
    rw [ei] at e1
    cases e1
    have ef : ∀ b, pd ds[i] = b → (ds.take (i + 1)).filter pd = (ds.take i).filter pd ++ (if b = true then [ds[i]] else []) := fun b eb => by
      rw [List.take_add_one, ei, List.filter_append]
      cases b <;> simp [eb]
    have e3 : xs.getD i V.non = xs[i] := by
      rw [List.getD_eq_getElem?_getD, ex]; rfl
    rw [e3]
    refine step xs[i] ds[i] H' (List.getElem_mem (by omega)) (e2.up k) k R R0 (fun pt H'' k2 => hR _ H'' (k.trans k2) (k2.lst (by simp) hdd) ?_) fun pf H'' k2 => hR0 H'' (k.trans k2) (k2.lst (by simp) hdd) ?_
    · rw [ef true pt]
      exact hacc.snoc e2
    · rw [ef false pf]
      rw [if_neg (by simp), List.append_nil]
      exact hacc
  · rw [show xs.length = ds.length from hlen, List.take_length] at hacc
    exact q D H' k hD (.lst nD hdd (hacc.up k))
end
end Loops2

set_option Elab.async false
set_option linter.all false
set_option maxRecDepth 100000
set_option maxHeartbeats 4000000
/-! Sets: set(l) of a list of ints, to be sorted; a list compared with an empty one. -/
namespace Sets
open PySem PySem.Spec PyProof.Rows L2
section
variable {P : Program} {w : World} {A : Around} {E : Value → Shared → Prop} {s : Shared}
abbrev soO (w : World) : Obj := { cls := .type "set", dict := none, data := .set #[] 0 (.fresh 0 0 (!w.params.followText "set-order")) }
theorem set_of_list {l : Addr} {items : Array Value} (ns : List Int) {Q : Value → Shared → Prop} (hh : A.handled = none) (hl : s.heap.IsList l items) (hit : IntsAre items.toList ns) (hb : ns.length + 1 < scanBound)
    (h : ∀ (h' : Heap) (tk c : Nat), SetR w h' s.heap.objs.size (fun j => decide (j ∈ ns)) c → c ≤ ns.length → (∀ b o, s.heap.get? b = some o → h'.get? b = some o) → Q (.ref s.heap.objs.size) { s with heap := h', toks := tk }) :
    wpAny (model P w) A (call (.type "set") [.ref l]) Q E s := by
  have hisz : items.size = ns.length := by simpa using hit.length
  obtain ⟨c, tl, hmro⟩ := F.called_set.mro
  have hmade := F.called_set.made
  have hsub := F.called_set.sub
  refine wpAny_call (codeAny_of_tree ?_)
  show wpAny _ _ (callAny (.type "set") _) _ _ _
  refine wpAny_pure ⟨Code.quiet_builtin _ (by decide +kernel), codeAny_builtin F.entry_type_call ?_⟩
  rw [Around.under_plain (weight_type_call_type "set" [.ref l] []) rfl]
  have h1 := F.called_set.notType
  have h2 := F.called_set.canCreate
  have hct := F.typeCall_set_1 (.ref l)
  repeat (any_goals (first | assumption | wp_step))
  have new := code_set_led1 (P := P) (w := w) (A := A.in1) (s := s) (.ref l) (E := E) (Q₁ := fun obj s₁ => obj = .ref s.heap.objs.size ∧ s₁ = { s with heap := s.heap.push (soO w) }) ⟨rfl, rfl⟩
  refine codeAny_mono new fun r s₁ hr => ?_
  match r, hr with
  | .error e, hr => exact hr
  | .ok .next, hr => exact hr.elim
  | .ok .brk, hr => exact hr.elim
  | .ok .cont, hr => exact hr.elim
  | .ok (.ret obj), hr =>
    obtain ⟨rfl, rfl⟩ := hr
    have hS : (s.heap.push (soO w)).get? s.heap.objs.size = some (soO w) := Heap.get?_push_size _ rfl
    have hT : Shared.TypeIs { s with heap := s.heap.push (soO w) } (.ref s.heap.objs.size) "set" := ⟨_, hS, rfl⟩
    have hli := F.called_set.init.lookup
    have hbi := F.called_set.init.bind (.ref s.heap.objs.size)
    repeat (any_goals (first | assumption | wp_step))
    refine codeAny_mono (codeAny_call_builtin (R := wants (fun r s₂ => r = .none ∧ ∃ h' tk c, s₂ = { s with heap := h', toks := tk } ∧ SetR w h' s.heap.objs.size (fun j => decide (j ∈ ns)) c ∧ c ≤ ns.length ∧
        (∀ b o, s.heap.get? b = some o → h'.get? b = some o)) E) F.called_set.init.plain F.entry_set_init (check_set_init_1 hT ?_)) fun r₂ s₂ hr₂ => ?_
    · obtain ⟨ol, hol, hcl, nl, hdl⟩ := hl
      obtain ⟨ocls, odict, odata, oslots⟩ := ol
      simp only at hcl hdl
      subst hcl; subst hdl
      have hol' : (s.heap.push (soO w)).get? l = some { cls := .type "list", dict := odict, data := .seq items nl, slots := oslots } := Heap.get?_push_of_some _ hol
      have hsls := F.sub_list_set
      have hslf := F.sub_list_frozenset
      have hne : (Value.type "list" == Value.type "dict") = false := by decide
      have hl1 : (s.heap.push (soO w)).IsList l items := ⟨_, hol', rfl, nl, rfl⟩
      unfold Builtin.«set.__init__» noKeywords Builtin.Frozenset.updateFrom
      generalize hPI : pyIter = PI
      wp_walk
      subst hPI
      refine wpAny_pyIter_list hl1 ?_
      refine wpAny_bind (wpAny_runValue ?_)
      have hlS : l < s.heap.objs.size := Heap.lt_size hol
      have sz1 : (s.heap.push (soO w)).objs.size = s.heap.objs.size + 1 := Heap.size_push ..
      have hneI : l ≠ (s.heap.push (soO w)).objs.size := by rw [sz1]; exact Nat.ne_of_lt (Nat.lt_succ_of_lt hlS)
      have hSf : s.heap.objs.size ∉ [(s.heap.push (soO w)).objs.size, l] := fun hm => by
        rcases List.mem_cons.mp hm with e | hm
        · rw [sz1] at e; exact absurd e (Nat.ne_of_lt (Nat.lt_succ_self _))
        · rcases List.mem_cons.mp hm with e | hm
          · exact absurd e (Nat.ne_of_gt hlS)
          · cases hm
      have hval : ∀ (i : Nat) (v : Value), items[i]? = some v → ∃ k t, ns[i]? = some k ∧ v = .int k t := fun i v hv => by
        have hi : i < ns.length := by rw [← hisz]; exact (Array.getElem?_eq_some_iff.mp hv).1
        obtain ⟨t, e⟩ := PyProof.Rows.IntsAre.int_at hit i v (by rw [Array.getElem?_toList]; exact hv)
        exact ⟨ns[i], t, List.getElem?_eq_getElem hi, by rw [e, List.getD_eq_getElem?_getD, List.getElem?_eq_getElem hi]; rfl⟩
      have hh3 : A.in1.in1.in1.handled = none := hh
      refine set_update_ints ((Walks.list hh3 _ l hneI items).toS) s.heap.objs.size hSf ns hisz hb hval (items.size - 0) 0 _ (by omega) (Nat.zero_le _)
        ⟨⟨_, Heap.get?_push_size _ rfl, rfl, rfl⟩, (hl1.push _)⟩ ⟨0, Nat.le_refl 0, setR_new_at (Heap.get?_push_of_some _ hS)⟩ fun s' c' hm hc' hS' => ?_
      obtain ⟨h', g2, d', tk', os'⟩ := s'
      obtain rfl : g2 = s.gens := hm.gens
      obtain rfl : d' = s.drawn := hm.drawn
      obtain rfl : os' = s.os := hm.os
      show wpAny _ _ _ _ _ _
      refine wpAny_pure ?_
      show wpAny _ _ (ret Value.none) _ _ _
      rw [hisz] at hc'
      refine wpAny_pure ⟨rfl, h', tk', c', rfl, hS', hc', fun b o e => ?_⟩
      have hb0 : b < s.heap.objs.size := Heap.lt_size e
      refine hm.heap b o (fun hm => ?_) (Heap.get?_push_of_some _ (Heap.get?_push_of_some _ e))
      rcases List.mem_cons.mp hm with e | hm
      · exact absurd e (Nat.ne_of_lt hb0)
      · rcases List.mem_cons.mp hm with e | hm
        · rw [sz1] at e; exact absurd e (Nat.ne_of_lt (Nat.lt_succ_of_lt hb0))
        · cases hm
    · match r₂, hr₂ with
      | .error e, hr₂ => exact hr₂
      | .ok .next, hr₂ => exact hr₂.elim
      | .ok .brk, hr₂ => exact hr₂.elim
      | .ok .cont, hr₂ => exact hr₂.elim
      | .ok (.ret r), hr₂ =>
        obtain ⟨rfl, h', tk, cc, rfl, hS', hc', hk'⟩ := hr₂
        repeat (any_goals (first | assumption | wp_step))
        exact h _ _ _ hS' hc' hk'
end
section
variable {X : Cx}
/-- set(l), l a list of ints -/
def rSetL (w : World) : List V → Hp → VK → Prop := fun xs H Q => ∃ (a : Addr) (ns : List Int), xs = [.ref a] ∧ H a = some (.lst (ns.map V.int)) ∧ ns.length ≤ 60 ∧
  ∀ p c, c ≤ ns.length → H p = none → Q (.ref p) (upd H p (SetO w p (fun j => decide (j ∈ ns)) c))
theorem call_setL (w : World) (hw : X.w = w) (hc : X.calm = true) : CallR X (.type "set") (rSetL w) := by
  subst hw
  intro pins s σ H vs us Q I r h
  obtain ⟨a, ns, rfl, ha, hz, q⟩ := h
  rw [Vals.ref1 r]
  obtain ⟨_, its, n, rv, e⟩ := I.hok a _ ha
  refine set_of_list ns (I.ok.hd hc) ⟨_, e, rfl, n, rfl⟩ (by simpa using ints_of_vals rv) (by unfold scanBound; omega) fun h' tk c R hle k => ?_
  have hn : H s.heap.objs.size = none := I.hok.fresh (Nat.le_refl _)
  exact ⟨.ref s.heap.objs.size, _, I.laid (t' := tk) k (Nat.le_refl _) (setO_new R), rfl, q _ c hle hn⟩
/-- l == [] and l != [] -/
def rEqNil : R2 := fun x y H Q => ∃ a b xs, x = .ref a ∧ y = .ref b ∧ H a = some (.lst xs) ∧ H b = some (.lst []) ∧ Q (.bl xs.isEmpty) H
def rNeNil : R2 := fun x y H Q => ∃ a b xs, x = .ref a ∧ y = .ref b ∧ H a = some (.lst xs) ∧ H b = some (.lst []) ∧ Q (.bl (!xs.isEmpty)) H
theorem op_eqNil (hu : X.A.units < cLine) : OpR X (compareOp .Eq) rEqNil := by
  intro pins s σ H x y v u Q I rx ry h
  obtain ⟨a, b, xs, rfl, rfl, ha, hb, q⟩ := h
  cases rx; cases ry
  obtain ⟨_, its, n, rv, e⟩ := I.hok a _ ha
  obtain ⟨_, its2, n2, rv2, e2⟩ := I.hok b _ hb
  cases rv2
  cases rv with
  | nil =>
    exact SeqAt.eq_listAt (e := fun _ => true) ⟨_, e, rfl, n, rfl⟩ ⟨_, e2, rfl, n2, rfl⟩ rfl hu (fun j h1 => absurd h1 (Nat.not_lt_zero _)) ⟨.bl true, H, I, rfl, q⟩
  | cons r rr =>
    exact SeqAt.eq_list_lengthsAt ⟨_, e, rfl, n, rfl⟩ ⟨_, e2, rfl, n2, rfl⟩ (by simp) hu ⟨.bl false, H, I, rfl, q⟩
theorem op_neNil (hu : X.A.units < cLine) : OpR X (compareOp .NotEq) rNeNil := by
  intro pins s σ H x y v u Q I rx ry h
  obtain ⟨a, b, xs, rfl, rfl, ha, hb, q⟩ := h
  cases rx; cases ry
  obtain ⟨_, its, n, rv, e⟩ := I.hok a _ ha
  obtain ⟨_, its2, n2, rv2, e2⟩ := I.hok b _ hb
  cases rv2
  cases rv with
  | nil =>
    exact SeqAt.RcNeAt.lists (e := fun _ => true) ⟨_, e, rfl, n, rfl⟩ ⟨_, e2, rfl, n2, rfl⟩ rfl hu (fun j h1 => absurd h1 (Nat.not_lt_zero _)) _ _ _ _ ⟨.bl false, H, I, rfl, q⟩
  | cons r rr =>
    exact SeqAt.RcNeAt.lists_lengths ⟨_, e, rfl, n, rfl⟩ ⟨_, e2, rfl, n2, rfl⟩ (by simp) hu _ _ _ _ ⟨.bl true, H, I, rfl, q⟩
end
end Sets

set_option Elab.async false
set_option linter.all false
set_option maxRecDepth 100000
set_option maxHeartbeats 4000000
/-! SetG: a set comprehension whose things are put in by any rule (ints, tuples of ints). -/
namespace SetG
open PySem PySem.Spec PyProof.Rows L2 PpSet
section
variable {X : Cx}
/-- what it asks to put y into the set at D, and what then holds -/
abbrev PutW : Type := V → Addr → Hp → (Hp → Prop) → Prop
/-- the rule of putting in -/
def PutR (X : Cx) (r : PutW) : Prop := ∀ (pins : List (Addr × Obj)) (τ : L2.St) (G : Hp) (z : Shared) (D : Addr) (y : V) (u : Value) (N : Hp → Prop), Inv X pins τ G z → RelV y u → r y D G N →
  wpAny (model X.prog X.w) X.A (call (.builtin "set.add") [.ref D, u]) (fun _ z' => ∃ G', Inv X pins τ G' z' ∧ N G') X.xe z
/-- the fresh set as an abstract object -/
def NewW (X : Cx) (n0 : Addr → HO) : Prop := ∀ (G : Hp) (h : Heap), ObjOk X.prog X.w G (h.push { cls := .type "set", dict := none, data := .set #[] 0 (.fresh 0 0 (!X.w.params.followText "set-order")) }) h.objs.size (n0 h.objs.size)
/-- what the comprehension asks -/
def SetG (n0 : Addr → HO) (r : PutW) (J : It) (g : TG) (tt : TT) (te : TE) (vs : List Nat) (σ : L2.St) (G : Hp) (Q : VK) : Prop := ∀ D, G D = none → ∃ W : Nat → Nat → Hp → Prop, (∃ m, W 0 m (upd G D (n0 D))) ∧ ∀ i m G, W i m G →
  (J.stop i G ∧ Q (.ref D) G) ∨ (J.go i G ∧ ∃ N : Hp → Prop, (∀ G', N G' → ∃ m', m' < m ∧ W (i + 1) m' G') ∧ ∀ x G', J.yld i G x G' → g x (wipe σ vs) G' fun τ G2 => wipe τ vs = wipe σ vs ∧ tt τ G2 fun b G3 => if b = true then te τ G3 fun y G4 => r y D G4 N else N G3)
def tSetG (n0 : Addr → HO) (r : PutW) (wi : TI) (g : TG) (tt : TT) (te : TE) (vs : List Nat) : TE := fun σ G Q => wi σ G fun J G1 => SetG n0 r J g tt te vs σ G1 Q
theorem pe_setG {n0 : Addr → HO} {r : PutW} {elt tg iter : Expr} {ifs : List Expr} {scope : Scope} {own : List (PySem.Str × Nat)} {pos : Pos} {wi : TI} {g : TG} {tt : TT} {te : TE}
    (cm : X.calm = true) (nn : NewW X n0) (nd : X.N.Nodup) (hi : PI X tg iter wi) (bo : BlkOk X.N X.env.scope scope own)
    (hg : ∀ (s : Shared) (H : Hp) (C : Addr) (cl : List (PySem.Str × Addr)) (fp : List Addr), PG (X.blk s H scope (compEnvC scope cl C X.env) fp) tg g)
    (ht : ∀ (s : Shared) (H : Hp) (C : Addr) (cl : List (PySem.Str × Addr)) (fp : List Addr), PTs (X.blk s H scope (compEnvC scope cl C X.env) fp) ifs tt)
    (he : ∀ (s : Shared) (H : Hp) (C : Addr) (cl : List (PySem.Str × Addr)) (fp : List Addr), PE (X.blk s H scope (compEnvC scope cl C X.env) fp) elt te)
    (hp : ∀ (s : Shared) (H : Hp) (C : Addr) (cl : List (PySem.Str × Addr)) (fp : List Addr), PutR (X.blk s H scope (compEnvC scope cl C X.env) fp) r)
    (fo : ∀ x, foldedSetIterable iter X.env x = pure x := by intro _; rfl) :
    PE X (.SetComp elt [⟨tg, iter, ifs, 0⟩] scope pos) (tSetG n0 r wi g tt te (own.map (·.2))) := by
  refine ⟨fun pins z0 σ G Q I hw => ?_⟩
  rw [eval_SetComp]
  have cells : ∀ y ∈ scope.names, y.2 = .free → ∃ c, X.env.cells.lookup y.1 = some c := fun y hy e => (bo.free y hy e).elim (fun k => I.ok.has _ (.inl k)) fun k => I.ok.has _ (.inr k)
  refine wpAny_comprehension_free rfl fo (closure_ok cells) bo.kind (fun y hy e => by rw [bo.uniq y hy, e]) ?_
  refine thn (hi.run pins z0 σ G _ I hw) fun xv z1 first => thn first fun itv z2 there => ?_
  obtain ⟨it, fp, tn, J, G2, rfl, I2, T, st2, apart, ask⟩ := there
  refine newSet_ok (newEnv_comp ?_)
  -- the set's place
  obtain ⟨D, eD⟩ : ∃ D, D = z2.heap.objs.size := ⟨_, rfl⟩
  have nD : G2 D = none := I2.hok.fresh (Nat.le_of_eq eD.symm)
  obtain ⟨W, ⟨mW, w0⟩, turn⟩ := ask D nD
  rw [← eD]
  obtain ⟨z3, e3⟩ : ∃ z3 : Shared, z3 = { z2 with heap := z2.heap.push { cls := .type "set", dict := none, data := .set #[] 0 (.fresh 0 0 (!X.w.params.followText "set-order")) } } := ⟨_, rfl⟩
  rw [← e3]
  have hh3 : z3.heap = z2.heap.push { cls := .type "set", dict := none, data := .set #[] 0 (.fresh 0 0 (!X.w.params.followText "set-order")) } := by rw [e3]
  have keep23 : ∀ b o, z2.heap.get? b = some o → z3.heap.get? b = some o := fun b o e => by rw [hh3]; exact Heap.get?_push_of_some _ e
  obtain ⟨G3, eG3⟩ : ∃ G3, G3 = upd G2 D (n0 D) := ⟨_, rfl⟩
  rw [← eG3] at w0
  have I3 : Inv X pins σ G3 z3 := by
    rw [eG3, e3]
    exact I2.laid (t' := z2.toks) (fun b o e => Heap.get?_push_of_some _ e) (Nat.le_of_eq eD.symm) (by rw [eD]; exact nn _ _)
  have low : ∀ b ∈ fp, b < z2.heap.objs.size := fun b hb => by
    obtain ⟨o, e, _⟩ := T.obj _ _ st2 b hb
    exact Heap.lt_size e
  have apart3 : ∀ b ∈ fp, FpOk X pins G3 b ∧ b < z3.heap.objs.size := fun b hb => by
    have l := low b hb
    have ne : b ≠ D := by rw [eD]; exact Nat.ne_of_lt l
    exact ⟨⟨by rw [eG3, upd_ne ne]; exact (apart b hb).1, (apart b hb).2⟩, by rw [hh3, Heap.size_push]; exact Nat.lt_succ_of_lt l⟩
  have none3 : ∀ b ∈ fp, G3 b = none := fun b hb => (apart3 b hb).1.1
  have st3 : tn 0 z3.heap := T.keep _ _ _ st2 fun b _ o e => keep23 b o e
  have I4 := block_start I3 bo nd apart3
  have pg := hg z3 G3 z3.heap.objs.size (cellsFrom (z3.heap.objs.size + 1) scope.names (cloFrom X.env.cells scope.names [])) fp
  have pt := ht z3 G3 z3.heap.objs.size (cellsFrom (z3.heap.objs.size + 1) scope.names (cloFrom X.env.cells scope.names [])) fp
  have pe := he z3 G3 z3.heap.objs.size (cellsFrom (z3.heap.objs.size + 1) scope.names (cloFrom X.env.cells scope.names [])) fp
  have pp := hp z3 G3 z3.heap.objs.size (cellsFrom (z3.heap.objs.size + 1) scope.names (cloFrom X.env.cells scope.names [])) fp
  obtain ⟨ce, ece⟩ : ∃ ce, ce = compEnvC scope (cellsFrom (z3.heap.objs.size + 1) scope.names (cloFrom X.env.cells scope.names [])) z3.heap.objs.size X.env := ⟨_, rfl⟩
  rw [← ece] at I4 pg pt pe pp
  obtain ⟨z4, e4⟩ : ∃ z4 : Shared, z4 = { z3 with heap := pushCells (z3.heap.push { cls := .type "dict", data := .dict #[] }) scope.names } := ⟨_, rfl⟩
  rw [← e4] at I4
  show codeAny _ _ (.compStart (.SetComp elt [⟨tg, iter, ifs, 0⟩] scope pos) 0 (.ref it) (.ref D) (compEnvC scope (cellsFrom (z3.heap.objs.size + 1) scope.names (cloFrom X.env.cells scope.names [])) z3.heap.objs.size X.env)) _ { z3 with heap := pushCells (z3.heap.push { cls := .type "dict", data := .dict #[] }) scope.names }
  rw [← ece, ← e4]
  have lce : ce.locals = z3.heap.objs.size := by rw [ece]; rfl
  have st4 : tn 0 z4.heap := T.keep _ _ _ st3 fun b _ o e => by rw [e4]; exact pushCells_keeps _ _ _ _ (Heap.get?_push_of_some _ e)
  have fpOk : ∀ {τ : L2.St} {G' : Hp} {z' : Shared}, Inv (X.blk z3 G3 scope ce fp) [] τ G' z' → (∀ b ∈ fp, G' b = none) → ∀ b ∈ fp, FpOk (X.blk z3 G3 scope ce fp) [] G' b := fun {τ G' z'} J' hn b hb =>
    ⟨hn b hb, (J'.ok.exf b hb).1, J'.ok.exfs b hb, .inl hb, fun x c e => (J'.ok.exf b hb).2 x c e, fun p hp => nomatch (show p ∈ ([] : List (Addr × Obj)) from by simpa using hp)⟩
  have loop : codeAny (model X.prog X.w) X.A (.compLoop (.SetComp elt [⟨tg, iter, ifs, 0⟩] scope pos) 0 (.ref it) (.ref D) ce) (compPost (model X.prog X.w) X.A X.xe none (EP X pins σ Q) (.ref D) z3.heap.objs.size) z4 := by
    refine compLoopS_any (fun n z' => ∃ i G', Inv (X.blk z3 G3 scope ce fp) [] (wipe σ (own.map (·.2))) G' z' ∧ tn i z'.heap ∧ (∀ b ∈ fp, G' b = none) ∧ W i n G') ?_ mW ⟨0, G3, I4, st4, none3, w0⟩
    rintro n z5 ⟨i, G5, I5, st5, none5, w5⟩
    rcases turn i n G5 w5 with ⟨stop, done⟩ | ⟨go, N, hN, step⟩
    · refine thnF (T.done (X.blk z3 G3 scope ce fp) rfl rfl rfl cm i [] z5 _ G5 (fun _ _ => False) I5 (fpOk I5 none5) st5 stop) fun r z6 ⟨er, I6⟩ => ?_
      subst er
      have back : Inv X pins σ G5 z6 := I3.call' (ch := fp) I6.os I6.base I6.hok I6.bare fun b hb => ⟨(apart3 b hb).1.2.2.2.1, (apart3 b hb).1.2.1, (apart3 b hb).1.2.2.2.2.1, (apart3 b hb).1.2.2.2.2.2⟩
      have free : G5 z3.heap.objs.size = none := by
        have q : G5 ce.locals = none := I6.free
        rwa [lce] at q
      obtain ⟨m, hns, _⟩ := I6.loc
      have hns : z6.heap.Ns ce.locals m := hns
      rw [lce] at hns
      refine ⟨m, hns, fun h'' sb => ?_⟩
      obtain ⟨a0, a1, a2, a3, a4, a5⟩ := I3.fpOk (Nat.le_refl _) free
      exact ⟨.ref D, G5, back.turned (t' := z6.toks) (fun b o hb e => (sb.2 b hb).trans e) free a1 a3 a4 a5, rfl, done⟩
    · refine thnF (T.item (X.blk z3 G3 scope ce fp) rfl rfl rfl cm i [] z5 _ G5 (fun _ _ => False) I5 (fpOk I5 none5) st5 go) fun r z6 ⟨u, er, got⟩ => ?_
      subst er
      refine thnF got fun _ z7 ⟨x, G7, I7, rx, yx, st7, none7⟩ => ?_
      refine thnF (pg.run _ z7 _ G7 x u _ (I7.pinned (fpOk I7 none7) (T.obj _ _ st7)) rx (step x G7 yx)) fun _ z8 ⟨τ8, G8, I8, eτ, q8⟩ => ?_
      refine thnF (pt.run _ z8 τ8 G8 _ I8 q8) fun b z9 ⟨G9, I9, q9⟩ => ?_
      have turned : ∀ {z' : Shared} {G' : Hp}, Inv (X.blk z3 G3 scope ce fp) ([] ++ pinsAt fp z7.heap) τ8 G' z' → N G' → ∃ m, m < n ∧ ∃ i G', Inv (X.blk z3 G3 scope ce fp) [] (wipe σ (own.map (·.2))) G' z' ∧ tn i z'.heap ∧ (∀ b ∈ fp, G' b = none) ∧ W i m G' := fun {z' G'} J' nx => by
        obtain ⟨m', lt, w'⟩ := hN G' nx
        have pin : ∀ b ∈ fp, ∀ o, z7.heap.get? b = some o → z'.heap.get? b = some o ∧ G' b = none := fun b hb o e =>
          have q := J'.pin (b, o) (List.mem_append_right _ (List.mem_append_right _ (mem_pinsAt hb e)))
          ⟨q.1, q.2.1⟩
        have el : (wipe σ (own.map (·.2))).length = τ8.length := by rw [← eτ, wipe_length]
        have wk := (J'.unpinned (pins := [])).weak el fun j v e => by
          rw [← eτ] at e
          exact (wipe_some e).1
        refine ⟨m', lt, i + 1, G', wk, T.keep _ _ _ st7 fun b hb o e => (pin b hb o e).1, fun b hb => ?_, w'⟩
        obtain ⟨o, e, _⟩ := T.obj _ _ st7 b hb
        exact (pin b hb o e).2
      cases b with
      | false => exact turned I9 (by simpa using q9)
      | true =>
        have q9 : te τ8 G9 fun y G4 => r y D G4 N := by simpa using q9
        refine thnF (pe.run _ z9 τ8 G9 _ I9 q9) fun v z10 ⟨y, G10, I10, ry, put⟩ => ?_
        refine wpAny_mono (pp _ τ8 G10 z10 D y v N I10 ry put) (fun _ z11 ⟨G11, I11, nx⟩ => turned I11 nx) fun _ _ h => h.elim
  exact codeAny_compStart_set loop (T.self X.A 0 _ _ _ st4 loop)
end
/-! ### tuples of ints -/
theorem add_tup {P : Program} {w : World} {A : Around} {E : Value → Shared → Prop} {s : Shared} {a x : Addr} {k : List Int} {L : List (Addr × List Int)} {es : Array (Int × Value)} {ep : Nat} {t : SetTable} {Q : Value → Shared → Prop}
    (R : SetTR P w s.heap a L es ep t) (hx : IsT P w s.heap k x) (hu : A.units + 64 < cLine) (few : L.length + 1 < 64)
    (q : ∀ h' L' es' ep' t' tk, Heap.SameBut a s.heap h' → SetTR P w h' a L' es' ep' t' → (k ∈ L.map (·.2) → L' = L) → (k ∉ L.map (·.2) → L'.Perm ((x, k) :: L)) → Q .none { s with heap := h', toks := tk }) :
    wpAny (model P w) A (call (.builtin "set.add") [.ref a, .ref x]) Q E s := by
  have ty : s.TypeIs (.ref a) "set" := by
    obtain ⟨o, ho, hex, _⟩ := R.ob
    exact ⟨o, ho, hex.1⟩
  refine wpAny_call_entry F.slot_set_add ty F.entry_set_add ?_ (F.args_set_add_2 _ _)
  unfold Builtin.«set.add» Builtin.Frozenset.oneOther
  simp only [List.isEmpty_nil, bind_assoc]
  unfold Builtin.Frozenset.addrOf setAdd
  refine wpAny_bind (wpAny_pure ?_)
  try dsimp only
  refine wpAny_bind (wpAny_pure ?_)
  try dsimp only
  refine wpAny_bind (wpAny_holding ?_)
  refine wpAny_bind (wpAny_pyHash_tuple (by show A.units + 1 < _; omega) hx ?_)
  refine add_at (s := { s with toks := s.toks + (k.length + 1) }) R hx (by show A.units + 1 < _; omega) few fun b h' L' es' ep' t' sb R' c1 c2 => ?_
  show wpAny _ _ (ret Value.none) _ _ _
  exact wpAny_pure ⟨_, rfl, q h' L' es' ep' t' _ sb R' c1 c2⟩
section
variable {X : Cx}
/-- y, a tuple of ints, comes into the set of the tuples of L -/
def rPutT (K : PySem.W.Frag) (P : Program) (w : World) : PutW := fun y D G N => ∃ (x : Addr) (k : List Int) (L : List (Addr × List Int)), y = .ref x ∧ SqT K G x (k.map V.int) ∧ G D = some (SetTO P w D L) ∧ (∀ p ∈ L, SqT K G p.1 (p.2.map V.int)) ∧ L.length + 1 < 64 ∧
  (k ∈ L.map (·.2) → N (upd G D (SetTO P w D L))) ∧ (k ∉ L.map (·.2) → ∀ L', L'.Perm ((x, k) :: L) → N (upd G D (SetTO P w D L')))
theorem put_tup (K : PySem.W.Frag) (P : Program) (w : World) (hK : X.K = K) (hP : X.prog = P) (hw : X.w = w) (hu : X.A.units + 64 < cLine) : PutR X (rPutT K P w) := by
  subst hK hP hw
  intro pins τ G z D y u N I ry h
  obtain ⟨x, k, L, rfl, hx, hD, hL, few, q1, q2⟩ := h
  obtain rfl : u = Value.ref x := ry
  have R0 : SetT0 X.prog X.w z.heap D L := (I.hok D _ hD).1
  obtain ⟨es, ep, t, R⟩ := R0.full fun p hp => Inv.isT I (hL p hp)
  refine add_tup R (Inv.isT I hx) hu few fun h' L' es' ep' t' tk sb R' c1 c2 => ?_
  have he : ∃ u, h'.get? D = some u := by
    obtain ⟨o, ho, _⟩ := R'.ob
    exact ⟨o, ho⟩
  have J := I.write (e := D) (t' := tk) (by rw [hD]; trivial) (.inl rfl) (fun b u hb hu => (sb.2 b hb).trans hu) he (setTO_new R'.t0)
  refine ⟨_, J, ?_⟩
  by_cases c : k ∈ L.map (·.2)
  · rw [c1 c]; exact q1 c
  · exact q2 c L' (c2 c)
theorem new_tup (P : Program) (w : World) (hP : X.prog = P) (hw : X.w = w) : NewW X (fun D => SetTO P w D []) := by
  subst hP hw
  intro G h
  exact setTO_new (SetTR.t0 (setTR_fresh (Heap.get?_push_size _ rfl)))
/-- len of such a set -/
def rLenT (P : Program) (w : World) : List V → Hp → VK → Prop := fun xs G Q => ∃ (a : Addr) (L : List (Addr × List Int)), xs = [.ref a] ∧ G a = some (SetTO P w a L) ∧ Q (.int L.length) G
theorem call_lenT (P : Program) (w : World) (hP : X.prog = P) (hw : X.w = w) : CallR X (.builtin "len") (rLenT P w) := by
  subst hP hw
  intro pins z σ G xs us Q I r h
  obtain ⟨a, L, rfl, ha, q⟩ := h
  cases r with
  | cons r rr =>
    cases rr
    cases r
    have R0 : SetT0 X.prog X.w z.heap a L := (I.hok a _ ha).1
    obtain ⟨es, ep, t, ⟨o, ho, hex, hd⟩, rows, tab, nd, plain, led, room, few⟩ := R0.ex
    have sz : es.size = L.length := by
      have := congrArg List.length rows
      simpa [rowsOf] using this
    have fits : t.fits es.size = true := by
      have e1 := tab.sz
      rw [List.length_map] at e1
      unfold SetTable.fits SetTable.fill
      rw [tab.dm, Bool.and_eq_true, beq_iff_eq, decide_eq_true_eq]
      show t.place.size = es.size ∧ t.place.size + 0 ≤ t.mask
      omega
    refine call_len_set ho hex hd fits (by omega) ⟨.int L.length, G, I.tok _, ⟨_, by rw [sz]⟩, q⟩
end
/-! ### ints -/
section
variable {X : Cx}
def rPutI (w : World) : PutW := fun y D G N => ∃ (k : Int) (S : Int → Bool) (n : Nat), y = .int k ∧ G D = some (SetO w D S n) ∧ n + 1 < scanBound ∧ N (upd G D (SetO w D (fun j => S j || decide (j = k)) (if S k = true then n else n + 1)))
theorem put_int (w : World) (hw : X.w = w) : PutR X (rPutI w) := by
  subst hw
  intro pins τ G z D y u N I ry h
  obtain ⟨k, S, n, rfl, hD, room, q⟩ := h
  exact thn (mt_sadd pins z τ G (.ref D) [.int k] (.ref D) [u] (fun _ G' => N G') I rfl (.cons ry .nil) ⟨D, k, S, n, rfl, rfl, hD, room, q⟩) fun _ z' ⟨_, G', J, _, q⟩ => ⟨G', J, q⟩
theorem new_int (w : World) (hw : X.w = w) : NewW X (fun D => SetO w D (fun _ => false) 0) := by
  subst hw
  intro G h
  exact setO_new (setR_fresh X.w)
def rLenI (w : World) : List V → Hp → VK → Prop := fun xs G Q => ∃ (a : Addr) (S : Int → Bool) (n : Nat), xs = [.ref a] ∧ G a = some (SetO w a S n) ∧ Q (.int n) G
theorem call_lenI (w : World) (hw : X.w = w) : CallR X (.builtin "len") (rLenI w) := by
  subst hw
  intro pins z σ G xs us Q I r h
  obtain ⟨a, S, n, rfl, ha, q⟩ := h
  cases r with
  | cons r rr =>
    cases rr
    cases r
    obtain ⟨o, es, ep, t, ho, hex, hd, _, _, _, hsz, hf, hn, _⟩ := setO_get I ha
    exact call_len_set ho hex hd hf (by unfold scanBound at hsz; omega) ⟨.int n, G, I.tok _, ⟨_, by rw [hn]⟩, q⟩
end
end SetG

set_option Elab.async false
set_option linter.all false
set_option maxRecDepth 100000
set_option maxHeartbeats 2000000
/-! SetL: how many unlike things a comprehension meets: sets of tuples of ints, of ints. -/
namespace SetL
open PySem PySem.Spec PyProof.Rows L2 GxR GX Tree Kit Comps SetG
theorem nodup_next {α : Type} (f : Nat → α) (i : Nat) : ((List.range (i + 1)).map f).Nodup ↔ ((List.range i).map f).Nodup ∧ ∀ j, j < i → f j ≠ f i := by
  rw [List.range_succ, List.map_append, List.nodup_append]
  constructor
  · rintro ⟨h1, _, h3⟩
    exact ⟨h1, fun j hj => h3 _ (List.mem_map.mpr ⟨j, List.mem_range.mpr hj, rfl⟩) _ (by simp)⟩
  · rintro ⟨h1, h3⟩
    refine ⟨h1, by simp, fun a ha b hb => ?_⟩
    obtain ⟨j, hj, rfl⟩ := List.mem_map.mp ha
    have : b = f i := by simpa using hb
    rw [this]
    exact h3 j (List.mem_range.mp hj)
/-- one more thing: the count stays the number of turns just where all were unlike -/
theorem count_next {α : Type} (f : Nat → α) {i n n' : Nat} (hn : n ≤ i) (he : n = i ↔ ((List.range i).map f).Nodup) (hs : (∃ j, j < i ∧ f i = f j) → n' = n) (hm : (¬ ∃ j, j < i ∧ f i = f j) → n' = n + 1) :
    n' ≤ i + 1 ∧ (n' = i + 1 ↔ ((List.range (i + 1)).map f).Nodup) := by
  rw [nodup_next]
  by_cases h : ∃ j, j < i ∧ f i = f j
  · have e := hs h
    refine ⟨by omega, fun z => by omega, fun z => ?_⟩
    obtain ⟨j, hj, ej⟩ := h
    exact absurd ej.symm (z.2 j hj)
  · have e := hm h
    refine ⟨by omega, fun z => ⟨he.mp (by omega), fun j hj ej => h ⟨j, hj, ej.symm⟩⟩, fun z => ?_⟩
    have := he.mpr z.1
    omega
section
variable {g : TG} {te : TE} {vs : List Nat} {σ : L2.St} {H : Hp} {Q : VK}
theorem len_tups {K : PySem.W.Frag} {P : Program} {w : World} {J : It} {N : Nat} {f : Nat → V} (It : ItAt J [] H N f) (keys : Nat → List Int) (hN : N < 64)
    (step : ∀ i H', i < N → Kx [] H H' → ∀ (R : V → Hp → Prop) (R0 : Hp → Prop), (∀ x H'', Kx [] H' H'' → H'' x = some (.tup ((keys i).map V.int)) → R (.ref x) H'') → g (f i) (wipe σ vs) H' fun σ2 H2 => wipe σ2 vs = wipe σ vs ∧ tYes σ2 H2 fun b H3 => if b = true then te σ2 H3 R else R0 H3)
    (q : ∀ D L H', Kx [] H H' → H' D = some (SetTO P w D L) → (L.length = N ↔ ((List.range N).map keys).Nodup) → Q (.ref D) H') :
    SetG (fun D => SetTO P w D []) (rPutT K P w) J g tYes te vs σ H Q := by
  intro D hD
  refine ⟨fun i m H' => m = N - i ∧ i ≤ N ∧ Kx [] H H' ∧ ∃ L : List (Addr × List Int), H' D = some (SetTO P w D L) ∧ (∀ p ∈ L, H' p.1 = some (.tup (p.2.map V.int))) ∧ (∀ k, k ∈ L.map (·.2) ↔ ∃ j, j < i ∧ k = keys j) ∧ L.length ≤ i ∧ (L.length = i ↔ ((List.range i).map keys).Nodup),
    ⟨N, by simp, Nat.zero_le _, Kx.new hD, [], upd_same, fun p h => (nomatch h), fun k => by simp, Nat.le_refl _, by simp⟩, ?_⟩
  rintro i m H1 ⟨rfl, hi, k1, L, eD, hL, mem, le, cnt⟩
  by_cases lt : i < N
  · refine .inr ⟨It.go i H1 lt k1, fun H' => Kx [] H H' ∧ ∃ L : List (Addr × List Int), H' D = some (SetTO P w D L) ∧ (∀ p ∈ L, H' p.1 = some (.tup (p.2.map V.int))) ∧ (∀ k, k ∈ L.map (·.2) ↔ ∃ j, j < i + 1 ∧ k = keys j) ∧ L.length ≤ i + 1 ∧ (L.length = i + 1 ↔ ((List.range (i + 1)).map keys).Nodup),
      fun H' z => ⟨N - (i + 1), by omega, rfl, lt, z.1, z.2⟩, fun y H2 hy => ?_⟩
    obtain ⟨rfl, rfl⟩ := It.yld i H1 y H2 lt k1 hy
    refine step i H2 lt k1 (fun y G4 => rPutT K P w y D G4 fun H' => Kx [] H H' ∧ ∃ L : List (Addr × List Int), H' D = some (SetTO P w D L) ∧ (∀ p ∈ L, H' p.1 = some (.tup (p.2.map V.int))) ∧ (∀ k, k ∈ L.map (·.2) ↔ ∃ j, j < i + 1 ∧ k = keys j) ∧ L.length ≤ i + 1 ∧ (L.length = i + 1 ↔ ((List.range (i + 1)).map keys).Nodup)) _
      (fun x H3 k3 ex => by
        have eD3 : H3 D = some (SetTO P w D L) := k3.at (by simp) eD fun _ z => by cases z
        have hL3 : ∀ p ∈ L, H3 p.1 = some (.tup (p.2.map V.int)) := fun p hp => k3.tup (by simp) (hL p hp)
        have nD : ∀ {b : Addr} {zs : List V}, H3 b = some (.tup zs) → b ≠ D := fun e z => by rw [z, eD3] at e; cases e
        have k13 : ∀ {o : HO}, Kx [] H (upd H3 D o) := fun {o} => (k1.trans k3).mut hD
        refine ⟨x, keys i, L, rfl, SqT.of ex, eD3, fun p hp => SqT.of (hL3 p hp), by omega, fun hm => ⟨k13, L, upd_same, fun p hp => by rw [upd_ne (nD (hL3 p hp))]; exact hL3 p hp, fun k => ?_, ?_⟩, fun hm L' perm => ⟨k13, L', upd_same, fun p hp => ?_, fun k => ?_, ?_⟩⟩
        · rw [mem k]
          constructor
          · rintro ⟨j, hj, e⟩
            exact ⟨j, by omega, e⟩
          · rintro ⟨j, hj, e⟩
            by_cases ej : j = i
            · subst ej
              rw [e]
              exact (mem _).mp hm
            · exact ⟨j, by omega, e⟩
        · exact count_next keys le cnt (fun _ => rfl) fun z => absurd ((mem _).mp hm) z
        · rcases List.mem_cons.mp (perm.mem_iff.mp hp) with e | e
          · rw [e, upd_ne (nD ex)]; exact ex
          · rw [upd_ne (nD (hL3 p e))]; exact hL3 p e
        · rw [(perm.map (·.2)).mem_iff, List.map_cons, List.mem_cons, mem k]
          constructor
          · rintro (e | ⟨j, hj, e⟩)
            · exact ⟨i, by omega, e⟩
            · exact ⟨j, by omega, e⟩
          · rintro ⟨j, hj, e⟩
            by_cases ej : j = i
            · subst ej
              exact .inl e
            · exact .inr ⟨j, by omega, e⟩
        · have el : L'.length = L.length + 1 := by rw [perm.length_eq]; rfl
          exact count_next keys le cnt (fun z => absurd ((mem _).mpr z) hm) fun _ => el)
  · have e : i = N := by omega
    subst e
    exact .inl ⟨It.stop H1 k1, q D L H1 k1 eD cnt⟩
theorem len_ints {w : World} {J : It} {N : Nat} {f : Nat → V} (It : ItAt J [] H N f) (keys : Nat → Int) (hN : N < 64)
    (step : ∀ i H', i < N → Kx [] H H' → ∀ (R : V → Hp → Prop) (R0 : Hp → Prop), (∀ H'', Kx [] H' H'' → R (.int (keys i)) H'') → g (f i) (wipe σ vs) H' fun σ2 H2 => wipe σ2 vs = wipe σ vs ∧ tYes σ2 H2 fun b H3 => if b = true then te σ2 H3 R else R0 H3)
    (q : ∀ D S n H', Kx [] H H' → H' D = some (SetO w D S n) → (n = N ↔ ((List.range N).map keys).Nodup) → Q (.ref D) H') :
    SetG (fun D => SetO w D (fun _ => false) 0) (rPutI w) J g tYes te vs σ H Q := by
  intro D hD
  refine ⟨fun i m H' => m = N - i ∧ i ≤ N ∧ Kx [] H H' ∧ ∃ (S : Int → Bool) (n : Nat), H' D = some (SetO w D S n) ∧ (∀ k, S k = true ↔ ∃ j, j < i ∧ k = keys j) ∧ n ≤ i ∧ (n = i ↔ ((List.range i).map keys).Nodup),
    ⟨N, by simp, Nat.zero_le _, Kx.new hD, fun _ => false, 0, upd_same, fun k => by simp, Nat.le_refl _, by simp⟩, ?_⟩
  rintro i m H1 ⟨rfl, hi, k1, S, n, eD, mem, le, cnt⟩
  by_cases lt : i < N
  · refine .inr ⟨It.go i H1 lt k1, fun H' => Kx [] H H' ∧ ∃ (S : Int → Bool) (n : Nat), H' D = some (SetO w D S n) ∧ (∀ k, S k = true ↔ ∃ j, j < i + 1 ∧ k = keys j) ∧ n ≤ i + 1 ∧ (n = i + 1 ↔ ((List.range (i + 1)).map keys).Nodup),
      fun H' z => ⟨N - (i + 1), by omega, rfl, lt, z.1, z.2⟩, fun y H2 hy => ?_⟩
    obtain ⟨rfl, rfl⟩ := It.yld i H1 y H2 lt k1 hy
    refine step i H2 lt k1 (fun y G4 => rPutI w y D G4 fun H' => Kx [] H H' ∧ ∃ (S : Int → Bool) (n : Nat), H' D = some (SetO w D S n) ∧ (∀ k, S k = true ↔ ∃ j, j < i + 1 ∧ k = keys j) ∧ n ≤ i + 1 ∧ (n = i + 1 ↔ ((List.range (i + 1)).map keys).Nodup)) _ fun H3 k3 => ?_
    have eD3 : H3 D = some (SetO w D S n) := k3.at (by simp) eD fun _ z => by cases z
    refine ⟨keys i, S, n, rfl, eD3, by unfold scanBound; omega, (k1.trans k3).mut hD, _, _, upd_same, fun k => ?_, ?_⟩
    · rw [Bool.or_eq_true, mem k, decide_eq_true_eq]
      constructor
      · rintro (⟨j, hj, e⟩ | e)
        · exact ⟨j, by omega, e⟩
        · exact ⟨i, by omega, e⟩
      · rintro ⟨j, hj, e⟩
        by_cases ej : j = i
        · subst ej
          exact .inr e
        · exact .inl ⟨j, by omega, e⟩
    · refine count_next keys le cnt (fun z => ?_) fun z => ?_
      · rw [if_pos ((mem _).mpr z)]
      · rw [if_neg fun y => z ((mem _).mp y)]
  · have e : i = N := by omega
    subst e
    exact .inl ⟨It.stop H1 k1, q D S n H1 k1 eD cnt⟩
end
end SetL

set_option Elab.async false
set_option linter.all false
set_option maxRecDepth 100000
set_option maxHeartbeats 2000000
/-! Purse: the list of which drawn numbers are taken; what is known beside it. -/
namespace Purse
open PySem PySem.Spec PyProof.Rows L2 GxR GX Tree Kit Comps
/-- the purse at p; its counter is at most n -/
def PurseAt (H : Hp) (p : Addr) (n : Nat) : Prop := ∃ a b c : Int, H p = some (.lst [.int a, .int b, .int c]) ∧ 0 ≤ a ∧ 0 ≤ b ∧ b < 2 ^ 150 ∧ 0 ≤ c ∧ c ≤ (n : Int)
/-- the addresses of C are taken, p is one of them and holds the purse; the tables Ts stand -/
structure At (Ts : List Addr) (C : List Addr) (p : Addr) (n : Nat) (H : Hp) : Prop where
  al : ∀ c ∈ C, H c ≠ none
  mem : p ∈ C
  pu : PurseAt H p n
  tb : Tb Ts H
theorem PurseAt.mono {H : Hp} {p : Addr} {n m : Nat} (h : PurseAt H p n) (l : n ≤ m) : PurseAt H p m := by
  obtain ⟨a, b, c, h1, h2, h3, h4, h5, h6⟩ := h
  exact ⟨a, b, c, h1, h2, h3, h4, h5, by omega⟩
theorem PurseAt.kx {H H' : Hp} {p : Addr} {n : Nat} (h : PurseAt H p n) (k : Kx [] H H') : PurseAt H' p n := by
  obtain ⟨a, b, c, h1, h2⟩ := h
  exact ⟨a, b, c, k.lst (by simp) h1, h2⟩
theorem PurseAt.ne {H : Hp} {p : Addr} {n : Nat} (h : PurseAt H p n) : H p ≠ none := by
  obtain ⟨a, b, c, h1, _⟩ := h
  rw [h1]; simp
section
variable {Ts C : List Addr} {p : Addr} {n m : Nat} {H H' : Hp}
theorem _root_.Tree.Kx.ne (k : Kx [] H H') {b : Addr} (h : H b ≠ none) : H' b ≠ none := fun z => h (k.free (by simp) z)
theorem At.mono (h : At Ts C p n H) (l : n ≤ m) : At Ts C p m H := ⟨h.al, h.mem, h.pu.mono l, h.tb⟩
theorem At.kx (h : At Ts C p n H) (k : Kx [] H H') : At Ts C p n H' := ⟨fun c hc => Kx.ne k (h.al c hc), h.mem, h.pu.kx k, h.tb.kx k⟩
/-- more addresses that are taken -/
theorem At.cons (h : At Ts C p n H) {D : Addr} (hD : H D ≠ none) : At Ts (D :: C) p n H := ⟨fun c hc => (List.mem_cons.mp hc).elim (fun e => e ▸ hD) (h.al c), List.mem_cons_of_mem _ h.mem, h.pu, h.tb⟩
theorem At.less {D : List Addr} (h : At Ts D p n H) (hs : ∀ c ∈ C, c ∈ D) (m : p ∈ C) : At Ts C p n H := ⟨fun c hc => h.al c (hs c hc), m, h.pu, h.tb⟩
theorem At.new (h : At Ts C p n H) {D : Addr} {o : HO} (hD : H D = none) : At Ts C p n (upd H D o) := h.kx (Kx.new hD)
/-- the purse alone has changed -/
theorem At.put (h : At Ts C p n H) (k : Kx [p] H H') (pu : PurseAt H' p m) (hT : ∀ P ∈ Ts, P ≠ p) : At Ts C p m H' :=
  ⟨fun c hc => by
    by_cases e : c = p
    · rw [e]; exact pu.ne
    · exact fun z => h.al c hc (k.free (by simpa using e) z), h.mem, pu, h.tb.kx k fun P hP => by simpa using hT P hP⟩
theorem At.tne (h : At Ts C p n H) : ∀ P ∈ Ts, P ≠ p := fun P hP e => by
  obtain ⟨ps, e1, _⟩ := h.tb P hP
  obtain ⟨a, b, c, h1, _⟩ := h.pu
  rw [e, h1] at e1
  cases e1
/-- a tree stays where the purse alone has changed -/
theorem At.tr (h : At Ts C p n H) {v : V} {d : PyData} (t : Tr C H v d) (k : Kx [p] H H') : Tr C H' v d := Tr.kx k (fun b hb => by rw [List.mem_singleton.mp hb]; exact h.mem) d v t
theorem At.trs (h : At Ts C p n H) {vs : List V} {ds : List PyData} (t : TrAll C H vs ds) (k : Kx [p] H H') : TrAll C H' vs ds := TrAll.kx k (fun b hb => by rw [List.mem_singleton.mp hb]; exact h.mem) ds vs t
theorem At.not (h : At Ts C p n H) {D : Addr} (hD : H D = none) : D ∉ C := fun z => h.al D z hD
/-- a new list, tuple -/
theorem new_lst (al : ∀ c ∈ C, H c ≠ none) {xs : List V} {ds : List PyData} (t : TrAll C H xs ds) {Q : VK} (q : ∀ D H', Kx [] H H' → H D = none → H' D = some (.lst xs) → Tr C H' (.ref D) (.list ds) → Q (.ref D) H') : ∀ D, H D = none → Q (.ref D) (upd H D (.lst xs)) := fun D hD =>
  q D _ (Kx.new hD) hD upd_same (.lst (fun z => al D z hD) upd_same (t.up (Kx.new hD)))
theorem new_tup (al : ∀ c ∈ C, H c ≠ none) {xs : List V} {ds : List PyData} (t : TrAll C H xs ds) {Q : VK} (q : ∀ D H', Kx [] H H' → H D = none → H' D = some (.tup xs) → Tr C H' (.ref D) (.tuple ds) → Q (.ref D) H') : ∀ D, H D = none → Q (.ref D) (upd H D (.tup xs)) := fun D hD =>
  q D _ (Kx.new hD) hD upd_same (.tup (fun z => al D z hD) upd_same (t.up (Kx.new hD)))
theorem new_dic (al : ∀ c ∈ C, H c ≠ none) {Q : VK} (q : ∀ D H', Kx [] H H' → Tr C H' (.ref D) (.dict []) → Q (.ref D) H') : ∀ D, H D = none → Q (.ref D) (upd H D (.dK [])) := fun D hD =>
  q D _ (Kx.new hD) (.dic (fun z => al D z hD) upd_same)
/-! ### coins -/
def sp_coin (Ts : List Addr) : Sp := fun vs H Q _ => ∃ p n many C, vs = [.ref p, .int many] ∧ 0 < many ∧ many ≤ 1000000 ∧ n ≤ 1000000000000 ∧ At Ts C p n H ∧ ∀ r H', 0 ≤ r → r < many → Kx [p] H H' → At Ts C p (n + 1) H' → Q (.int r) H'
theorem use_coin {many : Int} {Q : VK} {E : XK} (h : At Ts C p n H) (h0 : 0 < many) (h1 : many ≤ 1000000) (hn : n ≤ 1000000000000) (q : ∀ r H', 0 ≤ r → r < many → Kx [p] H H' → At Ts C p (n + 1) H' → Q (.int r) H') : sp_coin Ts [.ref p, .int many] H Q E :=
  ⟨p, n, many, C, rfl, h0, h1, hn, h, q⟩
theorem len_ok {xs : List V} (h : Nat.ble xs.length 1000 = true := by rfl) : xs.length ≤ sizeLine := by
  have := Nat.le_of_ble_eq_true h
  unfold sizeLine
  omega
theorem wide_of {i : Int} {b : Nat} (h0 : 0 ≤ i) (h : i < ((2 ^ b : Nat) : Int)) : i.natAbs < 2 ^ b := by omega
end
section
variable {Ts C : List Addr} {p : Addr} {n : Nat} {H : Hp} {g : TG} {tt : TT} {te : TE} {vs : List Nat} {σ : L2.St} {Q : VK}
/-- a comprehension whose turns draw k coins at most -/
theorem lc_pu {J : It} {N : Nat} {f : Nat → V} (It : ItAt J [p] H N f) (hN : N ≤ 1000) (k : Nat) (G : PyData → Prop) (ex : Bool) (hA : At Ts C p n H)
    (step : ∀ D i H', H D = none → i < N → Kx [p] H H' → At Ts (D :: C) p (n + i * k) H' → ∀ (R : V → Hp → Prop) (R0 : Hp → Prop),
      (∀ y d H'', Kx [p] H' H'' → At Ts (D :: C) p (n + (i + 1) * k) H'' → Tr (D :: C) H'' y d → G d → R y H'') →
      (ex = false → ∀ H'', Kx [p] H' H'' → At Ts (D :: C) p (n + (i + 1) * k) H'' → R0 H'') →
      g (f i) (wipe σ vs) H' fun σ2 H2 => wipe σ2 vs = wipe σ vs ∧ tt σ2 H2 fun b H3 => if b = true then te σ2 H3 R else R0 H3)
    (q : ∀ D ds H', Kx [p] H H' → At Ts C p (n + N * k) H' → Tr C H' (.ref D) (.list ds) → ds.length ≤ N → (ex = true → ds.length = N) → (∀ d ∈ ds, G d) → Q (.ref D) H') : CompG J g tt te vs σ H Q := by
  refine lc_tr (B := [p]) (C := C) It (by unfold sizeLine; omega) (Iv := fun i H' => At Ts C p (n + i * k) H') G ex (fun b hb => by rw [List.mem_singleton.mp hb]; exact hA.mem) hA.al (fun i H' D o hD a => ?_) (fun i H' a b hb => by rw [List.mem_singleton.mp hb]; exact a.pu.ne) (by simpa using hA) (fun D i H' hD hal hi kk a R R0 hR hR0 => ?_) q
  · have nD : D ∉ C := hA.not hD
    have np : p ≠ D := fun e => nD (by rw [← e]; exact hA.mem)
    refine ⟨fun c hc => ?_, a.mem, ?_, ?_⟩
    · have nc : c ≠ D := fun e => nD (by rw [← e]; exact hc)
      rw [upd_ne nc]; exact a.al c hc
    · obtain ⟨x, y, z, h1, h2⟩ := a.pu
      exact ⟨x, y, z, by rw [upd_ne np]; exact h1, h2⟩
    · intro P hP
      obtain ⟨ps, e1, e2⟩ := a.tb P hP
      obtain ⟨ps0, e0, _⟩ := hA.tb P hP
      have nP : P ≠ D := fun e => by rw [e, hD] at e0; cases e0
      exact ⟨ps, by rw [upd_ne nP]; exact e1, e2⟩
  · exact step D i H' hD hi kk ⟨hal, List.mem_cons_of_mem _ a.mem, a.pu, a.tb⟩ R R0 (fun y d H'' k2 a2 ty gd => hR y d H'' k2 (a2.less (fun c hc => List.mem_cons_of_mem _ hc) hA.mem) ty gd) (fun e H'' k2 a2 => hR0 e H'' k2 (a2.less (fun c hc => List.mem_cons_of_mem _ hc) hA.mem))
end
section
variable {Ts C : List Addr} {p : Addr} {n : Nat} {H : Hp} {g : TG} {tt : TT} {te : TE} {vs : List Nat} {σ : L2.St} {Q : VK}
/-- the same; each item with its turn -/
theorem lc_puX {J : It} {N : Nat} {f : Nat → V} (It : ItAt J [p] H N f) (hN : N ≤ 1000) (k : Nat) (G : Nat → PyData → Prop) (hA : At Ts C p n H)
    (step : ∀ D i H', H D = none → i < N → Kx [p] H H' → At Ts (D :: C) p (n + i * k) H' → ∀ (R : V → Hp → Prop) (R0 : Hp → Prop),
      (∀ y d H'', Kx [p] H' H'' → At Ts (D :: C) p (n + (i + 1) * k) H'' → Tr (D :: C) H'' y d → G i d → R y H'') →
      (∀ H'', Kx [p] H' H'' → At Ts (D :: C) p (n + (i + 1) * k) H'' → R0 H'') →
      g (f i) (wipe σ vs) H' fun σ2 H2 => wipe σ2 vs = wipe σ vs ∧ tt σ2 H2 fun b H3 => if b = true then te σ2 H3 R else R0 H3)
    (q : ∀ D js ds H', Kx [p] H H' → At Ts C p (n + N * k) H' → Tr C H' (.ref D) (.list ds) → Made G js ds → (∀ j ∈ js, j < N) → Q (.ref D) H') : CompG J g tt te vs σ H Q := by
  refine lc_ix (B := [p]) (C := C) It (by unfold sizeLine; omega) (Iv := fun i H' => At Ts C p (n + i * k) H') G (fun b hb => by rw [List.mem_singleton.mp hb]; exact hA.mem) hA.al (fun i H' D o hD a => ?_) (fun i H' a b hb => by rw [List.mem_singleton.mp hb]; exact a.pu.ne) (by simpa using hA) (fun D i H' hD hal hi kk a R R0 hR hR0 => ?_) q
  · have nD : D ∉ C := hA.not hD
    have np : p ≠ D := fun e => nD (by rw [← e]; exact hA.mem)
    refine ⟨fun c hc => ?_, a.mem, ?_, ?_⟩
    · have nc : c ≠ D := fun e => nD (by rw [← e]; exact hc)
      rw [upd_ne nc]; exact a.al c hc
    · obtain ⟨x, y, z, h1, h2⟩ := a.pu
      exact ⟨x, y, z, by rw [upd_ne np]; exact h1, h2⟩
    · intro P hP
      obtain ⟨ps, e1, e2⟩ := a.tb P hP
      obtain ⟨ps0, e0, _⟩ := hA.tb P hP
      have nP : P ≠ D := fun e => by rw [e, hD] at e0; cases e0
      exact ⟨ps, by rw [upd_ne nP]; exact e1, e2⟩
  · exact step D i H' hD hi kk ⟨hal, List.mem_cons_of_mem _ a.mem, a.pu, a.tb⟩ R R0 (fun y d H'' k2 a2 ty gd => hR y d H'' k2 (a2.less (fun c hc => List.mem_cons_of_mem _ hc) hA.mem) ty gd) (fun H'' k2 a2 => hR0 H'' k2 (a2.less (fun c hc => List.mem_cons_of_mem _ hc) hA.mem))
end
/-! ### new objects, picks -/
section
variable {C : List Addr} {H : Hp}
theorem mk_lst (al : ∀ c ∈ C, H c ≠ none) {xs : List V} {ds : List PyData} (t : TrAll C H xs ds) {D : Addr} (hD : H D = none) : Kx [] H (upd H D (.lst xs)) ∧ upd H D (.lst xs) D = some (.lst xs) ∧ Tr C (upd H D (.lst xs)) (.ref D) (.list ds) :=
  ⟨Kx.new hD, upd_same, .lst (fun z => al D z hD) upd_same (t.up (Kx.new hD))⟩
theorem mk_tup (al : ∀ c ∈ C, H c ≠ none) {xs : List V} {ds : List PyData} (t : TrAll C H xs ds) {D : Addr} (hD : H D = none) : Kx [] H (upd H D (.tup xs)) ∧ upd H D (.tup xs) D = some (.tup xs) ∧ Tr C (upd H D (.tup xs)) (.ref D) (.tuple ds) :=
  ⟨Kx.new hD, upd_same, .tup (fun z => al D z hD) upd_same (t.up (Kx.new hD))⟩
theorem mk_dic (al : ∀ c ∈ C, H c ≠ none) {D : Addr} (hD : H D = none) : Kx [] H (upd H D (.dK [])) ∧ upd H D (.dK []) D = some (.dK []) ∧ Tr C (upd H D (.dK [])) (.ref D) (.dict []) :=
  ⟨Kx.new hD, upd_same, .dic (fun z => al D z hD) upd_same⟩
theorem pick {xs : List V} {ds : List PyData} (t : TrAll C H xs ds) {r : Int} (h0 : 0 ≤ r) (h1 : r < (xs.length : Int)) : ∃ v d, atI xs r = some v ∧ Tr C H v d ∧ d ∈ ds := by
  have hl := t.length
  have e : xs[r.toNat]? = some xs[r.toNat] := List.getElem?_eq_getElem (by omega)
  obtain ⟨d, e1, e2⟩ := t.get e
  refine ⟨_, d, ?_, e2, List.mem_of_getElem? e1⟩
  have := atI_nat e
  rwa [show ((r.toNat : Nat) : Int) = r by omega] at this
end
section
variable {Ts C : List Addr} {p : Addr} {n : Nat} {H H' : Hp}
theorem _root_.Tree.Tr.out {B : List Addr} {a : Addr} {d : PyData} (t : Tr B H (.ref a) d) : a ∉ B := by
  cases t with
  | lst n _ _ => exact n
  | tup n _ _ => exact n
  | dic n _ => exact n
theorem At.nepT (h : At Ts C p n H) {a : Addr} {d : PyData} {H' : Hp} (t : Tr C H' (.ref a) d) : a ∉ [p] := fun e => Tree.Tr.out t (by rw [List.mem_singleton.mp e]; exact h.mem)
theorem At.nep (h : At Ts C p n H) {D : Addr} (hD : H D = none) : D ∉ [p] := fun e => h.not hD (by rw [List.mem_singleton.mp e]; exact h.mem)
/-- a list that is not the purse is written -/
theorem At.set (h : At Ts C p n H) {D : Addr} {xs : List V} {o : HO} (hD : H D = some (.lst xs)) (np : D ≠ p) : At Ts C p n (upd H D o) := by
  refine ⟨fun c hc => ?_, h.mem, ?_, fun P hP => ?_⟩
  · by_cases e : c = D
    · rw [e, upd_same]; simp
    · rw [upd_ne e]; exact h.al c hc
  · obtain ⟨x, y, z, h1, h2⟩ := h.pu
    exact ⟨x, y, z, by rw [upd_ne (Ne.symm np)]; exact h1, h2⟩
  · obtain ⟨ps, e1, e2⟩ := h.tb P hP
    have nP : P ≠ D := fun e => by rw [e, hD] at e1; cases e1
    exact ⟨ps, by rw [upd_ne nP]; exact e1, e2⟩
theorem _root_.Tree.Kx.weak {B D : List Addr} (k : Kx D H H') (h : ∀ b ∈ D, b ∈ B ∨ H b = none) : Kx B H H' := fun b o n e => k b o (fun z => (h b z).elim n fun y => by rw [y] at e; cases e) e
theorem _root_.Tree.Tr.items {B : List Addr} {a : Addr} {ds : List PyData} (t : Tr B H (.ref a) (.list ds)) : ∃ xs, H a = some (.lst xs) ∧ TrAll B H xs ds := by
  cases t with
  | lst _ h l => exact ⟨_, h, l⟩
theorem _root_.Tree.Tr.itemsT {B : List Addr} {a : Addr} {ds : List PyData} (t : Tr B H (.ref a) (.tuple ds)) : ∃ xs, H a = some (.tup xs) ∧ TrAll B H xs ds := by
  cases t with
  | tup _ h l => exact ⟨_, h, l⟩
/-- the tree of a list is at an address -/
theorem _root_.Tree.Tr.listV {B : List Addr} {v : V} {ds : List PyData} (t : Tr B H v (.list ds)) : ∃ a xs, v = .ref a ∧ H a = some (.lst xs) ∧ TrAll B H xs ds := by
  cases t with
  | lst _ h l => exact ⟨_, _, rfl, h, l⟩
theorem _root_.Tree.Tr.tupV {B : List Addr} {v : V} {ds : List PyData} (t : Tr B H v (.tuple ds)) : ∃ a xs, v = .ref a ∧ H a = some (.tup xs) ∧ TrAll B H xs ds := by
  cases t with
  | tup _ h l => exact ⟨_, _, rfl, h, l⟩
theorem _root_.Tree.Tr.intV {B : List Addr} {v : V} {i : Int} (t : Tr B H v (.int i)) : v = .int i := by
  cases t; rfl
end
section
variable {H : Hp}
theorem new_at {o : HO} {D : Addr} {H' : Hp} (hD : H D = none) (e : upd H D o = H') : Kx [] H H' ∧ H' D = some o := by
  subst e
  exact ⟨Kx.new hD, upd_same⟩
theorem mk_ints (ns : List Int) {D : Addr} (hD : H D = none) : Kx [] H (upd H D (.lst (ns.map V.int))) ∧ upd H D (.lst (ns.map V.int)) D = some (.lst (ns.map V.int)) := ⟨Kx.new hD, upd_same⟩
theorem pickI {ns : List Int} {r : Int} (h0 : 0 ≤ r) (h1 : r < (ns.length : Int)) : ∃ i, atI (ns.map V.int) r = some (.int i) ∧ i ∈ ns := by
  have e : ns[r.toNat]? = some ns[r.toNat] := List.getElem?_eq_getElem (by omega)
  refine ⟨_, ?_, List.mem_of_getElem? e⟩
  have := atI_nat (xs := ns.map V.int) (j := r.toNat) (v := .int ns[r.toNat]) (by rw [List.getElem?_map, e]; rfl)
  rwa [show ((r.toNat : Nat) : Int) = r by omega] at this
end
end Purse

set_option Elab.async false
set_option linter.all false
set_option maxRecDepth 100000
set_option maxHeartbeats 2000000
/-! Small: trees with bounds: list lengths, ints, texts, parts, depth. -/
namespace Small
open PySem PySem.Spec PyProof.Rows L2 GxR Tree Kit Data
mutual
def Bd (L M : Nat) : PyData → Prop
  | .none => True
  | .bool _ => True
  | .int i => i.natAbs ≤ M
  | .str x => (reprText x).length ≤ 140
  | .list xs => xs.length ≤ L ∧ BdAll L M xs
  | .tuple xs => xs.length ≤ L ∧ BdAll L M xs
  | .dict kvs => kvs = []
def BdAll (L M : Nat) : List PyData → Prop
  | [] => True
  | x :: xs => Bd L M x ∧ BdAll L M xs
end
theorem bdAll_iff {L M : Nat} : ∀ {xs : List PyData}, BdAll L M xs ↔ ∀ d ∈ xs, Bd L M d
  | [] => ⟨fun _ d h => (nomatch h), fun _ => trivial⟩
  | x :: xs => by
    simp only [BdAll, List.mem_cons, forall_eq_or_imp, bdAll_iff (xs := xs)]
theorem depthAll_le {D : Nat} : ∀ {xs : List PyData}, PyData.depthAll xs ≤ D ↔ ∀ d ∈ xs, d.depth ≤ D
  | [] => ⟨fun _ d h => (nomatch h), fun _ => Nat.zero_le _⟩
  | x :: xs => by
    simp only [PyData.depthAll, List.mem_cons, forall_eq_or_imp, Nat.max_le, depthAll_le (xs := xs)]
theorem szAll_le {S : Nat} : ∀ {xs : List PyData}, (∀ d ∈ xs, sz d ≤ S) → szAll xs ≤ xs.length * S
  | [], _ => by simp [szAll]
  | x :: xs, h => by
    have h1 := h x (by simp)
    have h2 := szAll_le (xs := xs) (S := S) fun d hd => h d (by simp [hd])
    simp only [szAll, List.length_cons, Nat.succ_mul]
    omega
structure Sm (L M S D : Nat) (d : PyData) : Prop where
  bd : Bd L M d
  sz : sz d ≤ S
  dp : d.depth ≤ D
section
variable {L M S D : Nat}
theorem Sm.mono {L' M' S' D' : Nat} {d : PyData} (h : Sm L M S D d) (hL : L ≤ L') (hM : M ≤ M') (hS : S ≤ S') (hD : D ≤ D') : Sm L' M' S' D' d := by
  refine ⟨?_, Nat.le_trans h.sz hS, Nat.le_trans h.dp hD⟩
  have key : ∀ k (d : PyData), Data.sz d ≤ k → Bd L M d → Bd L' M' d := by
    intro k
    induction k with
    | zero => intro d hk _; have := sz_pos d; omega
    | succ k ih =>
      intro d hk hb
      cases d with
      | list xs =>
        simp only [Bd, Data.sz, bdAll_iff] at hb hk ⊢
        exact ⟨by omega, fun d hd => ih d (by have := szAll_mem hd; omega) (hb.2 d hd)⟩
      | tuple xs =>
        simp only [Bd, Data.sz, bdAll_iff] at hb hk ⊢
        exact ⟨by omega, fun d hd => ih d (by have := szAll_mem hd; omega) (hb.2 d hd)⟩
      | int i => simp only [Bd] at hb ⊢; omega
      | _ => exact hb
  exact key _ d (Nat.le_refl _) h.bd
theorem Sm.int {i : Int} (h : i.natAbs ≤ M) : Sm L M 1 0 (.int i) := ⟨h, Nat.le_refl _, Nat.le_refl _⟩
theorem Sm.none : Sm L M 1 0 .none := ⟨trivial, Nat.le_refl _, Nat.le_refl _⟩
theorem Sm.bool (b : Bool) : Sm L M 1 0 (.bool b) := ⟨trivial, Nat.le_refl _, Nat.le_refl _⟩
theorem Sm.str {x : Str} (h : (reprText x).length ≤ 140) : Sm L M 1 0 (.str x) := ⟨h, Nat.le_refl _, Nat.le_refl _⟩
theorem Sm.dict : Sm L M 1 1 (.dict []) := ⟨rfl, Nat.le_refl _, Nat.le_refl _⟩
theorem Sm.list {N : Nat} {ds : List PyData} (h : ∀ d ∈ ds, Sm L M S D d) (hN : ds.length ≤ N) (hL : N ≤ L) : Sm L M (N * S + 1) (D + 1) (.list ds) := by
  refine ⟨⟨by omega, bdAll_iff.mpr fun d hd => (h d hd).bd⟩, ?_, ?_⟩
  · have := szAll_le (S := S) fun d hd => (h d hd).sz
    simp only [Data.sz]
    have := Nat.mul_le_mul_right S hN
    omega
  · simp only [PyData.depth]
    have := depthAll_le.mpr fun d hd => (h d hd).dp
    omega
theorem Sm.tuple {N : Nat} {ds : List PyData} (h : ∀ d ∈ ds, Sm L M S D d) (hN : ds.length ≤ N) (hL : N ≤ L) : Sm L M (N * S + 1) (D + 1) (.tuple ds) := by
  refine ⟨⟨by omega, bdAll_iff.mpr fun d hd => (h d hd).bd⟩, ?_, ?_⟩
  · have := szAll_le (S := S) fun d hd => (h d hd).sz
    simp only [Data.sz]
    have := Nat.mul_le_mul_right S hN
    omega
  · simp only [PyData.depth]
    have := depthAll_le.mpr fun d hd => (h d hd).dp
    omega
/-- the items of a list: their own bounds -/
theorem Sm.items {ds : List PyData} (h : Sm L M S D (.list ds)) : ds.length ≤ L ∧ szAll ds + 1 ≤ S ∧ ∀ d ∈ ds, Bd L M d ∧ d.depth + 1 ≤ D := by
  have h1 := h.bd
  have h2 := h.sz
  have h3 := h.dp
  simp only [Bd, bdAll_iff, Data.sz, PyData.depth] at h1 h2 h3
  have h4 : PyData.depthAll ds ≤ D - 1 := by omega
  exact ⟨h1.1, h2, fun d hd => ⟨h1.2 d hd, by have := depthAll_le.mp h4 d hd; omega⟩⟩
theorem Sm.itemsT {ds : List PyData} (h : Sm L M S D (.tuple ds)) : ds.length ≤ L ∧ szAll ds + 1 ≤ S ∧ ∀ d ∈ ds, Bd L M d ∧ d.depth + 1 ≤ D := by
  have h1 := h.bd
  have h2 := h.sz
  have h3 := h.dp
  simp only [Bd, bdAll_iff, Data.sz, PyData.depth] at h1 h2 h3
  have h4 : PyData.depthAll ds ≤ D - 1 := by omega
  exact ⟨h1.1, h2, fun d hd => ⟨h1.2 d hd, by have := depthAll_le.mp h4 d hd; omega⟩⟩
/-- made of parts: the sum of their sizes -/
theorem Sm.mkList {ds : List PyData} (hl : ds.length ≤ L) (hs : szAll ds + 1 ≤ S) (h : ∀ d ∈ ds, Bd L M d ∧ d.depth + 1 ≤ D) (hD : 1 ≤ D) : Sm L M S D (.list ds) := by
  refine ⟨⟨hl, bdAll_iff.mpr fun d hd => (h d hd).1⟩, hs, ?_⟩
  simp only [PyData.depth]
  have := depthAll_le (D := D - 1) |>.mpr fun d hd => by have := (h d hd).2; omega
  omega
theorem Sm.mkTuple {ds : List PyData} (hl : ds.length ≤ L) (hs : szAll ds + 1 ≤ S) (h : ∀ d ∈ ds, Bd L M d ∧ d.depth + 1 ≤ D) (hD : 1 ≤ D) : Sm L M S D (.tuple ds) := by
  refine ⟨⟨hl, bdAll_iff.mpr fun d hd => (h d hd).1⟩, hs, ?_⟩
  simp only [PyData.depth]
  have := depthAll_le (D := D - 1) |>.mpr fun d hd => by have := (h d hd).2; omega
  omega
end
end Small

set_option Elab.async false
set_option linter.all false
set_option maxRecDepth 100000
set_option maxHeartbeats 2000000
/-! Ib: truths among ints (+, -), str of either; how long a text of a number is when shown. -/
namespace Ib
open PySem PySem.Spec PyProof.Rows L2 GxR Tree Kit Data Small
def asI : V → Option Int
  | .int i => some i
  | .bl b => some (if b = true then 1 else 0)
  | _ => none
def rAddB : R2 := fun x y H Q => ∃ i j, asI x = some i ∧ y = .int j ∧ Q (.int (i + j)) H
def rSubB : R2 := fun x y H Q => ∃ i j, asI x = some i ∧ y = .int j ∧ Q (.int (i - j)) H
def rSubIB : R2 := fun x y H Q => ∃ i j, x = .int i ∧ asI y = some j ∧ Q (.int (i - j)) H
section
variable {X : Cx}
theorem op_addB : OpR X (binaryOp .Add) rAddB := by
  intro pins s σ H x y v u Q I rx ry h
  obtain ⟨i, j, ex, rfl, q⟩ := h
  obtain ⟨t', rfl⟩ := ry
  cases x with
  | int a =>
    have e : a = i := Option.some.inj ex
    subst e
    obtain ⟨t, rfl⟩ := rx
    exact add_int ⟨.int (a + j), H, I.tok _, ⟨_, rfl⟩, q⟩
  | bl b =>
    cases ex
    cases rx
    exact IntBool.add_bool_int ⟨.int ((if b = true then 1 else 0) + j), H, I.tok _, ⟨_, rfl⟩, q⟩
  | _ => cases ex
theorem op_subB : OpR X (binaryOp .Sub) rSubB := by
  intro pins s σ H x y v u Q I rx ry h
  obtain ⟨i, j, ex, rfl, q⟩ := h
  obtain ⟨t', rfl⟩ := ry
  cases x with
  | int a =>
    have e : a = i := Option.some.inj ex
    subst e
    obtain ⟨t, rfl⟩ := rx
    exact sub_int ⟨.int (a - j), H, I.tok _, ⟨_, rfl⟩, q⟩
  | bl b =>
    cases ex
    cases rx
    exact IntBool.sub_bool_int ⟨.int ((if b = true then 1 else 0) - j), H, I.tok _, ⟨_, rfl⟩, q⟩
  | _ => cases ex
theorem op_subIB : OpR X (binaryOp .Sub) rSubIB := by
  intro pins s σ H x y v u Q I rx ry h
  obtain ⟨i, j, rfl, ey, q⟩ := h
  obtain ⟨t, rfl⟩ := rx
  cases y with
  | int a =>
    have e : a = j := Option.some.inj ey
    subst e
    obtain ⟨t', rfl⟩ := ry
    exact sub_int ⟨.int (i - a), H, I.tok _, ⟨_, rfl⟩, q⟩
  | bl b =>
    cases ey
    cases ry
    exact IntBool.sub_int_bool ⟨.int (i - (if b = true then 1 else 0)), H, I.tok _, ⟨_, rfl⟩, q⟩
  | _ => cases ey
def strB : V → Option Str
  | .int i => if i.natAbs.log2 < 1920 then some (toString i) else none
  | .bl b => some (if b = true then "True" else "False")
  | _ => none
def rStrB : List V → Hp → VK → Prop := fun xs H Q => ∃ x t, xs = [x] ∧ strB x = some t ∧ Q (.str t) H
theorem call_strB : CallR X (.type "str") rStrB := by
  intro pins s σ H xs us Q I r h
  obtain ⟨x, t, rfl, e, q⟩ := h
  cases x with
  | int i =>
    obtain ⟨u, rfl, t', rfl⟩ := vals1 r
    simp only [strB] at e
    split at e
    · cases e
      exact PySem.P.str_of_int (by assumption) ⟨.str _, H, I.tok _, ⟨_, rfl⟩, q⟩
    · cases e
  | bl b =>
    obtain ⟨u, rfl, ru⟩ := vals1 r
    cases ru
    cases e
    exact PySem.P.str_of_bool ⟨.str _, H, I.tok _, ⟨_, rfl⟩, q⟩
  | _ => cases e
end
/-! ### how long -/
theorem reprChar_len {q c : Nat} (h : c < 16 ^ 8) : (Builtin.Str.reprChar q c).length ≤ 10 := by
  have hd : (Nat.toDigits 16 c).length ≤ 8 := (Nat.length_toDigits_le_iff (by decide) (by decide)).mpr h
  unfold Builtin.Str.reprChar
  simp only []
  repeat (first | split | (simp only [List.length_append, List.length_replicate, List.length_map, List.length_cons, List.length_nil]; omega))
theorem reprText_len {x : Str} (h : ∀ c ∈ x.cps.toList, c < 16 ^ 8) : (reprText x).length ≤ 10 * x.length + 2 := by
  rw [← reprLen_eq, ← Array.foldl_toList]
  have key : ∀ (l : List Nat) (n : Nat), (∀ c ∈ l, c < 16 ^ 8) → l.foldl (fun n c => n + (Builtin.Str.reprChar (reprQuote x) c).length) n ≤ 10 * l.length + n := by
    intro l
    induction l with
    | nil => intro n _; simp
    | cons c r ih =>
      intro n hl
      have h1 := reprChar_len (q := reprQuote x) (hl c (by simp))
      have h2 := ih (n + (Builtin.Str.reprChar (reprQuote x) c).length) fun c hc => hl c (by simp [hc])
      simp only [List.foldl_cons, List.length_cons]
      omega
  have := key x.cps.toList 2 h
  have e : x.cps.toList.length = x.length := by rw [Array.length_toList]; rfl
  omega
theorem reprText_of (t : String) : (reprText (Str.ofString t)).length ≤ 10 * t.length + 2 := by
  have e : (Str.ofString t).length = t.length := PySem.ofString_length t
  rw [← e]
  refine reprText_len fun c hc => ?_
  have : ∃ ch ∈ t.toList, c = ch.toNat := by
    rw [Str.ofString_eq_toList] at hc
    simp only [List.mem_map] at hc
    obtain ⟨ch, h1, h2⟩ := hc
    exact ⟨ch, h1, h2.symm⟩
  obtain ⟨ch, _, rfl⟩ := this
  have := ch.valid
  have h3 : ch.toNat < 1114112 := by
    rcases this with h | h
    · exact Nat.lt_trans h (by decide)
    · exact h.2
  omega
theorem repr_int {i : Int} (h : i.natAbs ≤ 100000000000) : (reprText (Str.ofString (toString i))).length ≤ 140 := by
  have h1 := reprText_of (toString i)
  have h2 := int_text_length_le10 (a := i) (k := 12) (by decide) (by omega)
  omega
/-! ### slices -/
theorem cut_hi (xs : List V) (k : Nat) : cutV xs none (some (k : Int)) = xs.take k := by
  unfold cutV
  rw [HT.sIx_none, HT.sIx_nat, List.drop_zero, Nat.sub_zero]
  exact (List.take_eq_take_min).symm
theorem cut_lo (xs : List V) (k : Nat) : cutV xs (some (k : Int)) none = xs.drop k := by
  unfold cutV
  rw [HT.sIx_none, HT.sIx_nat]
  by_cases h : k ≤ xs.length
  · rw [Nat.min_eq_left h]
    exact List.take_of_length_le (by rw [List.length_drop]; omega)
  · rw [Nat.min_eq_right (by omega), List.drop_of_length_le (Nat.le_refl _), List.drop_of_length_le (by omega), List.take_nil]
theorem cut_hi1 (xs : List V) (k : Nat) : cutV xs none (some ((k : Int) + 1)) = xs.take (k + 1) := cut_hi xs (k + 1)
theorem cut_lo1 (xs : List V) (k : Nat) : cutV xs (some ((k : Int) + 1)) none = xs.drop (k + 1) := cut_lo xs (k + 1)
theorem szAll_take (ds : List PyData) (k : Nat) : szAll (ds.take k) + szAll (ds.drop k) = szAll ds := by
  rw [← szAll_append, List.take_append_drop]
theorem szAll_reverse : ∀ ds : List PyData, szAll ds.reverse = szAll ds
  | [] => rfl
  | d :: ds => by
    rw [List.reverse_cons, szAll_append, szAll_reverse ds]
    simp only [szAll]
    omega
/-! ### lists of ints compared -/
theorem dp_ints {K : PySem.W.Frag} {H : Hp} {a : Addr} {ns : List Int} (h : H a = some (.lst (ns.map V.int))) : Dp K H (.ref a) (.list (ns.map .int)) := by
  refine .lst (SqL.of h) ?_
  clear h
  induction ns with
  | nil => exact .nil
  | cons n r ih => exact .cons (.int n) ih
theorem canLay_ints (ns : List Int) : PyData.canLay0 (.list (ns.map .int)) = true := by
  show PyData.canLayAll0 _ = true
  induction ns with
  | nil => rfl
  | cons n r ih =>
    show (PyData.canLay0 (.int n) && PyData.canLayAll0 (r.map .int)) = true
    rw [ih]; rfl
theorem shaped_ints (ns : List Int) : SeqAt.shaped (.list (ns.map .int)) = true := by
  unfold SeqAt.shaped
  rw [canLay_ints ns, Bool.true_and]
  refine decide_eq_true ?_
  show PyData.depthAll _ + 1 ≤ 64
  have : PyData.depthAll (ns.map .int) = 0 := by
    induction ns with
    | nil => rfl
    | cons n r ih =>
      show max (PyData.depth (.int n)) (PyData.depthAll (r.map .int)) = 0
      rw [ih]; rfl
  omega
theorem eqv_ints : ∀ ns ms : List Int, PyData.eqv (.list (ns.map .int)) (.list (ms.map .int)) = decide (ns = ms)
  | [], [] => by decide
  | [], m :: ms => by
    show false = _
    exact (decide_eq_false (by simp)).symm
  | n :: ns, [] => by
    show false = _
    exact (decide_eq_false (by simp)).symm
  | n :: ns, m :: ms => by
    have ih := eqv_ints ns ms
    show ((n == m) && PyData.eqvAll (ns.map .int) (ms.map .int)) = _
    have e : PyData.eqvAll (ns.map .int) (ms.map .int) = decide (ns = ms) := ih
    rw [e, Bool.eq_iff_iff]
    simp
theorem sorted_eq {ns ms : List Int} (hp : ms.Pairwise (· < ·)) (hm : ∀ k : Int, k ∈ ms ↔ k ∈ ns) : decide (ns = ms) = risesB ns := by
  rw [Bool.eq_iff_iff, decide_eq_true_eq]
  unfold risesB
  rw [decide_eq_true_eq]
  constructor
  · intro e
    rw [e]; exact hp
  · intro h
    have nd : ∀ {l : List Int}, l.Pairwise (· < ·) → l.Nodup := fun h => h.imp fun h => Int.ne_of_lt h
    exact List.Perm.eq_of_pairwise (le := (· < ·)) (fun a b _ _ h1 h2 => absurd h1 (by omega)) h hp ((List.perm_ext_iff_of_nodup (nd h) (nd hp)).mpr fun a => (hm a).symm)
section
variable {X : Cx}
theorem cr_sortedSetW (w : World) (h : X.w = w) (hc : X.calm = true) : CallR X (.builtin "sorted") (rSortedSet w) := h ▸ cr_sortedSet hc
end
end Ib

set_option Elab.async false
set_option linter.all false
set_option maxRecDepth 100000
set_option maxHeartbeats 2000000
/-! Lit: expressions that make a tree of what stands, and change nothing. -/
namespace Lit
open PySem PySem.Spec PyProof.Rows L2 GxR GX Tree Kit Comps Purse Ib
/-- te makes the tree d, whatever was added since H -/
def LitE (σ : L2.St) (C : List Addr) (H : Hp) (te : TE) (d : PyData) : Prop := ∀ H1, Kx [] H H1 → ∀ Q : VK, (∀ v H', Kx [] H1 H' → Tr C H' v d → Q v H') → te σ H1 Q
def LitL (σ : L2.St) (C : List Addr) (H : Hp) (ts : TA) (ds : List PyData) : Prop := ∀ H1, Kx [] H H1 → ∀ Q : List V → Hp → Prop, (∀ vs H', Kx [] H1 H' → TrAll C H' vs ds → Q vs H') → ts σ H1 Q
section
variable {σ : L2.St} {C : List Addr} {H : Hp} {te te' : TE} {ts : TA} {d : PyData} {ds es : List PyData} {K : PySem.W.Frag}
theorem lit_use {Q : VK} (l : LitE σ C H te d) (q : ∀ v H', Kx [] H H' → Tr C H' v d → Q v H') : te σ H Q := l H (Kx.refl H) Q q
theorem lit_at {H1 : Hp} {Q : VK} (l : LitE σ C H te d) (k : Kx [] H H1) (q : ∀ v H', Kx [] H1 H' → Tr C H' v d → Q v H') : te σ H1 Q := l H1 k Q q
theorem al_up {H1 : Hp} (al : ∀ c ∈ C, H c ≠ none) (k : Kx [] H H1) : ∀ c ∈ C, H1 c ≠ none := fun c hc => Kx.ne k (al c hc)
theorem lit_int {i : Int} : LitE σ C H (tC (.int i)) (.int i) := fun H1 _ Q q => q _ H1 (Kx.refl _) (.int i)
theorem lit_non : LitE σ C H (tC .non) .none := fun H1 _ Q q => q _ H1 (Kx.refl _) .non
theorem lit_bl {b : Bool} : LitE σ C H (tC (.bl b)) (.bool b) := fun H1 _ Q q => q _ H1 (Kx.refl _) (.bl b)
theorem lit_str {x : Str} : LitE σ C H (tC (.str x)) (.str x) := fun H1 _ Q q => q _ H1 (Kx.refl _) (.str x)
theorem lit_var {j : Nat} {v : V} (hσ : σ[j]? = some (some v)) (t : Tr C H v d) : LitE σ C H (tVar j) d := fun H1 k Q q => ⟨v, hσ, q v H1 (Kx.refl _) (t.up k)⟩
theorem lit_nil : LitL σ C H tNil [] := fun H1 _ Q q => q [] H1 (Kx.refl _) .nil
theorem lit_cons (a : LitE σ C H te d) (b : LitL σ C H ts ds) : LitL σ C H (tCons te ts) (d :: ds) := fun H1 k Q q =>
  st_cons (a H1 k _ fun v H2 k2 t => b H2 (k.trans k2) _ fun vs H3 k3 t3 => q _ H3 (k2.trans k3) (.cons (t.up k3) t3))
theorem lit_lst (al : ∀ c ∈ C, H c ≠ none) (b : LitL σ C H ts ds) (hl : ds.length ≤ 1000) : LitE σ C H (tLst ts) (.list ds) := fun H1 k Q q =>
  b H1 k _ fun vs H2 k2 t => ⟨by have := t.length; unfold sizeLine; omega, fun p hp => by
    obtain ⟨k3, e3, t3⟩ := mk_lst (al_up al (k.trans k2)) t hp
    exact q _ _ (k2.trans k3) t3⟩
theorem lit_tup (al : ∀ c ∈ C, H c ≠ none) (b : LitL σ C H ts ds) (hl : ds.length ≤ 1000) : LitE σ C H (tTup ts) (.tuple ds) := fun H1 k Q q =>
  b H1 k _ fun vs H2 k2 t => ⟨by have := t.length; unfold sizeLine; omega, fun p hp => by
    obtain ⟨k3, e3, t3⟩ := mk_tup (al_up al (k.trans k2)) t hp
    exact q _ _ (k2.trans k3) t3⟩
theorem lit_dict (al : ∀ c ∈ C, H c ≠ none) : LitE σ C H tDNewK (.dict []) := fun H1 k Q q p hp => by
  obtain ⟨k3, e3, t3⟩ := mk_dic (al_up al k) hp
  exact q _ _ k3 t3
theorem lit_cat (al : ∀ c ∈ C, H c ≠ none) (a : LitE σ C H te (.list ds)) (b : LitE σ C H te' (.list es)) (hl : ds.length + es.length ≤ 100000) : LitE σ C H (tOp rCat te te') (.list (ds ++ es)) := fun H1 k Q q =>
  st_op (a H1 k _ fun v H2 k2 t => b H2 (k.trans k2) _ fun u H3 k3 t3 => by
    obtain ⟨x, xs, rfl, ex, tx⟩ := (t.up k3).listV
    obtain ⟨y, ys, rfl, ey, ty⟩ := t3.listV
    refine ⟨x, y, xs, ys, rfl, rfl, ex, ey, by have h1 := tx.length; have h2 := ty.length; unfold sizeLine; omega, fun p hp => ?_⟩
    obtain ⟨k4, e4, t4⟩ := mk_lst (al_up al (k.trans (k2.trans k3))) (tx.append ty) hp
    exact q _ _ (k2.trans (k3.trans k4)) t4)
theorem trAll_rep {vs : List V} (t : TrAll C H vs ds) : ∀ n : Nat, TrAll C H (List.replicate n vs).flatten (List.replicate n ds).flatten
  | 0 => .nil
  | n + 1 => by
    rw [List.replicate_succ, List.replicate_succ, List.flatten_cons, List.flatten_cons]
    exact t.append (trAll_rep t n)
theorem lit_rep (al : ∀ c ∈ C, H c ≠ none) {n : Nat} (a : LitE σ C H te (.list ds)) (hl : ds.length ≤ 1000) (hn : n ≤ 1000) : LitE σ C H (tOp rRep te (tC (.int (n : Int)))) (.list (List.replicate n ds).flatten) := fun H1 k Q q =>
  st_op (a H1 k _ fun v H2 k2 t => by
    obtain ⟨x, xs, rfl, ex, tx⟩ := t.listV
    have h1 := tx.length
    refine ⟨x, (n : Int), xs, rfl, rfl, ex, by omega, by omega, ?_, fun p hp => ?_⟩
    · have : xs.length * n ≤ 1000 * 1000 := Nat.mul_le_mul (by omega) hn
      rw [Int.toNat_natCast]
      unfold sizeLine
      omega
    · rw [Int.toNat_natCast]
      obtain ⟨k4, e4, t4⟩ := mk_lst (al_up al (k.trans k2)) (trAll_rep tx n) hp
      exact q _ _ (k2.trans k4) t4)
theorem lit_take (al : ∀ c ∈ C, H c ≠ none) {n : Nat} (a : LitE σ C H te (.list ds)) : LitE σ C H (tSl (rSlL K) te tNoPart (tPart (tC (.int (n : Int))))) (.list (ds.take n)) := fun H1 k Q q =>
  a H1 k _ fun v H2 k2 t => by
    obtain ⟨x, xs, rfl, ex, tx⟩ := t.listV
    refine ⟨_, rfl, x, xs, rfl, SqL.of ex, fun p hp => ?_⟩
    rw [cut_hi]
    obtain ⟨k4, e4, t4⟩ := mk_lst (al_up al (k.trans k2)) (tx.take n) hp
    exact q _ _ (k2.trans k4) t4
theorem lit_drop (al : ∀ c ∈ C, H c ≠ none) {n : Nat} (a : LitE σ C H te (.list ds)) : LitE σ C H (tSl (rSlL K) te (tPart (tC (.int (n : Int)))) tNoPart) (.list (ds.drop n)) := fun H1 k Q q =>
  a H1 k _ fun v H2 k2 t => by
    obtain ⟨x, xs, rfl, ex, tx⟩ := t.listV
    refine ⟨_, rfl, x, xs, rfl, SqL.of ex, fun p hp => ?_⟩
    rw [cut_lo]
    obtain ⟨k4, e4, t4⟩ := mk_lst (al_up al (k.trans k2)) (tx.drop n) hp
    exact q _ _ (k2.trans k4) t4
theorem lit_sub {i j : Int} (a : LitE σ C H te (.int i)) : LitE σ C H (tOp (rI0 fun i j => .int (i - j)) te (tC (.int j))) (.int (i - j)) := fun H1 k Q q =>
  st_op (a H1 k _ fun v H2 k2 t => by
    rw [Tree.Tr.intV t]
    exact ⟨i, j, rfl, rfl, q _ _ k2 (.int _)⟩)
theorem lit_len {j : Nat} {a : Addr} (hσ : σ[j]? = some (some (.ref a))) (t : Tr C H (.ref a) (.list ds)) : LitE σ C H (tCB (rLenK K) (tCons (tVar j) tNil)) (.int ds.length) := fun H1 k Q q => by
  obtain ⟨xs, ex, tx⟩ := (t.up k).items
  refine ⟨.ref a, hσ, a, xs, rfl, .inl (SqL.of ex), ?_⟩
  rw [tx.length]
  exact q _ H1 (Kx.refl _) (.int _)
end

mutual
theorem avoid {B : List Addr} {H : Hp} {F : Addr} (hF : H F = none) : ∀ (d : PyData) (v : V), Tr B H v d → Tr (F :: B) H v d
  | _, _, .non => .non
  | _, _, .bl b => .bl b
  | _, _, .int i => .int i
  | _, _, .str x => .str x
  | .list ds, _, .lst n h l => .lst (fun z => (List.mem_cons.mp z).elim (fun e => by rw [e, hF] at h; cases h) n) h (avoidAll hF ds _ l)
  | .tuple ds, _, .tup n h l => .tup (fun z => (List.mem_cons.mp z).elim (fun e => by rw [e, hF] at h; cases h) n) h (avoidAll hF ds _ l)
  | _, _, .dic n h => .dic (fun z => (List.mem_cons.mp z).elim (fun e => by rw [e, hF] at h; cases h) n) h
theorem avoidAll {B : List Addr} {H : Hp} {F : Addr} (hF : H F = none) : ∀ (ds : List PyData) (vs : List V), TrAll B H vs ds → TrAll (F :: B) H vs ds
  | _, _, .nil => .nil
  | d :: ds, _, .cons h t => .cons (avoid hF d _ h) (avoidAll hF ds _ t)
end
end Lit

set_option Elab.async false
set_option linter.all false
set_option maxRecDepth 100000
set_option maxHeartbeats 2000000
/-! Shown: a small tree can be shown, and in how many signs. -/
namespace Shown
open PySem PySem.Spec PyProof.Rows L2 GxR Tree Kit Data Small
theorem shown_le {L M : Nat} (hM : M ≤ 10000000000) : ∀ (k : Nat) (d : PyData), sz d ≤ k → Bd L M d → d.shown.length + 2 ≤ 160 * sz d ∧ d.showable = true := by
  intro k
  induction k with
  | zero => intro d hk _; have := sz_pos d; omega
  | succ k ih =>
    have all : ∀ xs : List PyData, szAll xs ≤ k → BdAll L M xs → ((PyData.shownAll xs).map (·.length)).sum + 2 * xs.length ≤ 160 * szAll xs ∧ PyData.showableAll xs = true := by
      intro xs
      induction xs with
      | nil => intro _ _; exact ⟨Nat.zero_le _, rfl⟩
      | cons x r ih2 =>
        intro hk hb
        simp only [szAll] at hk
        obtain ⟨b1, b2⟩ := hb
        obtain ⟨h1, h2⟩ := ih x (by omega) b1
        obtain ⟨h3, h4⟩ := ih2 (by omega) b2
        refine ⟨?_, ?_⟩
        · simp only [PyData.shownAll, List.map_cons, List.sum_cons, List.length_cons, szAll]
          omega
        · simp only [PyData.showableAll, h2, h4, Bool.and_self]
    intro d hk hb
    cases d with
    | none => exact ⟨by decide, rfl⟩
    | bool b => exact ⟨by cases b <;> decide, rfl⟩
    | int i =>
      have hi : i.natAbs ≤ M := hb
      refine ⟨?_, ?_⟩
      · have h1 := int_text_length_le10 (a := i) (k := 12) (by decide) (by omega)
        have h2 : (PyData.shown (.int i)).length = (toString i).length := by
          show (Str.ofString (toString i)).length = _
          exact PySem.ofString_length _
        simp only [sz]
        omega
      · show decide (i.natAbs.log2 < 1920) = true
        have h3 : i.natAbs < 2 ^ 40 := by omega
        exact decide_eq_true (Nat.lt_of_lt_of_le (PySem.Flt.log2_lt_of (by decide) h3) (by decide))
    | str x =>
      have hx : (reprText x).length ≤ 140 := hb
      refine ⟨?_, rfl⟩
      show (reprText x).length + 2 ≤ 160 * 1
      omega
    | list xs =>
      simp only [sz] at hk ⊢
      obtain ⟨h1, h2⟩ := all xs (by omega) hb.2
      have h3 := listText_len_le (PyData.shownAll xs)
      have h4 := PyData.shownAll_length xs
      refine ⟨?_, h2⟩
      show (listText (PyData.shownAll xs)).length + 2 ≤ _
      omega
    | tuple xs =>
      simp only [sz] at hk ⊢
      obtain ⟨h1, h2⟩ := all xs (by omega) hb.2
      have h3 := tupleText_len_le (PyData.shownAll xs)
      have h4 := PyData.shownAll_length xs
      refine ⟨?_, h2⟩
      show (tupleText (PyData.shownAll xs)).length + 2 ≤ _
      omega
    | dict kvs =>
      obtain rfl : kvs = [] := hb
      exact ⟨by decide, rfl⟩
theorem shows {L M S D : Nat} {d : PyData} (h : Sm L M S D d) (hM : M ≤ 10000000000) (hS : S ≤ 2000) (hD : D ≤ 40) : d.showable = true ∧ d.depth ≤ 40 ∧ d.shown.length ≤ sizeLine := by
  obtain ⟨h1, h2⟩ := shown_le hM _ d (Nat.le_refl _) h.bd
  have := h.sz
  exact ⟨h2, Nat.le_trans h.dp hD, by unfold sizeLine; omega⟩
end Shown

set_option Elab.async false
set_option linter.all false
set_option maxRecDepth 100000
set_option maxHeartbeats 2000000
/-! Day: a day as typed data, and its tree. -/
namespace Day
open PySem PySem.Spec PyProof.Rows L2 GxR Tree Kit Data
structure Blk where
  house : Int
  craft : Int
  ready : Int
  due : Option Int
  worth : Int
structure Dy where
  hours : Int
  stores : List Int
  sights : List (List (List Int))
  asks : List (Option Int)
  blocks : List Blk
def optD : Option Int → PyData
  | none => .none
  | some i => .int i
def blkD (b : Blk) : PyData := .tuple [.int b.house, .int b.craft, .int b.ready, optD b.due, .int b.worth]
def rowD (r : List Int) : PyData := .list (r.map .int)
def sightD (s : List (List Int)) : PyData := .list (s.map rowD)
def dayD (D : Dy) : PyData := .tuple [.int D.hours, .list (D.stores.map .int), .list (D.sights.map sightD), .list (D.asks.map optD), .list (D.blocks.map blkD)]
structure BlkOk (hours craft : Int) (b : Blk) : Prop where
  h0 : 0 ≤ b.house
  h1 : b.house ≤ 5
  c0 : 0 ≤ b.craft
  c1 : b.craft < craft
  r0 : 0 ≤ b.ready
  r1 : b.ready < hours
  du : ∀ u, b.due = some u → b.ready ≤ u ∧ u < hours
  w0 : 1 ≤ b.worth
  w1 : b.worth ≤ 9999
structure RowOk (craft : Int) (r : List Int) : Prop where
  up : r.Pairwise (· < ·)
  bd : ∀ c ∈ r, 0 ≤ c ∧ c < craft
structure DyOk (D : Dy) : Prop where
  t0 : 1 ≤ D.hours
  t1 : D.hours ≤ 10
  s0 : 1 ≤ D.stores.length
  s1 : D.stores.length ≤ 4
  sb : ∀ n ∈ D.stores, 0 ≤ n ∧ n ≤ 5
  g0 : 1 ≤ D.sights.length
  g1 : D.sights.length ≤ 3
  gl : ∀ s ∈ D.sights, (s.length : Int) = D.hours
  gr : ∀ s ∈ D.sights, ∀ r ∈ s, RowOk D.stores.length r
  al : D.asks.length = D.sights.length
  ab : ∀ a, some a ∈ D.asks → 0 ≤ a ∧ a ≤ 999
  bl : D.blocks.length ≤ 14
  bb : ∀ b ∈ D.blocks, BlkOk D.hours D.stores.length b
theorem isWh_mk {lo hi i : Int} (h1 : lo ≤ i) (h2 : i ≤ hi) : isWh lo hi (.int i) = true := by
  show (decide (lo ≤ i) && decide (i ≤ hi)) = true
  simp only [Bool.and_eq_true, decide_eq_true_eq]
  exact ⟨h1, h2⟩
/-- each tree of a list is made of something typed -/
theorem each_of {α : Type} {f : α → PyData} {P : α → Prop} : ∀ {ds : List PyData}, (∀ d ∈ ds, ∃ a, d = f a ∧ P a) → ∃ as : List α, ds = as.map f ∧ ∀ a ∈ as, P a
  | [], _ => ⟨[], rfl, fun a h => nomatch h⟩
  | d :: ds, h => by
    obtain ⟨a, rfl, ha⟩ := h d (by simp)
    obtain ⟨as, rfl, has⟩ := each_of (ds := ds) fun d hd => h d (by simp [hd])
    exact ⟨a :: as, rfl, fun x hx => (List.mem_cons.mp hx).elim (fun e => e ▸ ha) (has x)⟩
theorem whs_of {lo hi : Int} {ds : List PyData} (h : ds.all (isWh lo hi) = true) : ∃ ns : List Int, ds = ns.map .int ∧ ∀ n ∈ ns, lo ≤ n ∧ n ≤ hi :=
  each_of fun d hd => isWh_int (List.all_eq_true.mp h d hd)
theorem and3 {a b : Bool} (h : (a && b) = true) : a = true ∧ b = true := Bool.and_eq_true_iff.mp h
theorem ints_back : ∀ ns : List Int, intsD (ns.map PyData.int) = ns
  | [] => rfl
  | n :: ns => congrArg (n :: ·) (ints_back ns)
theorem row_of {c : Int} {d : PyData} (h : heardB c d = true) : ∃ r, d = rowD r ∧ RowOk c r := by
  cases d with
  | list xs =>
    obtain ⟨h1, h2⟩ := and3 (show (xs.all (isWh 0 (c - 1)) && risesB (intsD xs)) = true from h)
    obtain ⟨ns, rfl, hb⟩ := whs_of h1
    refine ⟨ns, rfl, ?_, fun n hn => by have := hb n hn; omega⟩
    rw [ints_back] at h2
    exact of_decide_eq_true h2
  | _ => cases h
theorem sight_of {hh c : Int} {d : PyData} (h : sightB hh c d = true) : ∃ s, d = sightD s ∧ (s.length : Int) = hh ∧ ∀ r ∈ s, RowOk c r := by
  obtain ⟨h1, h2⟩ := and3 h
  obtain ⟨xs, rfl, l1, l2⟩ := isLs_list h1
  obtain ⟨s, rfl, hs⟩ := each_of (f := rowD) (P := RowOk c) fun d hd => row_of (List.all_eq_true.mp h2 d hd)
  rw [List.length_map] at l1 l2
  exact ⟨s, rfl, by omega, hs⟩
theorem opt_of {d : PyData} (h : (isNone d || isWh 0 999 d) = true) : ∃ o, d = optD o ∧ ∀ a, o = some a → 0 ≤ a ∧ a ≤ 999 := by
  cases d with
  | none => exact ⟨none, rfl, fun a e => nomatch e⟩
  | int i =>
    obtain ⟨j, e, h1, h2⟩ := isWh_int (show isWh 0 999 (.int i) = true from h)
    cases e
    exact ⟨some i, rfl, fun a e => by cases e; exact ⟨h1, h2⟩⟩
  | _ => cases h
theorem blk5 {hh c : Int} (d1 d2 d3 d4 d5 : PyData) : blockB hh c (.tuple [d1, d2, d3, d4, d5]) = (isWh 0 5 d1 && (isWh 0 (c - 1) d2 && (isWh 0 (hh - 1) d3 && ((isNone d4 || (isNum d3 && isWh (intOf d3) (hh - 1) d4)) && isWh 1 9999 d5)))) := by
  cases d3 <;> first | rfl | (simp only [blockB, isNum, intOf, Bool.false_and, Bool.true_and])
theorem blk_of {hh c : Int} {d : PyData} (h : blockB hh c d = true) : ∃ b, d = blkD b ∧ BlkOk hh c b := by
  cases d with
  | tuple xs =>
    match xs, h with
    | [d1, d2, d3, d4, d5], h =>
      obtain ⟨a1, h⟩ := and3 ((blk5 d1 d2 d3 d4 d5).symm.trans h)
      obtain ⟨a2, h⟩ := and3 h
      obtain ⟨a3, h⟩ := and3 h
      obtain ⟨a4, a5⟩ := and3 h
      obtain ⟨hs, rfl, b1, b2⟩ := isWh_int a1
      obtain ⟨cr, rfl, b3, b4⟩ := isWh_int a2
      obtain ⟨re, rfl, b5, b6⟩ := isWh_int a3
      obtain ⟨wo, rfl, b7, b8⟩ := isWh_int a5
      have a4 : (isNone d4 || isWh re (hh - 1) d4) = true := a4
      obtain ⟨o, rfl, ho⟩ : ∃ o, d4 = optD o ∧ ∀ u, o = some u → re ≤ u ∧ u ≤ hh - 1 := by
        cases d4 with
        | none => exact ⟨none, rfl, fun a e => nomatch e⟩
        | int i =>
          obtain ⟨j, e, h1, h2⟩ := isWh_int (show isWh re (hh - 1) (.int i) = true from a4)
          cases e
          exact ⟨some i, rfl, fun a e => by cases e; exact ⟨h1, h2⟩⟩
        | _ => cases a4
      exact ⟨⟨hs, cr, re, o, wo⟩, rfl, b1, b2, b3, by show cr < c; omega, b5, by show re < hh; omega, fun u e => by have := ho u e; exact ⟨this.1, by omega⟩, b7, b8⟩
  | _ => cases h
theorem day_of {d : PyData} (h : isDayB d = true) : ∃ D, d = dayD D ∧ DyOk D := by
  cases d with
  | tuple xs =>
    match xs, h with
    | [d1, d2, d3, d4, d5], h =>
      obtain ⟨a1, h⟩ := and3 (show (isWh 1 10 d1 && (storesB d2 && (sightsB (intOf d1) (lenD d2) d3 && (asksB (lenD d3) d4 && blocksB (intOf d1) (lenD d2) d5)))) = true from h)
      obtain ⟨a2, h⟩ := and3 h
      obtain ⟨a3, h⟩ := and3 h
      obtain ⟨a4, a5⟩ := and3 h
      obtain ⟨hh, rfl, b1, b2⟩ := isWh_int a1
      obtain ⟨c1, c2⟩ := and3 a2
      obtain ⟨xs2, rfl, l1, l2⟩ := isLs_list c1
      obtain ⟨sts, rfl, hsts⟩ := whs_of (show xs2.all (isWh 0 5) = true from c2)
      obtain ⟨c3, c4⟩ := and3 a3
      obtain ⟨xs3, rfl, l3, l4⟩ := isLs_list c3
      have ls : (((sts.map PyData.int).length : Nat) : Int) = (sts.length : Int) := by rw [List.length_map]
      have a5' : blocksB hh (sts.length : Int) d5 = true := by rw [← ls]; exact a5
      obtain ⟨sis, rfl, hsis⟩ := each_of (f := sightD) (P := fun s => (s.length : Int) = hh ∧ ∀ r ∈ s, RowOk (sts.length : Int) r) fun d hd => by
        have := List.all_eq_true.mp (show xs3.all (sightB hh (((sts.map PyData.int).length : Nat) : Int)) = true from c4) d hd
        rw [ls] at this
        exact sight_of this
      obtain ⟨c5, c6⟩ := and3 a4
      obtain ⟨xs4, rfl, l5, l6⟩ := isLs_list c5
      obtain ⟨ask, rfl, hask⟩ := each_of (f := optD) fun d hd => opt_of (List.all_eq_true.mp (show xs4.all (fun a => isNone a || isWh 0 999 a) = true from c6) d hd)
      obtain ⟨c7, c8⟩ := and3 a5'
      obtain ⟨xs5, rfl, l7, l8⟩ := isLs_list c7
      obtain ⟨bls, rfl, hbls⟩ := each_of (f := blkD) fun d hd => blk_of (List.all_eq_true.mp (show xs5.all (blockB hh (sts.length : Int)) = true from c8) d hd)
      have e3 : lenD (.list (sis.map sightD)) = (sis.length : Int) := by
        show (((sis.map sightD).length : Nat) : Int) = _
        rw [List.length_map]
      rw [e3] at l5 l6
      rw [List.length_map] at l1 l2 l3 l4 l5 l6 l7 l8
      exact ⟨⟨hh, sts, sis, ask, bls⟩, rfl, b1, b2, by show 1 ≤ sts.length; omega, by show sts.length ≤ 4; omega, hsts, by show 1 ≤ sis.length; omega, by show sis.length ≤ 3; omega, fun s hs => (hsis s hs).1, fun s hs => (hsis s hs).2, by show ask.length = sis.length; omega, fun a ha => hask _ ha a rfl, by show bls.length ≤ 14; omega, hbls⟩
  | _ => cases h
end Day

set_option Elab.async false
set_option linter.all false
set_option maxRecDepth 100000
set_option maxHeartbeats 2000000
/-! Loops3: comprehensions that make a tree of each item; trees that avoid what is no tuple. -/
namespace Loops3
open PySem PySem.Spec PyProof.Rows L2 GxR GX Tree Kit Comps Purse
section
variable {g : TG} {te : TE} {vs : List Nat} {σ : L2.St} {H : Hp} {Q : VK}
/-- [e for x in l]; F d: the tree that is made of the item d -/
theorem lc_mapC {K : PySem.W.Frag} {C : List Addr} {a : Addr} {xs : List V} {ds : List PyData} (F : PyData → PyData) (al : ∀ c ∈ C, H c ≠ none) (ha : H a = some (.lst xs)) (hd : TrAll [] H xs ds) (hN : ds.length < sizeLine)
    (step : ∀ D x d H', H D = none → (∀ c ∈ D :: C, H' c ≠ none) → d ∈ ds → Tr [] H' x d → Kx [] H H' → ∀ R : V → Hp → Prop, (∀ y H'', Kx [] H' H'' → Tr (D :: C) H'' y (F d) → R y H'') →
      g x (wipe σ vs) H' fun σ2 H2 => wipe σ2 vs = wipe σ vs ∧ te σ2 H2 R)
    (q : ∀ D H', Kx [] H H' → H D = none → Tr C H' (.ref D) (.list (ds.map F)) → Q (.ref D) H') :
    CompG (Itl K a) g tYes te vs σ H Q := by
  intro D hD
  have hlen := hd.length
  have nD : D ∉ C := fun z => al D z hD
  refine lc_gen (itl_at (B := []) ha (by simp)) (by omega) hD (A := fun i acc H' => TrAll (D :: C) H' acc ((ds.take i).map F)) .nil (fun i H' acc hi k hdd hacc R R0 hR hR0 => ?_) fun acc H' k hdd hacc => ?_
  · have ei : ds[i]? = some ds[i] := List.getElem?_eq_getElem (by omega)
    have ex : xs[i]? = some xs[i] := List.getElem?_eq_getElem (by omega)
    obtain ⟨d, e1, e2⟩ := hd.get ex
    rw [ei] at e1
    cases e1
    have e3 : xs.getD i V.non = xs[i] := by
      rw [List.getD_eq_getElem?_getD, ex]; rfl
    rw [e3]
    have alD : ∀ c ∈ D :: C, H' c ≠ none := fun c hc => by
      rcases List.mem_cons.mp hc with e | e
      · rw [e, hdd]; simp
      · exact Kx.ne k (al c e)
    have ef : (ds.take (i + 1)).map F = (ds.take i).map F ++ [F ds[i]] := by
      rw [List.take_add_one, ei, List.map_append]
      rfl
    have st := step D xs[i] ds[i] H' hD alD (List.getElem_mem (by omega)) (e2.up k) k R fun y H'' k2 t2 => hR y H'' (k.trans k2) (k2.lst (by simp) hdd) (by
      rw [ef]
      have t1 := hacc.up k2
      exact TrAll.kx (Kx.put (B := [D]) (by simp)) (fun b hb => by rw [List.mem_singleton.mp hb]; simp) _ _ (t1.snoc t2))
    exact st
  · rw [show xs.length = ds.length from hlen, List.take_length] at hacc
    exact q D H' k hD (.lst nD hdd (TrAll.less (fun b hb => List.mem_cons_of_mem _ hb) _ _ hacc))
end
theorem al_up' {C : List Addr} {H H1 : Hp} (al : ∀ c ∈ C, H c ≠ none) (k : Kx [] H H1) : ∀ c ∈ C, H1 c ≠ none := fun c hc => Kx.ne k (al c hc)
end Loops3

set_option Elab.async false
set_option linter.all false
set_option maxRecDepth 100000
set_option maxHeartbeats 2000000
/-! Obj: classes of the text: methods with their facts, attributes; comprehensions without a free name. -/
namespace Obj
open PySem PySem.Spec PyProof.Rows L2 GxR Tree Kit
/-- a class's function as it stands behind the top; q its qualified name -/
structure MethAt (K : PySem.W.Frag) (m q : Str) (st : Stmt) (ps : List Str) (f : Addr) (fd : FuncData) : Prop where
  F : FunD K m q (defArgs st) (defBody st) (defScope st) [] [] f fd
  b : Binds K fd ps []
section
variable {P : Program} {w : World} {K : PySem.W.Frag} {mg : Str → Option Value} {base : Heap} {m q : Str} {st : Stmt} {ps : List Str} {f : Addr} {fd : FuncData}
theorem MethAt.ok {N : List Str} {k : Nat} {sp : Sp} (D : MethAt K m q st ps f fd) (S : FnScope N ps (defScope st)) (len : ∀ vs H Q E, sp vs H Q E → vs.length = ps.length)
    (hbody : ∀ (cdv : Value) (A : Around) (outer : List Env) (s : Shared) (H : Hp) (vs : List V) (Q : VK) (E : XK), fd.code = cdv → Room k (A.deeper (envOfC q (defScope st) s.heap.objs.size f cdv)) → sp vs H Q E →
      ∃ t, PSs (cxOf CX0 P w K mg base N q (defScope st) f cdv A outer s H E).nox (defBody st) t ∧ t { nx := fun _ H' => Q .non H', rt := Q } (start N vs) H) : FnOk P w K mg base CX0 (k + 1) f fd ps sp := by
  obtain ⟨oc, od, dV, kV, doc, pm, an, cdv, ct, osl, rfl, lk, hcd, _, _⟩ := D.F.ex
  exact fn_of lk hcd S len fun A outer s H vs Q E hr hsp => by
    obtain ⟨t, h, q⟩ := hbody cdv A outer s H vs Q E rfl hr hsp
    exact ⟨t, h.nox, q⟩
end
section
variable {X : Cx} {o e value : Expr} {f : Str} {pos pos' tpos : Pos} {ta tv : TE}
theorem pe_fldK (K : PySem.W.Frag) (h : X.K = K) (he : PE X e ta) (hb : attributeBase e f X.env (eval e X.env) = eval e X.env) : PE X (.Attribute e f pos) (tFld K ta f) := h ▸ pe_fld he hb
theorem ps_fldK (K : PySem.W.Frag) (h : X.K = K) (ha : PE X o ta) (hv : PE X value tv) (hs : swapsWith value (some (.Attribute o f pos')) pos.line X.env = pure false) : PS X (.Assign [.Attribute o f pos'] value pos) (sFld K ta tv f) := h ▸ ps_fld ha hv hs
theorem ps_fldaugK (K : PySem.W.Frag) (h : X.K = K) {op : Operator} {rd : V → V → Hp → VK → Prop} (ha : PE X o ta) (hv : PE X value tv) (hop : InOp X op rd) : PS X (.AugAssign (.Attribute o f tpos) op value pos) (sFldAug K ta tv rd f) := h ▸ ps_fldaug ha hv hop
theorem pg_lstK (K : PySem.W.Frag) (hK : X.K = K) {es : List Expr} {k : Nat} {t : TGs} {n : Nat} {pos : Pos} (hc : X.calm = true) (h : PGs X es t)
    (hn : (assignEach es X.env).length = n := by rfl) (hst : (assignEach es X.env).findIdx? (·.1) = none := by rfl) : PG X (.Tuple es k pos) (gLst K n t) := hK ▸ pg_lst hc h hn hst
end
/-- a block without a free name stands in any scope -/
theorem blkOk_any {N : List Str} {sc scope : Scope} {own : List (Str × Nat)} (h : (blkC N scope scope own && scope.names.all fun y => match y.2 with | .free => false | _ => true) = true) : BlkOk N sc scope own := by
  obtain ⟨h1, h2⟩ := Bool.and_eq_true_iff.mp h
  have b := blkOk_by h1
  refine ⟨b.kind, b.uniq, b.ix, fun y hy e => ?_, b.own⟩
  have q := List.all_eq_true.mp h2 y hy
  rw [e] at q
  cases q
/-- an instance with these attributes -/
def InsAt (H : Hp) (p C : Addr) (fs : List (Str × V)) : Prop := ∃ dx, H p = some (.ins C dx fs)
theorem InsAt.kx {H H' : Hp} {B : List Addr} {p C : Addr} {fs : List (Str × V)} (h : InsAt H p C fs) (k : Kx B H H') (n : p ∉ B) : InsAt H' p C fs := by
  obtain ⟨dx, e⟩ := h
  exact ⟨dx, k.at n e fun _ z => by cases z⟩
theorem InsAt.ne {H : Hp} {p C : Addr} {fs : List (Str × V)} (h : InsAt H p C fs) : H p ≠ none := by
  obtain ⟨dx, e⟩ := h
  rw [e]; simp
end Obj

set_option Elab.async false
set_option linter.all false
set_option maxRecDepth 100000
set_option maxHeartbeats 2000000
/-! CallG: a call of a def that is kept where no guard is under way. -/
namespace EndG
open PySem PySem.Spec PyProof.Rows L2
section
variable {X : Cx} {k : Nat} {f : Addr} {fd : FuncData} {ps : List Str} {sp : Sp} {x : Str} {p pos : Pos} {e : Expr} {es : List Expr} {t : TA} {E : XK}
theorem FnG.of {P : Program} {w : World} {K : PySem.W.Frag} {mg : Str → Option Value} {base : Heap} (F : FnOk P w K mg base CX0 k f fd ps sp) : FnG P w K mg base k f fd ps sp := ⟨F.len, fun A outer s H args us vs Q E _ hr e0 hb r h => F.run A outer s H args us vs Q E hr e0 hb r h⟩
theorem run_fnG {pins : List (Addr × Obj)} {σ : L2.St} {H : Hp} {s : Shared} {Q : VK} {us : List Value} {vs : List V} (F : FnG X.prog X.w X.K X.mg X.base k f fd ps sp) (hgu : X.A.guards = some []) (hr : Room k X.A) (hb : Binds X.K fd ps []) (hx : Passes CX0 X E)
    (I : Inv X pins σ H s) (r : Vals vs us) (h : sp (vs ++ []) H Q E) : wpAny (model X.prog X.w) X.A (call (.ref f) us) (EP X pins σ Q) X.xe s := by
  have r2 : Vals (vs ++ []) (us ++ []) := r.append .nil
  have hl : (us ++ []).length = ps.length := by rw [← r2.length]; exact F.len _ _ _ _ h
  refine wpAny_call (codeAny_mono (F.run X.A X.stack s H ⟨us, []⟩ (us ++ []) (vs ++ []) Q E hgu hr I.env0 (hb s us I.kIn hl) r2 h) fun r s' hq => ?_)
  cases r with
  | error e => exact hx pins σ H s e s' I hq
  | ok fl =>
    cases fl with
    | ret u => exact I.after hq
    | next => exact False.elim hq
    | brk => exact False.elim hq
    | cont => exact False.elim hq
theorem pe_callG (F : FnG X.prog X.w X.K X.mg X.base k f fd ps sp) (hgu : X.A.guards = some []) (hr : Room k X.A) (hg : Gl X x) (hm : X.mg x = some (.ref f)) (hk : PySem.W.keepIn X.K (.ref f) = true) (hb : Binds X.K fd ps []) (hx : Passes CX0 X E)
    (ha : PA X (e :: es) t) (hdb : (x == ("__debug__" : Str)) = false := by decide) (he : starEach (e :: es) X.env = (false, eval e X.env) :: starEach es X.env := by rfl) (hpl : (backTo pos (starEach es X.env)).any (·.1) = false := by rfl) :
    PE X (.Call (.Name x p) (e :: es) [] pos) (tCall sp [] E t) := by
  refine ⟨fun pins s σ H Q I h => ?_⟩
  refine wpAny_Call_Name_kw (ld_glob I hg hm ?_ hdb)
  refine PySem.W.callWith_K (h₀ := X.base) I.ok.mod.kin hk (thn (ha.run pos pins s σ H _ I h) fun us s1 ⟨vs, H1, I1, r, q⟩ => ⟨I1.kIn, ?_⟩) he hpl
  exact run_fnG F hgu hr hb hx I1 r q
end
end EndG

set_option Elab.async false
set_option linter.all false
set_option maxRecDepth 100000
set_option maxHeartbeats 4000000
namespace Enum
open PySem PySem.Spec PyProof.Rows L2 GxR GX Tree Kit Data Loops Loops2 Loops3 Comps Purse Ib
section
variable {X : Cx} {H : Hp}
theorem pi_enumerateK (K : PySem.W.Frag) (h : X.K = K) {e : Expr} {ta : TA} {p pos tpos : Pos} {elts : List Expr} {kk : Nat} (hg : Gl X "enumerate") (hm : X.mg "enumerate" = none) (ha : PA X [e] ta) (hs : starEach [e] X.env = [(false, eval e X.env)] := by rfl) :
    PI X (.Tuple elts kk tpos) (.Call (.Name "enumerate" p) [e] [] pos) (iEnum K ta) := h ▸ pi_enum hg hm ha hs
theorem pi_zipK (K : PySem.W.Frag) (h : X.K = K) {e e2 : Expr} {ta : TA} {p pos tpos : Pos} {elts : List Expr} {kk : Nat} (hg : Gl X "zip") (hm : X.mg "zip" = none) (ha : PA X [e, e2] ta)
    (hs : starEach [e, e2] X.env = (false, eval e X.env) :: starEach [e2] X.env := by rfl) (hpl : (backTo pos (starEach [e2] X.env)).any (·.1) = false := by rfl) :
    PI X (.Tuple elts kk tpos) (.Call (.Name "zip" p) [e, e2] [] pos) (iZip K ta) := h ▸ pi_zip hg hm ha hs hpl
theorem op_inDK (K : PySem.W.Frag) (h : X.K = K) (hu : X.A.units + 65 < cLine) : OpR X (compareOp .In) (rInD K) := h ▸ op_inD hu
end
theorem units1 {k : Nat} {A : Around} (r : Room k A) : A.units + 65 < cLine := by have := r.un; omega
/-- a walk whose items are new things -/
theorem for_any {J : It} {B : List Addr} {N : Nat} {σ : L2.St} {H : Hp} {g : TG} {tb : TS} {D : Ends} (go : ∀ i H', i < N → Kx B H H' → J.go i H') (stop : ∀ H', Kx B H H' → J.stop N H') {Iv : Nat → L2.St → Hp → Prop} (h0 : Iv 0 σ H)
    (step : ∀ i σ' H' x H5, i < N → Kx B H H' → Iv i σ' H' → J.yld i H' x H5 → ∀ Nn : L2.St → Hp → Prop, (∀ σ'' H'', Kx B H H'' → Iv (i + 1) σ'' H'' → Nn σ'' H'') → g x σ' H5 fun σ2 H2 => tb { D with nx := Nn, ct := Nn, bk := D.nx } σ2 H2)
    (q : ∀ σ' H', Kx B H H' → Iv N σ' H' → D.nx σ' H') :
    ∃ W : Nat → Nat → L2.St → Hp → Prop, (∃ m, W 0 m σ H) ∧ ∀ i m σ H, W i m σ H → (J.stop i H ∧ D.nx σ H) ∨ (J.go i H ∧ ∃ N : L2.St → Hp → Prop, (∀ σ' H', N σ' H' → ∃ m', m' < m ∧ W (i + 1) m' σ' H') ∧ ∀ x H', J.yld i H x H' → g x σ H' fun σ2 H2 => tb { D with nx := N, ct := N, bk := D.nx } σ2 H2) := by
  refine ⟨fun i m σ' H' => m = N - i ∧ i ≤ N ∧ Kx B H H' ∧ Iv i σ' H', ⟨N, by simp, Nat.zero_le _, Kx.refl _, h0⟩, ?_⟩
  rintro i m σ' H' ⟨rfl, hi, k, hv⟩
  by_cases hlt : i < N
  · exact .inr ⟨go i H' hlt k, fun σ'' H'' => Kx B H H'' ∧ Iv (i + 1) σ'' H'', fun σ'' H'' z => ⟨N - (i + 1), by omega, rfl, hlt, z⟩, fun x H5 y => step i σ' H' x H5 hlt k hv y _ fun σ'' H'' k2 h2 => ⟨k2, h2⟩⟩
  · have e : i = N := by omega
    subst e
    exact .inl ⟨stop H' k, q σ' H' k hv⟩
/-! ### trees as data that is compared -/
mutual
theorem tr_dp {K : PySem.W.Frag} {B : List Addr} {H : Hp} : ∀ (d : PyData) (v : V), Tr B H v d → PyData.canLay0 d = true → Dp K H v d
  | _, _, .non, _ => .non
  | _, _, .bl b, _ => .bl b
  | _, _, .int i, _ => .int i
  | _, _, .str x, _ => .str x
  | .list ds, _, .lst n h l, c => .lst (SqL.of h) (trs_dp ds _ l c)
  | .tuple ds, _, .tup n h l, c => .tup (SqT.of h) (trs_dp ds _ l c)
  | _, _, .dic n h, c => nomatch c
theorem trs_dp {K : PySem.W.Frag} {B : List Addr} {H : Hp} : ∀ (ds : List PyData) (vs : List V), TrAll B H vs ds → PyData.canLayAll0 ds = true → DpAll K H vs ds
  | _, _, .nil, _ => .nil
  | d :: ds, _, .cons h t, c => by
    have c' : (PyData.canLay0 d && PyData.canLayAll0 ds) = true := c
    obtain ⟨c1, c2⟩ := Bool.and_eq_true_iff.mp c'
    exact .cons (tr_dp d _ h c1) (trs_dp ds _ t c2)
end
theorem canAll {ds : List PyData} (h : ∀ d ∈ ds, PyData.canLay0 d = true) : PyData.canLay0 (.list ds) = true := by
  show PyData.canLayAll0 ds = true
  induction ds with
  | nil => rfl
  | cons d r ih =>
    show (PyData.canLay0 d && PyData.canLayAll0 r) = true
    rw [h d (by simp), ih fun e he => h e (List.mem_cons_of_mem _ he)]
    rfl
theorem depAll {ds : List PyData} {k : Nat} (h : ∀ d ∈ ds, PyData.depth d ≤ k) : PyData.depth (.list ds) ≤ k + 1 := by
  show PyData.depthAll ds + 1 ≤ k + 1
  have : PyData.depthAll ds ≤ k := by
    induction ds with
    | nil => exact Nat.zero_le _
    | cons d r ih =>
      show max (PyData.depth d) (PyData.depthAll r) ≤ k
      have := h d (by simp)
      have := ih fun e he => h e (List.mem_cons_of_mem _ he)
      omega
  omega
theorem shaped_by {d : PyData} {k : Nat} (h : PyData.canLay0 d = true) (e : PyData.depth d ≤ k) (hk : k ≤ 64 := by decide) : SeqAt.shaped d = true := by
  unfold SeqAt.shaped
  rw [h, Bool.true_and]
  exact decide_eq_true (by omega)
/-- lists of lists of ints -/
def intssD (ls : List (List Int)) : PyData := .list (ls.map fun l => .list (l.map PyData.int))
theorem can_intss (ls : List (List Int)) : PyData.canLay0 (intssD ls) = true := canAll fun d hd => by
  obtain ⟨l, _, rfl⟩ := List.mem_map.mp hd
  exact canLay_ints l
theorem dep_ints (l : List Int) : PyData.depth (.list (l.map PyData.int)) ≤ 1 := depAll (k := 0) fun d hd => by
  obtain ⟨l, _, rfl⟩ := List.mem_map.mp hd
  exact Nat.le_refl _
theorem shaped_intss (ls : List (List Int)) : SeqAt.shaped (intssD ls) = true := shaped_by (k := 2) (can_intss ls) (depAll fun d hd => by
  obtain ⟨l, _, rfl⟩ := List.mem_map.mp hd
  exact dep_ints l)
/-! ### a list's part told by its places -/
theorem part_sub {α : Type} (l : List α) (d : α) (js : List Nat) (h : js.Pairwise (· < ·)) (hj : ∀ j ∈ js, j < l.length) : List.Sublist (js.map fun j => l.getD j d) l := by
  let fs : List (Fin l.length) := js.attach.map fun j => ⟨j.1, hj j.1 j.2⟩
  have e : (js.map fun j => l.getD j d) = fs.map fun i => l[i] := by
    show _ = (js.attach.map fun j => (⟨j.1, hj j.1 j.2⟩ : Fin l.length)).map fun i => l[i]
    rw [List.map_map]
    conv => lhs; rw [← List.attach_map_subtype_val js]
    rw [List.map_map]
    refine List.map_congr_left fun j hj' => ?_
    show l.getD j.1 d = l[j.1]'(hj j.1 j.2)
    rw [List.getD_eq_getElem?_getD, List.getElem?_eq_getElem (hj j.1 j.2)]
    rfl
  rw [e]
  refine List.map_getElem_sublist ?_
  refine List.pairwise_map.mpr ?_
  have := List.pairwise_map.mp (show (js.attach.map (·.1)).Pairwise (· < ·) by rw [List.attach_map_subtype_val]; exact h)
  exact this.imp fun h => h
/-- a part of a list of different things is what of it is in the part -/
theorem sub_filter {α : Type} [BEq α] [LawfulBEq α] : ∀ {qs ps : List α}, List.Sublist qs ps → ps.Nodup → ps.filter (fun x => qs.contains x) = qs
  | _, _, .slnil, _ => rfl
  | qs, _, .cons (l₂ := ps) a s, n => by
    have na : a ∉ ps := (List.nodup_cons.mp n).1
    rw [List.filter_cons, if_neg (by simpa using fun z => na (s.subset z))]
    exact sub_filter s (List.nodup_cons.mp n).2
  | _, _, .cons₂ (l₁ := qs) (l₂ := ps) a s, n => by
    have na : a ∉ ps := (List.nodup_cons.mp n).1
    rw [List.filter_cons, if_pos (by simp)]
    have e : ps.filter (fun x => (a :: qs).contains x) = ps.filter (fun x => qs.contains x) := List.filter_congr fun x hx => by
      rw [List.contains_cons, show (x == a) = false from beq_false_of_ne (fun z => by rw [z] at hx; exact na hx), Bool.false_or]
    rw [e, sub_filter s (List.nodup_cons.mp n).2]
/-- [e for x in l]: the values that are made -/
theorem lc_mapV {K : PySem.W.Frag} {g : TG} {te : TE} {vs : List Nat} {σ : L2.St} {H : Hp} {Q : VK} {a : Addr} {xs : List V} (f : Nat → V) (ha : H a = some (.lst xs)) (hN : xs.length < sizeLine)
    (step : ∀ i H', i < xs.length → Kx [] H H' → ∀ R : V → Hp → Prop, (∀ H'', Kx [] H' H'' → R (f i) H'') → g (xs.getD i .non) (wipe σ vs) H' fun σ2 H2 => wipe σ2 vs = wipe σ vs ∧ te σ2 H2 R)
    (q : ∀ D H', Kx [] H H' → H D = none → H' D = some (.lst ((List.range xs.length).map f)) → Q (.ref D) H') : CompG (Itl K a) g tYes te vs σ H Q := by
  intro D hD
  refine lc_gen (B := []) (itl_at (B := []) ha (by simp)) hN hD (A := fun i acc _ => acc = (List.range i).map f) rfl (fun i H' acc hi k hd hacc R R0 hR hR0 => ?_) fun acc H' k hd hacc => q D H' k hD (hacc ▸ hd)
  have st := step i H' hi k R fun H'' k2 => hR (f i) H'' (k.trans k2) (k2.lst (by simp) hd) (by rw [List.range_succ, List.map_append, hacc]; rfl)
  exact st
theorem nodup_at {α : Type} {l : List α} (h : l.Nodup) {i j : Nat} (hi : i < l.length) (hj : j < l.length) (e : l[i] = l[j]) : i = j := by
  rcases Nat.lt_trichotomy i j with z | z | z
  · exact absurd e (List.pairwise_iff_getElem.mp h i j hi hj z)
  · exact z
  · exact absurd e.symm (List.pairwise_iff_getElem.mp h j i hj hi z)
end Enum

set_option Elab.async false
set_option linter.all false
set_option maxRecDepth 100000
set_option maxHeartbeats 2000000
/-! Caught: an exception that is kept behind the clause that caught it. -/
namespace Caught
open PySem PySem.Spec PyProof.Rows L2
/-- an exception of the class cls at a -/
def ExK (cls : Value) (d : Option Addr) (a : Addr) : HO := .ext fun h => ∃ oe : Obj, h.get? a = some oe ∧ Zc cls d oe ∧ ∃ vs, oe.data = .fields vs
theorem exK_ok {P : Program} {w : World} {H : Hp} {h : Heap} {a : Addr} {cls : Value} {d : Option Addr} {oe : Obj} {vs : Array Value} (e : h.get? a = some oe) (z : Zc cls d oe) (dt : oe.data = .fields vs) : ObjOk P w H h a (ExK cls d a) :=
  ⟨⟨oe, e, z, vs, dt⟩, ⟨oe, e⟩, fun h1 h2 ⟨o, e1, z1, vs1, d1⟩ k => ⟨o, k o e1, z1, vs1, d1⟩⟩
section
variable {X : Cx} {pins : List (Addr × Obj)} {σ : L2.St} {H : Hp} {s : Shared}
theorem adopt {a : Addr} {φ : Heap → Prop} (I : Inv X pins σ H s) (na : H a = none) (h0 : X.s_0.heap.get? a = none) (nL : a ≠ X.env.locals) (nC : ∀ x c, X.env.cells.lookup x = some c → c ≠ a) (np : ∀ p ∈ X.pn ++ pins, p.1 ≠ a)
    (new : ObjOk X.prog X.w (upd H a (.ext φ)) s.heap a (.ext φ)) : Inv X pins σ (upd H a (.ext φ)) s := by
  have ne : ∀ {b o}, H b = some o → b ≠ a := fun e z => by rw [z, na] at e; cases e
  have n0 : ∀ {b o}, X.s_0.heap.get? b = some o → b ≠ a := fun e z => by rw [z, h0] at e; cases e
  refine ⟨I.ok, I.os, I.bare, ⟨I.base.keep, I.base.slot, fun b o e n hx => ?_, I.base.there, fun b xs e => ?_, fun b o u e => ?_, fun b ps e => ?_⟩, I.loc, I.cell, ?_, fun x c e => ?_, fun p hp => ?_, fun b o e => ?_, I.len⟩
  · rw [upd_ne (n0 e)]; exact I.base.free b o e n hx
  · have q := I.base.tups b xs e
    rw [upd_ne (ne q)]; exact q
  · have q := I.base.frzs b o u e
    rw [upd_ne (ne q)]; exact q
  · obtain ⟨m, q⟩ := I.base.tbls b ps e
    exact ⟨m, by rw [upd_ne (ne q)]; exact q⟩
  · rw [upd_ne (Ne.symm nL)]; exact I.free
  · rw [upd_ne (nC x c e)]; exact I.freeC x c e
  · obtain ⟨e, n, r⟩ := I.pin p hp
    exact ⟨e, by rw [upd_ne (np p hp)]; exact n, r⟩
  · by_cases hb : b = a
    · subst hb
      rw [upd_same] at e
      cases e
      exact new
    · rw [upd_ne hb] at e
      exact (I.hok b o e).stay (fun c v _ q => q) (fun c q => by rw [upd_ne (ne q)]; exact q) fun c xs q => by rw [upd_ne (ne q)]; exact q
theorem suiteK (I : Inv X pins σ H s) (a : Addr) : Inv (X.suite a (X.pn ++ pins)) [] σ H s :=
  ⟨I.ok.suite _ _, I.os, I.bare, I.base, I.loc, I.cell, I.free, I.freeC, fun p hp => I.pin p (by rw [List.append_nil] at hp; exact hp), I.hok, I.len⟩
theorem unsuiteK {a : Addr} {pn' : List (Addr × Obj)} (I : Inv (X.suite a (X.pn ++ pins)) pn' σ H s) (ok : X.Ok) : Inv X pins σ H s :=
  ⟨ok, I.os, I.bare, I.base, I.loc, I.cell, I.free, I.freeC, fun p hp => I.pin p (List.mem_append_left _ hp), I.hok, I.len⟩
end
/-- what the clause 'except x as n' wishes, where the exception is kept -/
def wKeep (K : PySem.W.Frag) (c : Value) (i : Nat) (ts : Addr → TS) (Wout : WX) (D : Ends) : WX := fun cls d σ H =>
  ∃ b, PySem.W.exmOne K cls c = some b ∧ (b = true → ∀ a, H a = none → ts a { nx := fun σ' H' => D.nx (σ'.set i none) H', rt := D.rt, bk := fun σ' H' => D.bk (σ'.set i none) H', ct := fun σ' H' => D.ct (σ'.set i none) H' } (σ.set i (some (.ref a))) (upd H a (ExK cls d a))) ∧
    (b = false → Wout cls d σ H)
/-- an exception at a is of none of the frames l -/
theorem apart_of {B t : Heap} {l : List Env} {a : Addr} {o : Obj} {vs : Array Value} (ff : t.FunFrames B l) (e : t.get? a = some o) (dt : o.data = .fields vs) : a ∉ frs l := fun m => by
  obtain ⟨_, u, eu, no⟩ := ff.mem m
  rw [e] at eu
  cases eu
  exact no _ dt
/-- where a newly made thing lies -/
structure NewAt (X : Cx) (pins : List (Addr × Obj)) (a : Addr) : Prop where
  first : X.s_0.heap.get? a = none
  cells : ∀ y k, X.env.cells.lookup y = some k → k ≠ a
  pinned : ∀ p ∈ X.pn ++ pins, p.1 ≠ a
theorem NewAt.of {X : Cx} {pins : List (Addr × Obj)} {σ : L2.St} {H : Hp} {t : Shared} {a : Addr} (J : Inv X pins σ H t) (hex : X.ex = []) (no : t.heap.get? a = none) : NewAt X pins a := by
  refine ⟨?_, fun y k e z => ?_, fun p hp z => ?_⟩
  · by_cases e : X.s_0.heap.get? a = none
    · exact e
    · obtain ⟨o, eo⟩ := Option.ne_none_iff_exists'.mp e
      have nx : a ∉ X.ex := by rw [hex]; exact List.not_mem_nil
      obtain ⟨u, eu⟩ := J.base.there _ _ eo nx
      rw [no] at eu
      cases eu
  · obtain ⟨v, u, eu, _⟩ := J.cell y k e
    rw [z, no] at eu
    cases eu
  · have eu := (J.pin p hp).1
    rw [z, no] at eu
    cases eu
section
variable {X : Cx} {x n : Str} {c cls : Value} {d : Option Addr} {i : Nat} {body suite : List Stmt} {st₀ : Stmt} {np pos pos' : Pos} {tb : WX → TS} {ts : Addr → TS} {Wout : WX}
variable {pins : List (Addr × Obj)} {σ : L2.St} {H : Hp} {D : Ends}
/-- behind a suite in which the exception is kept -/
theorem suite_end {a : Addr} {r : Flow} {t : Shared} {i : Nat} (ok : X.Ok) (hN : X.N.Nodup) (hi : X.N[i]? = some n) (hln : X.env.kindOf n = some .local)
    (h : SP (X.suite a (X.pn ++ pins)) [] { nx := fun σ' H' => D.nx (σ'.set i none) H', rt := D.rt, bk := fun σ' H' => D.bk (σ'.set i none) H', ct := fun σ' H' => D.ct (σ'.set i none) H' } r t) :
    wpAny (model X.prog X.w) X.A (do bindName X.env n .none; unbindBehindTheSuite X.env n pos') (fun _ t' => SP X pins D r t') X.xe t := by
  cases r with
  | next => obtain ⟨σ1, H1, I1, w⟩ := h; exact gone_ok (unsuiteK I1 ok) hN hi hln fun t' I2 => ⟨_, H1, I2, w⟩
  | brk => obtain ⟨σ1, H1, I1, w⟩ := h; exact gone_ok (unsuiteK I1 ok) hN hi hln fun t' I2 => ⟨_, H1, I2, w⟩
  | cont => obtain ⟨σ1, H1, I1, w⟩ := h; exact gone_ok (unsuiteK I1 ok) hN hi hln fun t' I2 => ⟨_, H1, I2, w⟩
  | ret u => obtain ⟨y, σ1, H1, I1, ry, w⟩ := h; exact gone_ok (unsuiteK I1 ok) hN hi hln fun t' I2 => ⟨y, _, H1, I2, ry, w⟩
/-- the clause, for an exception that has been noted -/
theorem clause_keep {a : Addr} {B : Heap} {t0 t : Shared} (hs : X.stack = X.env :: X.outer) (hf : X.env.frame = some X.env.locals) (hex : X.ex = []) (hN : X.N.Nodup) (hi : X.N[i]? = some n) (hln : X.env.kindOf n = some .local) (hc : Names X x c) (tk : Takes X Wout)
    (hsu : ∀ (a : Addr) (pn : List (Addr × Obj)), PSs (X.suite a pn) (st₀ :: suite) (ts a))
    (J : Inv X pins σ H t0) (stays : ∀ b o, t0.heap.get? b = some o → b ∉ frs X.stack → B.get? b = some o) (up : t0.heap.UpToSlots t.heap) (os : t.os = t0.os) (ag : AllBare t.gens) (na : H a = none)
    (fl : HandSPX.FlyingZ B (X.env :: X.outer) a (Zc cls d) t.heap) (w : wKeep X.K c i ts Wout D cls d σ H) :
    wpAny (model X.prog X.w) X.A (handleBy (.ref a) X.env [.ExceptHandler (some (.Name x np)) (some n) (st₀ :: suite) pos']) (SP X pins D) X.xe t := by
  obtain ⟨b, eb, yes, no⟩ := w
  obtain ⟨ob, fs, eo, zo, fo⟩ := fl.there
  have away : a ∉ frs X.stack := by rw [hs]; exact apart_of fl.2.2.1 eo fo
  have aL : a ≠ X.env.locals := fun z => away (by rw [hs]; exact List.mem_filterMap.mpr ⟨X.env, List.mem_cons_self, by rw [hf, z]⟩)
  have aF : a ∉ X.fs := fun m => away (by
    obtain ⟨e, me, q⟩ := List.mem_filterMap.mp m
    rw [hs]
    exact List.mem_filterMap.mpr ⟨e, List.mem_cons_of_mem _ me, q⟩)
  have nt0 : t0.heap.get? a = none := by
    by_cases e : t0.heap.get? a = none
    · exact e
    · obtain ⟨o, eo'⟩ := Option.ne_none_iff_exists'.mp e
      have z := stays a o eo' away
      rw [fl.2.1] at z
      cases z
  have nw := NewAt.of J hex nt0
  have It : Inv X pins σ H t := J.landed stays fl.1 up os ag
  have Is := It.suite eo fo na aL aF
  refine wpAny_handleBy_cons (codeAny_handlers_test ?_) (by intro q; cases q)
  have ask : ∀ {Q : Value → Shared → Prop} {E : Value → Shared → Prop}, Q c t → wpAny (model X.prog X.w) (X.A.mark (some (.ref a))) (eval (.Name x np) X.env) Q E t := fun {Q E} q => by
    obtain ⟨h1, h2, h3 | ⟨h3, h4, h5⟩⟩ := hc
    · exact ld_glob (X := X.suite a ((a, ob) :: (X.pn ++ pins))) Is h1 h3 q h2
    · exact ld_blt (X := X.suite a ((a, ob) :: (X.pn ++ pins))) Is h1 h3 h4 q h5 h2
  have isOf := PySem.W.exm_one (M := model X.prog X.w) It.kIn (fun A Q E s k q => wpAny_typeOf_ref (k _ _ eo) (by rw [zo.1]; exact q)) eb
  refine ask (isOf.here ?_)
  cases b with
  | true =>
    refine codeAny_handlers_suite_as (HandSPX.lands_againZ fl fun h2 fl2 up2 => ?_)
    obtain ⟨ob2, fs2, eo2, zo2, fo2⟩ := fl2.there
    have I2 : Inv X pins σ H { t with heap := h2 } := J.landed stays fl2.1 (up.trans up2) os ag
    have I3 := suiteK (adopt I2 na nw.first aL nw.cells nw.pinned (exK_ok eo2 zo2 fo2)) a
    refine store_ok (X := X.suite a (X.pn ++ pins)) (v := .ref a) I3 hN hi (.inl hln) rfl (fun t2 I4 => ?_) (.inr hln)
    exact wpAny_mono ((hsu a (X.pn ++ pins)).run [] t2 _ _ _ I4 (yes rfl a na)) (fun r t3 h => suite_end J.ok hN hi hln h) fun _ _ z => False.elim z
  | false =>
    show wpAny _ X.A (handleBy (.ref a) X.env []) _ _ _
    refine wpAny_handleBy_nil ?_
    obtain ⟨_, _, _, o1, fs1, T, _, _, e1, _, f1, g1, _⟩ := id fl
    have out : wpAny (model X.prog X.w) X.A (setFlight (.ref a) X.env.frame) (fun _ t4 => wpAny (model X.prog X.w) X.A (throw (.ref a) : Sem Flow) (SP X pins D) X.xe t4) X.xe t := by
      rw [hf]
      refine HandSPX.setFlight_upZ fl fun h4 hh up4 => wpAny_throw (tk _ _ ?_)
      exact ⟨a, B, t0, pins, σ, H, cls, d, rfl, J, stays, up.trans up4, .inr (.inr (by rw [hs]; exact hh)), na, os, ag, no rfl⟩
    unfold PySem.passOn
    refine wpAny_bind (wpAny_field e1 f1 g1 ?_)
    rw [if_neg (show ¬ ((Value.ref T == Value.none) = true) from by simp)]
    first
      | exact wpAny_bind (wpAny_pure (wpAny_bind out))
      | exact wpAny_bind out
/-- try: body / except x as n: suite, where the suite may keep the exception -/
theorem ps_try_keep (hs : X.stack = X.env :: X.outer) (hf : X.env.frame = some X.env.locals) (hex : X.ex = []) (hN : X.N.Nodup) (hi : X.N[i]? = some n) (hln : X.env.kindOf n = some .local) (hc : Names X x c) (tk : Takes X Wout)
    (hb : ∀ (W : WX) (pn : List (Addr × Obj)) (xe : Value → Shared → Prop), Takes (X.tr pn xe) W → PSs (X.tr pn xe) body (tb W))
    (hsu : ∀ (a : Addr) (pn : List (Addr × Obj)), PSs (X.suite a pn) (st₀ :: suite) (ts a)) :
    PS X (.Try body [.ExceptHandler (some (.Name x np)) (some n) (st₀ :: suite) pos'] [] [] pos) (fun D σ H => tb (wKeep X.K c i ts Wout D) D σ H) := by
  refine ⟨fun pins s σ H D I h => wpAny_Try_except ?_⟩
  have fr : X.A.frames = some (X.env :: X.outer) := by rw [I.ok.frames, hs]
  let catch_ : Value → Shared → Prop := fun e s₁ => wpAny (model X.prog X.w) X.A (noteFrame e X.env) (fun _ s₂ => wpAny (model X.prog X.w) X.A (setFlight e none) (fun _ s₃ =>
    wpAny (model X.prog X.w) X.A (handleBy e X.env [.ExceptHandler (some (.Name x np)) (some n) (st₀ :: suite) pos']) (SP X pins D) X.xe s₃) X.xe s₂) X.xe s₁
  have took : Takes (X.tr (X.pn ++ pins) catch_) (wKeep X.K c i ts Wout D) := fun u t ⟨a, B, t0, pins', σ', H', cls, d, eu, J, stays, up, sky, na, os, ag, w⟩ => by
    subst eu
    have sky2 : Sky B (X.env :: X.outer) a (Zc cls d) X.env.locals t.heap := by rw [← hs]; exact sky
    exact Sky.land Zc.steady fr hf sky2 fun h3 fl up3 => clause_keep (t := { t with heap := h3 }) hs hf hex hN hi hln hc tk hsu (J.ofTry I.ok) stays (up.trans up3) os ag na fl w
  refine wpAny_mono ((hb _ (X.pn ++ pins) catch_ took).run [] s σ H D (I.toTry _) h) (fun r t e => ?_) (fun _ _ e => e)
  cases r with
  | next => obtain ⟨σ1, H1, I1, q⟩ := e; exact wpAny_execs_nil ⟨σ1, H1, I1.ofTry I.ok, q⟩
  | brk => obtain ⟨σ1, H1, I1, q⟩ := e; exact ⟨σ1, H1, I1.ofTry I.ok, q⟩
  | cont => obtain ⟨σ1, H1, I1, q⟩ := e; exact ⟨σ1, H1, I1.ofTry I.ok, q⟩
  | ret u => obtain ⟨y, σ1, H1, I1, ry, q⟩ := e; exact ⟨y, σ1, H1, I1.ofTry I.ok, ry, q⟩
end
/-! ### isinstance of a kept exception -/
/-- what is asked of the exception's class -/
structure ExcIs (K : PySem.W.Frag) (C : Addr) : Prop where
  cl : (PySem.W.clsIn K C).isSome = true
  ga : PySem.W.findIn K (.ref C) "__getattribute__" = some (some (.builtin "BaseException.__getattribute__"))
  gg : ∃ g, PySem.W.findIn K (.ref C) "__getattr__" = some g
  sb : PySem.W.subIn K (.ref C) (.type "BaseException") = some true
  kl : PySem.W.findIn K (.ref C) "__class__" = some (some (.builtin "object.__class__"))
  gt : PySem.W.specialIn K (.builtin "object.__class__") "__get__" = some (some (.builtin "getset_descriptor.__get__"))
  tk : PySem.W.takesIn K (.builtin "object.__class__") = some true
  mr : PySem.W.mroIn K C (.type "object") = some true
def excIsB (K : PySem.W.Frag) (C : Addr) : Bool :=
  (PySem.W.clsIn K C).isSome && (decide (PySem.W.findIn K (.ref C) "__getattribute__" = some (some (.builtin "BaseException.__getattribute__"))) && ((PySem.W.findIn K (.ref C) "__getattr__").isSome && (decide (PySem.W.subIn K (.ref C) (.type "BaseException") = some true) &&
    (decide (PySem.W.findIn K (.ref C) "__class__" = some (some (.builtin "object.__class__"))) && (decide (PySem.W.specialIn K (.builtin "object.__class__") "__get__" = some (some (.builtin "getset_descriptor.__get__"))) &&
      (decide (PySem.W.takesIn K (.builtin "object.__class__") = some true) && decide (PySem.W.mroIn K C (.type "object") = some true)))))))
theorem ExcIs.of {K : PySem.W.Frag} {C : Addr} (h : excIsB K C = true) : ExcIs K C := by
  unfold excIsB at h
  simp only [Bool.and_eq_true, decide_eq_true_eq] at h
  obtain ⟨h1, h2, h3, h4, h5, h6, h7, h8⟩ := h
  exact ⟨h1, h2, Option.isSome_iff_exists.mp h3, h4, h5, h6, h7, h8⟩
def rIsE (K : PySem.W.Frag) : List V → Hp → VK → Prop := fun xs H Q => (∃ (a C : Addr) (c : V) (u : Value) (b : Bool), xs = [.ref a, c] ∧ ClsV c u ∧ H a = some (ExK (.ref C) none a) ∧ ExcIs K C ∧ PySem.W.kitOne K (.ref C) u = some b ∧ Q (.bl b) H) ∨ rIsi K xs H Q
section
variable {X : Cx}
theorem call_isE : CallR X (.builtin "isinstance") (rIsE X.K) := by
  intro pins s σ H xs us Q I r h
  rcases h with ⟨a, C, c, u, b, rfl, kc, ea, T, eb, q⟩ | h
  · obtain ⟨u1, u2, rfl, r1, r2⟩ := vals2 r
    cases (show u1 = Value.ref a from r1)
    have e2 := kc.eq r2
    subst e2
    obtain ⟨⟨oe, eo, z, vs, dt⟩, _, _⟩ := I.hok a _ ea
    obtain ⟨g, eg⟩ := T.gg
    have Z := PySem.W.kitx_exc (K := X.K) (x := a) (C := C) (ox := oe) (od := none) T.cl T.ga eg T.sb T.kl T.gt T.tk T.mr
    refine PySem.W.kia_one Z I.kIn ⟨eo, z.1, ?_, ?_⟩ eb (fun y => nomatch y) fun tk => ⟨.bl b, H, I.tok tk, rfl, q⟩
    · unfold PySem.W.notCls
      rw [dt]
    · rw [z.2]
      trivial
  · exact call_isi pins s σ H xs us Q I r h
theorem call_isEK (K : PySem.W.Frag) (h : X.K = K) : CallR X (.builtin "isinstance") (rIsE K) := h ▸ call_isE
end
/-! ### methods that may raise -/
/-- o.m() in a try -/
def tMethS (C : Addr) (m : Str) (sp : Sp) (E : L2.St → XK) (ta : TE) : TE := fun σ H Q => ta σ H fun v H1 => ∃ a dx fs, v = .ref a ∧ H1 a = some (.ins C dx fs) ∧ fs.lookup m = none ∧ sp [v] H1 Q (E σ)
section
variable {X : Cx} {CX : CXT} {k : Nat} {f C : Addr} {fd : FuncData} {ps : List Str} {sp : Sp} {E : L2.St → XK} {m : Str} {pos apos : Pos} {o : Expr} {ta : TE}
theorem pe_meth0S {pl : Sem Bool} (ho : PE X o ta) (c : Cls X.K C) (hm : Meth X.K C m f) (F : FnOk X.prog X.w X.K X.mg X.base CX k f fd ps sp) (hr : Room k X.A) (hb : Binds X.K fd ps []) (hx : ∀ σ, PassesAt CX X σ (E σ))
    (ht : eval (.Call (.Attribute o m apos) [] [] pos) X.env = (do
      let ov ← eval o X.env
      standAt apos.atName
      let (f, first) ← holding [ov] (getMethod ov m pl)
      callWith pos f first (backTo pos (starEach [] X.env)) (backToKw pos (keywordEach [] X.env))) := by rfl) : PE X (.Call (.Attribute o m apos) [] [] pos) (tMethS C m sp E ta) :=
  ⟨fun pins s σ H Q I h => PySem.W.methodCall_KW (pl := pl) (thn (ho.run pins s σ H _ I h) fun u t ⟨v, H1, I1, rv, a, dx, fs, ev, ea, l, q⟩ => by
    subst ev
    have eu : u = Value.ref a := rv
    subst eu
    exact getmeth_ok I1 ea c hm l (PySem.W.callWith_K0 (first := [.ref a]) I1.kIn hm.kp (run_fnS (us := [.ref a]) (vs := [.ref a]) F hr hb (hx σ) I1 (.cons rfl .nil) q))) ht⟩
end
section
variable {P : Program} {w : World} {K : PySem.W.Frag} {mg : Str → Option Value} {base : Heap} {m q : Str} {st : Stmt} {ps : List Str} {f : Addr} {fd : FuncData}
/-- a method that may raise -/
theorem _root_.Obj.MethAt.okX {N : List Str} {k : Nat} {sp : Sp} (D : Obj.MethAt K m q st ps f fd) (S : FnScope N ps (defScope st)) (len : ∀ vs H Q E, sp vs H Q E → vs.length = ps.length)
    (hbody : ∀ (cdv : Value) (A : Around) (outer : List Env) (s : Shared) (H : Hp) (vs : List V) (Q : VK) (E : XK), fd.code = cdv → Room k (A.deeper (envOfC q (defScope st) s.heap.objs.size f cdv)) → sp vs H Q E →
      ∃ t, PSs (cxOf (L2.CX P w) P w K mg base N q (defScope st) f cdv A outer s H E) (defBody st) t ∧ t { nx := fun _ H' => Q .non H', rt := Q } (L2.start N vs) H) : FnOk P w K mg base (L2.CX P w) (k + 1) f fd ps sp := by
  obtain ⟨_, _, _, _, _, _, _, cdv, _, _, rfl, lk, hcd, _, _⟩ := D.F.ex
  exact fn_of lk hcd S len fun A outer s H vs Q E hr h => hbody cdv A outer s H vs Q E rfl hr h
end
theorem mt_indexK {X : Cx} (K : PySem.W.Frag) (h : X.K = K) : MtR X "list.index" (rIndex K) := h ▸ mt_index
theorem mt_lcountK {X : Cx} (K : PySem.W.Frag) (h : X.K = K) : MtR X "list.count" (rCntI K) := h ▸ mt_lcount
section
variable {X : Cx} {T id : String} {name : Str} {r : V → List V → Hp → VK → Prop} {o e : Expr} {es : List Expr} {to : TE} {t : TA} {apos cpos : Pos}
theorem pe_bmK (K : PySem.W.Frag) (h : X.K = K) (pa : PlainAttrs T) (slot : Slot T name id) (hty : typeOf (.builtin id) = pure (.type "method_descriptor")) (hm : MtR X id r) (ho : PE X o to) (ha : PA X (e :: es) t)
    (hbase : attributeBase o name X.env (eval o X.env) = eval o X.env := by rfl)
    (few : ((backTo cpos (starEach (e :: es) X.env)).all (fun x => !x.1) && (backToKw cpos (keywordEach [] X.env)).all (fun x => x.1.isSome) && decide ((e :: es).length + ([] : List Keyword).length + (if ([] : List Keyword).isEmpty then 0 else 1) < 30)) = true := by rfl)
    (line : (apos.endLine == cpos.line) = true := by rfl) (hs : starEach (e :: es) X.env = (false, eval e X.env) :: starEach es X.env := by rfl) (pl : (backTo cpos (starEach es X.env)).any (·.1) = false := by rfl) :
    PE X (.Call (.Attribute o name apos) (e :: es) [] cpos) (tBM K T r to t) := h ▸ pe_bm pa slot hty hm ho ha hbase few line hs pl
end
end Caught

set_option Elab.async false
set_option linter.all false
set_option maxRecDepth 100000
set_option maxHeartbeats 2000000
/-! Wipe: names of a block that are set and wiped; a state told otherwise. -/
namespace Wipe
open PySem PySem.Spec PyProof.Rows L2
theorem wipe_out : ∀ {vs : List Nat} {σ : L2.St} {i : Nat} {a : Option V}, i ∉ vs → wipe (σ.set i a) vs = (wipe σ vs).set i a
  | [], _, _, _, _ => rfl
  | j :: r, σ, i, a, h => by
    show (wipe (σ.set i a) r).set j none = ((wipe σ r).set j none).set i a
    rw [wipe_out fun z => h (List.mem_cons_of_mem _ z)]
    exact List.set_comm _ _ (fun e => h (by rw [e]; exact List.mem_cons_self))
theorem wipe_in : ∀ {vs : List Nat} {σ : L2.St} {i : Nat} {a : Option V}, i ∈ vs → wipe (σ.set i a) vs = wipe σ vs
  | j :: r, σ, i, a, h => by
    show (wipe (σ.set i a) r).set j none = (wipe σ r).set j none
    by_cases hr : i ∈ r
    · rw [wipe_in hr]
    · have e : i = j := (List.mem_cons.mp h).resolve_right hr
      rw [wipe_out hr, e, List.set_set]
theorem wipe_idem : ∀ {vs : List Nat} {σ : L2.St}, wipe (wipe σ vs) vs = wipe σ vs
  | [], _ => rfl
  | j :: r, σ => by
    have h : wipe ((wipe σ r).set j none) (j :: r) = wipe (wipe σ r) (j :: r) := wipe_in List.mem_cons_self
    show wipe ((wipe σ r).set j none) (j :: r) = _
    rw [h]
    show (wipe (wipe σ r) r).set j none = (wipe σ r).set j none
    rw [wipe_idem]
section
variable {vs : List Nat} {σ : L2.St} {i1 i2 i3 i4 i5 : Nat} {a1 a2 a3 a4 a5 : Option V}
theorem wipe1 (h1 : i1 ∈ vs) : wipe ((wipe σ vs).set i1 a1) vs = wipe σ vs := (wipe_in h1).trans wipe_idem
theorem wipe4 (h1 : i1 ∈ vs) (h2 : i2 ∈ vs) (h3 : i3 ∈ vs) (h4 : i4 ∈ vs) : wipe (((((wipe σ vs).set i1 a1).set i2 a2).set i3 a3).set i4 a4) vs = wipe σ vs := (wipe_in h4).trans ((wipe_in h3).trans ((wipe_in h2).trans (wipe1 h1)))
theorem wipe5 (h1 : i1 ∈ vs) (h2 : i2 ∈ vs) (h3 : i3 ∈ vs) (h4 : i4 ∈ vs) (h5 : i5 ∈ vs) : wipe ((((((wipe σ vs).set i1 a1).set i2 a2).set i3 a3).set i4 a4).set i5 a5) vs = wipe σ vs := (wipe_in h5).trans (wipe4 h1 h2 h3 h4)
end
theorem st_lit {t : TS} {D : Ends} {σ : L2.St} {H : Hp} (σ' : L2.St) (e : σ = σ') (h : t D σ' H) : t D σ H := e ▸ h
/-- a statement and what follows, met at J -/
theorem st_seqJ {a b : TS} {D : Ends} {σ : L2.St} {H : Hp} (J : L2.St → Hp → Prop) (h2 : ∀ σ' H', J σ' H' → b D σ' H') (h1 : ∀ N : L2.St → Hp → Prop, (∀ σ' H', J σ' H' → N σ' H') → a { D with nx := N } σ H) : tSeq a b D σ H := h1 (b D) h2
theorem st_tup {ts : TA} {σ : L2.St} {H : Hp} {Q : VK} (h : ts σ H fun xs H1 => xs.length ≤ sizeLine ∧ ∀ p, H1 p = none → Q (.ref p) (upd H1 p (.tup xs))) : tTup ts σ H Q := h
theorem st_nil {σ : L2.St} {H : Hp} {Q : List V → Hp → Prop} (h : Q [] H) : tNil σ H Q := h
theorem st_c {v : V} {σ : L2.St} {H : Hp} {Q : VK} (h : Q v H) : tC v σ H Q := h
theorem st_var {i : Nat} {v : V} {σ : L2.St} {H : Hp} {Q : VK} (e : σ[i]? = some (some v)) (h : Q v H) : tVar i σ H Q := ⟨v, e, h⟩
end Wipe

set_option Elab.async false
set_option linter.all false
set_option maxRecDepth 100000
set_option maxHeartbeats 2000000
/-! Txts: texts: rules that name K, all over any walk, numbers as texts, joined words. -/
namespace Txts
open PySem PySem.Spec PyProof.Rows L2 GxR GX Tree Kit Data Comps Purse
section
variable {X : Cx}
def rJoin (K : PySem.W.Frag) : V → List V → Hp → VK → Prop := fun x xs H Q => ∃ a p, ∃ ys : List Str, x = .str a ∧ xs = [.ref p] ∧ (SqL K H p (ys.map V.str) ∨ SqT K H p (ys.map V.str)) ∧ (ys.map (·.length)).sum + ys.length * a.length ≤ 16777216 ∧ Q (.str (Txt.join a ys)) H
theorem pe_joinK (K : PySem.W.Frag) (h : X.K = K) {o e : Expr} {to te : TE} {apos pos : Pos} (ho : PE X o to) (he : PE X e te) (hs : starEach [e] X.env = [(false, eval e X.env)] := by rfl)
    (hb : attributeBase o ("join" : Str) X.env (eval o X.env) = eval o X.env := by rfl) (hl : (apos.endLine == pos.line) = true := by rfl) : PE X (.Call (.Attribute o "join" apos) [e] [] pos) (tM1 (rJoin K) to te) := h ▸ pe_join ho he hs hb hl
def rTupIx (K : PySem.W.Frag) : V → List V → Hp → VK → Prop := fun x xs H Q => ∃ p, ∃ ys : List Str, ∃ z j, x = .ref p ∧ xs = [.str z] ∧ SqT K H p (ys.map V.str) ∧ ys[j]? = some z ∧ (∀ m, m < j → ys[m]? ≠ some z) ∧ Q (.int (j : Nat)) H
theorem mt_tup_indexK (K : PySem.W.Frag) (h : X.K = K) : MtR X "tuple.index" (rTupIx K) := h ▸ mt_tup_index
theorem pt_truthK (K : PySem.W.Frag) (h : X.K = K) {a : Expr} {ta : TE} (ha : PE X a ta) (he : ∀ whole, isTrue a X.env whole = (do let v ← whole; standAt a.pos; holding [v] (truthy v))) : PT X a (fun σ H Q => ta σ H fun x H' => ∃ k, TruV K x H' k ∧ Q k H') := h ▸ pt_truth ha he
theorem pe_orTK (K : PySem.W.Frag) (h : X.K = K) {a b : Expr} {ta tb : TE} {rest : List Expr} {pos : Pos} (ha : PE X a ta) (hb : PE X (.BoolOp .Or (b :: rest) pos) tb) : PE X (.BoolOp .Or (a :: b :: rest) pos) (tOrT K ta tb) := h ▸ pe_orT ha hb
/-- str of a number, of a text -/
def rStrAny : List V → Hp → VK → Prop := fun xs H Q => (∃ i : Int, xs = [.int i] ∧ i.natAbs.log2 < 1920 ∧ Q (.str (toString i)) H) ∨ ∃ a, xs = [.str a] ∧ Q (.str a) H
theorem call_str_any : CallR X (.type "str") rStrAny := by
  intro pins s σ H xs us Q I r h
  rcases h with h | h
  · exact call_str_int pins s σ H xs us Q I r h
  · exact SkE.call_str_str pins s σ H xs us Q I r h
end
theorem st_cb {r : List V → Hp → VK → Prop} {t : TA} {σ : L2.St} {H : Hp} {Q : VK} (h : t σ H fun vs H1 => r vs H1 Q) : tCB r t σ H Q := h
theorem st_andv {ta tb : TE} {σ : L2.St} {H : Hp} {Q : VK} (h : ta σ H fun x H1 => ∃ c, x = .bl c ∧ if c = true then tb σ H1 Q else Q (.bl false) H1) : tAndV ta tb σ H Q := h
theorem st_orv {ta tb : TE} {σ : L2.St} {H : Hp} {Q : VK} (h : ta σ H fun x H1 => ∃ c, x = .bl c ∧ if c = true then Q (.bl true) H1 else tb σ H1 Q) : tOrV ta tb σ H Q := h
theorem orV {a b : Bool} {A : Prop} {R : Bool → Prop} (q : R (a || b)) (h1 : a = false → R b → A) : if a = true then R true else A := by
  cases a with
  | true => rw [if_pos rfl]; exact q
  | false => rw [if_neg (by decide)]; exact h1 rfl q
/-- a tuple of the text's top without a dict -/
def tupDB (K : PySem.W.Frag) (a : Addr) : Bool := match K.lookup a with
  | some o => decide (o.cls = Value.type "tuple") && decide (o.dict = none)
  | none => false
theorem tupDB_ok {K : PySem.W.Frag} {a : Addr} (h : tupDB K a = true) : ∃ o, K.lookup a = some o ∧ o.cls = Value.type "tuple" ∧ o.dict = none := by
  unfold tupDB at h
  cases e : K.lookup a with
  | none => rw [e] at h; cases h
  | some o =>
    rw [e] at h
    obtain ⟨h1, h2⟩ := Bool.and_eq_true_iff.mp h
    exact ⟨o, rfl, of_decide_eq_true h1, of_decide_eq_true h2⟩
/-! ### walks -/
theorem its_at {B : List Addr} {H : Hp} (x : Str) : ItAt (Its x) B H x.cps.size (fun i => .str ⟨#[x.cps.toList.getD i 0]⟩) :=
  ⟨fun i H' h _ => h, fun H' _ => Nat.le_refl _, fun i H' y H'' hi k ⟨e, c, e1, e2⟩ => by
    refine ⟨e, ?_⟩
    rw [e2, List.getD_eq_getElem?_getD, Array.getElem?_toList, e1]
    rfl⟩
theorem itt_at {K : PySem.W.Frag} {B : List Addr} {H : Hp} {a : Addr} {xs : List V} (h : H a = some (.tup xs)) (n : a ∉ B) : ItAt (Itt K a) B H xs.length (fun i => xs.getD i .non) :=
  ⟨fun i H' hi k => ⟨xs, xs[i], SqT.of (k.tup n h), by simp [hi]⟩, fun H' k => ⟨xs, SqT.of (k.tup n h), Nat.le_refl _⟩, fun i H' x H'' hi k y => by
    obtain ⟨rfl, y⟩ := y
    have := y xs (SqT.of (k.tup n h))
    exact ⟨rfl, by rw [List.getD_eq_getElem?_getD, this]; rfl⟩⟩
section
variable {P : Addr} {g : TG} {te : TE} {vs : List Nat} {σ : L2.St} {H : Hp} {Q : VK}
/-- what all over the walk J asks -/
def AllG (P : Addr) (J : It) (g : TG) (te : TE) (vs : List Nat) (σ : L2.St) (H : Hp) (Q : VK) : Prop :=
  TabG H P ∧ ∀ H2, Tabbed P H H2 → ∃ W : Nat → Nat → Hp → Prop, (∃ m, W 0 m H2) ∧ GTurns J g tYes te vs σ W (fun H => Q (.bl true) H) (consAll fun b H => Q (.bl b) H)
theorem all_use {wi : TI} (h : wi σ H fun J H1 => AllG P J g te vs σ H1 Q) : tAllG P wi g tYes te vs σ H Q := h
/-- all(e for x in ..) over any walk -/
theorem all_at {J : It} {N : Nat} {f : Nat → V} (It : ItAt J [] H N f) {p : Nat → Bool} (hT : TabG H P)
    (step : ∀ i H', i < N → Kx [] H H' → ∀ R : Bool → Hp → Prop, (∀ H'', Kx [] H' H'' → R (p i) H'') → g (f i) (wipe σ vs) H' fun σ2 H2 => wipe σ2 vs = wipe σ vs ∧ te σ2 H2 fun y H4 => ∃ b, y = .bl b ∧ R b H4)
    (q : ∀ H', Kx [] H H' → Q (.bl ((List.range N).all p)) H') :
    AllG P J g te vs σ H Q := by
  refine ⟨hT, fun H2 ht => ?_⟩
  refine ⟨fun i m H' => m = N - i ∧ i ≤ N ∧ Kx [] H H' ∧ ∀ j, j < i → p j = true, ⟨N, by simp, Nat.zero_le _, Kx.tabbed hT ht, fun j hj => absurd hj (Nat.not_lt_zero _)⟩, ?_⟩
  rintro i m H' ⟨rfl, hi, k, hp⟩
  by_cases hlt : i < N
  · refine .inr ⟨It.go i H' hlt k, fun H'' => Kx [] H H'' ∧ p i = true, fun H'' z => ⟨N - (i + 1), by omega, rfl, hlt, z.1, fun j hj => ?_⟩, fun x H5 y => ?_⟩
    · rcases Nat.lt_or_eq_of_le (Nat.le_of_lt_succ hj) with h | h
      · exact hp j h
      · rw [h]; exact z.2
    · obtain ⟨rfl, rfl⟩ := It.yld i H' x H5 hlt k y
      refine step i H5 hlt k (fun b H4 => if b = true then (Kx [] H H4 ∧ p i = true) else Q (.bl false) H4) (fun H'' k2 => ?_)
      cases hb : p i with
      | true => exact ⟨k.trans k2, rfl⟩
      | false =>
        have hall : (List.range N).all p = false := by
          rw [Bool.eq_false_iff]
          intro z
          rw [List.all_eq_true.mp z i (List.mem_range.mpr hlt)] at hb
          cases hb
        have := q H'' (k.trans k2)
        rw [hall] at this
        exact this
  · have e : i = N := by omega
    subst e
    refine .inl ⟨It.stop H' k, ?_⟩
    have := q H' k
    rw [show (List.range i).all p = true from List.all_eq_true.mpr fun j hj => hp j (List.mem_range.mp hj)] at this
    exact this
theorem range_all {α : Type} (l : List α) (d : α) (p : α → Bool) : (List.range l.length).all (fun i => p (l.getD i d)) = l.all p := by
  rw [Bool.eq_iff_iff, List.all_eq_true, List.all_eq_true]
  constructor
  · intro h x hx
    obtain ⟨i, hi, rfl⟩ := List.getElem_of_mem hx
    have := h i (List.mem_range.mpr hi)
    rwa [List.getD_eq_getElem?_getD, List.getElem?_eq_getElem hi] at this
  · intro h i hi
    have hi := List.mem_range.mp hi
    rw [List.getD_eq_getElem?_getD, List.getElem?_eq_getElem hi]
    exact h _ (List.getElem_mem hi)
end
/-! ### numbers as texts, words -/
def nT (i : Int) : Str := Str.ofString (toString i)
theorem tl_nT {i : Int} (h : 0 ≤ i) : TL.tl (nT i) = TL.numL i.toNat := by
  obtain ⟨n, rfl⟩ : ∃ n : Nat, i = (n : Int) := ⟨i.toNat, by omega⟩
  exact TL.tl_num n
/-- what writes a number: one to four figures, no 0 ahead of another -/
def figB (w : Str) : Bool := (decide (1 ≤ (w.length : Int)) && decide ((w.length : Int) ≤ 4)) && (w.cps.toList.all (fun c => decide (c ∈ ("0123456789" : Str).cps.toList)) && (decide (w = ("0" : Str)) || !(Txt.startswith w ("0" : Str))))
theorem figs_tl : ("0123456789" : Str).cps.toList = [48, 49, 50, 51, 52, 53, 54, 55, 56, 57] := by decide +kernel
theorem zero_tl : TL.tl ("0" : Str) = [48] := by decide +kernel
theorem numL_digit {n c : Nat} (h : c ∈ TL.numL n) : 48 ≤ c ∧ c ≤ 57 := by
  by_cases z : 48 ≤ c ∧ c ≤ 57
  · exact z
  · exact absurd h (TL.numL_free (by omega))
theorem numL_head {n : Nat} (h : 0 < n) : ∃ c r, TL.numL n = c :: r ∧ c ≠ 48 := by
  induction n using Nat.strongRecOn with
  | _ n ih =>
    by_cases h10 : n < 10
    · exact ⟨48 + n, [], TL.numL_lt h10, by omega⟩
    · obtain ⟨c, r, e, nc⟩ := ih (n / 10) (by omega) (by omega)
      exact ⟨c, r ++ [48 + n % 10], by rw [TL.numL_step (by omega), e]; rfl, nc⟩
theorem nT_len {i : Int} (h : 0 ≤ i) (h2 : i ≤ 9999) : 1 ≤ (nT i).length ∧ (nT i).length ≤ 4 := by
  rw [TL.len_tl, tl_nT h]
  have h1 := TL.numL_ne i.toNat
  have h3 := TL.numL_len (n := i.toNat) (k := 4) (by decide) (by omega)
  refine ⟨?_, h3⟩
  cases e : TL.numL i.toNat with
  | nil => exact absurd e h1
  | cons _ _ => simp
theorem nT_digit {i : Int} (h : 0 ≤ i) {c : Nat} (hc : c ∈ TL.tl (nT i)) : 48 ≤ c ∧ c ≤ 57 := by
  rw [tl_nT h] at hc
  exact numL_digit hc
theorem figB_num {i : Int} (h : 0 ≤ i) (h2 : i ≤ 9999) : figB (nT i) = true := by
  obtain ⟨l1, l2⟩ := nT_len h h2
  unfold figB
  rw [decide_eq_true (show 1 ≤ ((nT i).length : Int) by omega), decide_eq_true (show ((nT i).length : Int) ≤ 4 by omega), figs_tl]
  have ha : (nT i).cps.toList.all (fun c => decide (c ∈ [48, 49, 50, 51, 52, 53, 54, 55, 56, 57])) = true := List.all_eq_true.mpr fun c hc => by
    have := nT_digit h hc
    refine decide_eq_true ?_
    simp only [List.mem_cons, List.not_mem_nil, or_false]
    omega
  rw [ha]
  by_cases h0 : i = 0
  · have e : nT i = ("0" : Str) := TL.ext_tl (by rw [tl_nT h, zero_tl, h0]; exact TL.numL_lt (by decide))
    rw [e]
    rfl
  · have e : Txt.startswith (nT i) ("0" : Str) = false := by
      rw [Bool.eq_false_iff]
      intro z
      unfold Txt.startswith at z
      have z2 := (Bool.and_eq_true_iff.mp z).2
      have z3 := PyProof.Rows.strSub_of_subAt z2
      have z4 := congrArg TL.tl z3
      rw [TL.tl_strSub, zero_tl, tl_nT h] at z4
      obtain ⟨c, r, e, nc⟩ := numL_head (n := i.toNat) (by omega)
      have e1 : ("0" : Str).length = 1 := by decide +kernel
      rw [e, e1] at z4
      exact nc (by simpa using z4)
    rw [e]
    simp
theorem nT_reads {i : Int} (h : 0 ≤ i) (h2 : i ≤ 9999) : intText? (nT i) = some i := PySem.W.KIN.num_reads h (by omega)
theorem nT_free {i : Int} (h : 0 ≤ i) {s : Nat} (hs : s < 48 ∨ 57 < s) : s ∉ TL.tl (nT i) := by
  rw [tl_nT h]
  exact TL.numL_free hs
/-! ### joined -/
theorem len_append (a b : Str) : (a ++ b).length = a.length + b.length := by
  show (a.cps ++ b.cps).size = a.cps.size + b.cps.size
  exact Array.size_append
theorem tl_append (a b : Str) : TL.tl (a ++ b) = TL.tl a ++ TL.tl b := by
  show (a.cps ++ b.cps).toList = _
  exact Array.toList_append
theorem join_two (s a b : Str) (r : List Str) : Txt.join s (a :: b :: r) = a ++ s ++ Txt.join s (b :: r) := by
  rw [TL.join_eq, TL.join_eq]
  rfl
theorem join_one (s a : Str) : Txt.join s [a] = a := by
  rw [TL.join_eq]
  rfl
/-- what stands behind the first part -/
def tailJ (s : Str) : List Str → Str
  | [] => Str.empty
  | a :: r => s ++ a ++ tailJ s r
theorem app_empty (a : Str) : a ++ Str.empty = a := TL.ext_tl (by rw [tl_append]; exact List.append_nil _)
theorem app_assoc (a b c : Str) : a ++ b ++ c = a ++ (b ++ c) := TL.ext_tl (by rw [tl_append, tl_append, tl_append, tl_append, List.append_assoc])
theorem join_tail (s : Str) : ∀ (a : Str) (r : List Str), Txt.join s (a :: r) = a ++ tailJ s r
  | a, [] => by rw [join_one]; exact (app_empty a).symm
  | a, b :: r => by
    rw [join_two, join_tail s b r]
    show _ = a ++ (s ++ b ++ tailJ s r)
    rw [app_assoc, app_assoc]
theorem tailJ_snoc (s : Str) : ∀ (l : List Str) (a : Str), tailJ s (l ++ [a]) = tailJ s l ++ (s ++ a)
  | [], a => by
    show s ++ a ++ Str.empty = Str.empty ++ (s ++ a)
    rw [app_empty]
    exact TL.ext_tl (by rw [tl_append Str.empty]; rfl)
  | b :: r, a => by
    show s ++ b ++ tailJ s (r ++ [a]) = s ++ b ++ tailJ s r ++ (s ++ a)
    rw [tailJ_snoc s r a, app_assoc (s ++ b)]
theorem tailJ_app (s : Str) : ∀ (l m : List Str), tailJ s (l ++ m) = tailJ s l ++ tailJ s m
  | [], m => TL.ext_tl (by rw [tl_append]; rfl)
  | b :: r, m => by
    show s ++ b ++ tailJ s (r ++ m) = s ++ b ++ tailJ s r ++ tailJ s m
    rw [tailJ_app s r m, app_assoc (s ++ b)]
end Txts

set_option Elab.async false
set_option linter.all false
set_option maxRecDepth 100000
set_option maxHeartbeats 2000000
/-! Sep: trees whose lists are told by their addresses, in order. -/
namespace Sep
open PySem PySem.Spec PyProof.Rows L2 GxR GX Tree Kit Comps Purse
mutual
/-- v is the tree d over H; its lists lie at as -/
inductive SepT (H : Hp) : V → PyData → List Addr → Prop
  | non : SepT H .non .none []
  | int (i : Int) : SepT H (.int i) (.int i) []
  | lst {a : Addr} {xs : List V} {ds : List PyData} {as : List Addr} : H a = some (.lst xs) → SepAll H xs ds as → SepT H (.ref a) (.list ds) (a :: as)
  | tup {a : Addr} {xs : List V} {ds : List PyData} {as : List Addr} : H a = some (.tup xs) → SepAll H xs ds as → SepT H (.ref a) (.tuple ds) as
inductive SepAll (H : Hp) : List V → List PyData → List Addr → Prop
  | nil : SepAll H [] [] []
  | cons {v : V} {vs : List V} {d : PyData} {ds : List PyData} {as bs : List Addr} : SepT H v d as → SepAll H vs ds bs → SepAll H (v :: vs) (d :: ds) (as ++ bs)
end
mutual
theorem SepT.tr {H : Hp} : ∀ {d : PyData} {v : V} {as : List Addr}, SepT H v d as → Tr [] H v d
  | _, _, _, .non => .non
  | _, _, _, .int i => .int i
  | _, _, _, .lst h t => .lst (by simp) h (SepAll.tr t)
  | _, _, _, .tup h t => .tup (by simp) h (SepAll.tr t)
theorem SepAll.tr {H : Hp} : ∀ {ds : List PyData} {vs : List V} {as : List Addr}, SepAll H vs ds as → TrAll [] H vs ds
  | _, _, _, .nil => .nil
  | _, _, _, .cons h t => .cons (SepT.tr h) (SepAll.tr t)
end
mutual
/-- what is written is none of it -/
theorem SepT.kx {C : List Addr} {H H' : Hp} (k : Kx C H H') (hC : ∀ b ∈ C, ∀ xs, H b ≠ some (.tup xs)) : ∀ {d : PyData} {v : V} {as : List Addr}, SepT H v d as → (∀ b ∈ C, b ∉ as) → SepT H' v d as
  | _, _, _, .non, _ => .non
  | _, _, _, .int i, _ => .int i
  | _, _, _, .lst h t, n => .lst (k.lst (fun z => n _ z (by simp)) h) (SepAll.kx k hC t fun b hb z => n b hb (List.mem_cons_of_mem _ z))
  | _, _, _, .tup h t, n => .tup (k.tup (fun z => hC _ z _ h) h) (SepAll.kx k hC t n)
theorem SepAll.kx {C : List Addr} {H H' : Hp} (k : Kx C H H') (hC : ∀ b ∈ C, ∀ xs, H b ≠ some (.tup xs)) : ∀ {ds : List PyData} {vs : List V} {as : List Addr}, SepAll H vs ds as → (∀ b ∈ C, b ∉ as) → SepAll H' vs ds as
  | _, _, _, .nil, _ => .nil
  | _, _, _, .cons h t, n => .cons (SepT.kx k hC h fun b hb z => n b hb (List.mem_append_left _ z)) (SepAll.kx k hC t fun b hb z => n b hb (List.mem_append_right _ z))
end
theorem SepT.up {H H' : Hp} {d : PyData} {v : V} {as : List Addr} (t : SepT H v d as) (k : Kx [] H H') : SepT H' v d as := t.kx k (fun b hb => nomatch hb) (fun b hb => nomatch hb)
theorem SepAll.up {H H' : Hp} {ds : List PyData} {vs : List V} {as : List Addr} (t : SepAll H vs ds as) (k : Kx [] H H') : SepAll H' vs ds as := t.kx k (fun b hb => nomatch hb) (fun b hb => nomatch hb)
mutual
theorem SepT.there {H : Hp} : ∀ {d : PyData} {v : V} {as : List Addr}, SepT H v d as → ∀ a ∈ as, ∃ xs, H a = some (.lst xs)
  | _, _, _, .non, _, h => nomatch h
  | _, _, _, .int i, _, h => nomatch h
  | _, _, _, .lst h t, a, m => by
    rcases List.mem_cons.mp m with rfl | m
    · exact ⟨_, h⟩
    · exact SepAll.there t a m
  | _, _, _, .tup h t, a, m => SepAll.there t a m
theorem SepAll.there {H : Hp} : ∀ {ds : List PyData} {vs : List V} {as : List Addr}, SepAll H vs ds as → ∀ a ∈ as, ∃ xs, H a = some (.lst xs)
  | _, _, _, .nil, _, h => nomatch h
  | _, _, _, .cons h t, a, m => (List.mem_append.mp m).elim (SepT.there h a) (SepAll.there t a)
end
theorem SepAll.snoc {H : Hp} : ∀ {vs : List V} {ds : List PyData} {as : List Addr} {v : V} {d : PyData} {bs : List Addr}, SepAll H vs ds as → SepT H v d bs → SepAll H (vs ++ [v]) (ds ++ [d]) (as ++ bs)
  | _, _, _, v, d, bs, .nil, h => by
    have := SepAll.cons h .nil
    rw [List.append_nil] at this
    exact this
  | _, _, _, v, d, bs, .cons (as := as) (bs := cs) h1 t, h => by
    rw [List.append_assoc]
    exact .cons h1 (SepAll.snoc t h)
theorem SepAll.ints {H : Hp} : ∀ ns : List Int, SepAll H (ns.map V.int) (ns.map PyData.int) []
  | [] => .nil
  | n :: ns => .cons (as := []) (.int n) (SepAll.ints ns)
/-- new things -/
structure New (H : Hp) (as : List Addr) : Prop where
  nd : as.Nodup
  fr : ∀ a ∈ as, H a = none
theorem New.nil (H : Hp) : New H [] := ⟨.nil, fun a h => nomatch h⟩
theorem New.back {H H1 : Hp} {as : List Addr} (n : New H1 as) (k : Kx [] H H1) : New H as := ⟨n.nd, fun a h => k.free (by simp) (n.fr a h)⟩
theorem New.append {H H1 : Hp} {as bs : List Addr} (n : New H as) (m : New H1 bs) (k : Kx [] H H1) (h : ∀ a ∈ as, H1 a ≠ none) : New H (as ++ bs) :=
  ⟨List.nodup_append.mpr ⟨n.nd, m.nd, fun a ha b hb e => h a ha (e ▸ m.fr b hb)⟩, fun a ha => (List.mem_append.mp ha).elim (n.fr a) fun hb => k.free (by simp) (m.fr a hb)⟩
section
variable {g : TG} {tt : TT} {te : TE} {vs : List Nat} {σ : L2.St} {H : Hp} {Q : VK}
/-- a comprehension whose items are new trees; G i: what the turn i makes, if anything -/
theorem lc_sep {J : It} {N : Nat} {f : Nat → V} (It : ItAt J [] H N f) (hN : N < sizeLine) (G : Nat → Option PyData)
    (step : ∀ i H', i < N → Kx [] H H' → ∀ (R : V → Hp → Prop) (R0 : Hp → Prop),
      (∀ y d as H'', G i = some d → Kx [] H' H'' → SepT H'' y d as → New H' as → R y H'') → (G i = none → ∀ H'', Kx [] H' H'' → R0 H'') →
      g (f i) (wipe σ vs) H' fun σ2 H2 => wipe σ2 vs = wipe σ vs ∧ tt σ2 H2 fun b H3 => if b = true then te σ2 H3 R else R0 H3)
    (q : ∀ D as H', Kx [] H H' → SepT H' (.ref D) (.list ((List.range N).filterMap G)) (D :: as) → New H (D :: as) → Q (.ref D) H') :
    CompG J g tt te vs σ H Q := by
  intro D hD
  refine lc_gen (B := []) It hN hD (A := fun i acc H' => ∃ as, SepAll H' acc ((List.range i).filterMap G) as ∧ New H as ∧ D ∉ as) ⟨[], .nil, New.nil H, by simp⟩ (fun i H' acc hi k hd ⟨as, hs, nw, nD⟩ R R0 hR hR0 => ?_) fun acc H' k hd ⟨as, hs, nw, nD⟩ => ?_
  · have er : (List.range (i + 1)).filterMap G = (List.range i).filterMap G ++ (match G i with | some d => [d] | none => []) := by
      rw [List.range_succ, List.filterMap_append]
      cases e : G i <;> simp [e]
    refine step i H' hi k R R0 (fun y d bs H'' e k2 ty nb => hR y H'' (k.trans k2) (k2.lst (by simp) hd) ?_) fun e H'' k2 => hR0 H'' (k.trans k2) (k2.lst (by simp) hd) ⟨as, by rw [er, e, List.append_nil]; exact hs.up k2, nw, nD⟩
    have hd2 := k2.lst (by simp) hd
    have nDb : D ∉ bs := fun z => by rw [nb.fr D z] at hd; cases hd
    have kD : Kx [D] H'' (upd H'' D (.lst (acc ++ [y]))) := Kx.put (by simp)
    have hDt : ∀ b ∈ [D], ∀ xs, H'' b ≠ some (.tup xs) := fun b hb xs e => by rw [List.mem_singleton.mp hb, hd2] at e; cases e
    have dis : ∀ a ∈ as, H' a ≠ none := fun a ha => by
      obtain ⟨xs, e⟩ := hs.there a ha
      rw [e]; simp
    refine ⟨as ++ bs, ?_, nw.append nb k dis, fun z => (List.mem_append.mp z).elim nD nDb⟩
    rw [er, e]
    exact ((hs.up k2).kx kD hDt fun b hb => by rw [List.mem_singleton.mp hb]; exact nD).snoc (ty.kx kD hDt fun b hb => by rw [List.mem_singleton.mp hb]; exact nDb)
  · exact q D as H' k (.lst hd hs) ⟨List.nodup_cons.mpr ⟨nD, nw.nd⟩, fun a ha => (List.mem_cons.mp ha).elim (fun e => e ▸ hD) (nw.fr a)⟩
end
end Sep

set_option Elab.async false
set_option linter.all false
set_option maxRecDepth 100000
set_option maxHeartbeats 2000000
/-! Raised: defs that may raise; a field of an exception that is kept. -/
namespace Raised
open PySem PySem.Spec PyProof.Rows L2 GxR Caught
/-- e.n, where e is an exception that has been kept -/
def tXk (K : PySem.W.Frag) (n : Str) (te : TE) : TE := fun σ H Q => te σ H fun x H1 => ∃ (a C dd : Addr) (fs : List (Str × V)) (v : V), x = .ref a ∧ H1 a = some (ExK (.ref C) (some dd) a) ∧ XfC K C ∧
  PySem.W.findIn K (.ref C) n = some none ∧ H1 dd = some (.xd fs) ∧ fs.lookup n = some v ∧ Q v H1
theorem pe_xk {X : Cx} {e : Expr} {te : TE} {pos : Pos} {n : Str} (K : PySem.W.Frag) (hK : X.K = K) (he : PE X e te) (hb : attributeBase e n X.env (eval e X.env) = eval e X.env := by rfl) :
    PE X (.Attribute e n pos) (tXk K n te) := by
  subst hK
  refine ⟨fun pins s σ H Q I h => ?_⟩
  refine attr_of hb (thn (he.run pins s σ H _ I h) fun u s1 hh => ?_)
  obtain ⟨x, H1, I1, rx, a, C, dd, fs, v, ex, eE, T, hno, ea, l, q⟩ := hh
  subst ex
  obtain rfl : u = Value.ref a := rx
  have hE : ObjOk X.prog X.w H1 s1.heap a (ExK (.ref C) (some dd) a) := I1.hok a _ eE
  obtain ⟨⟨oe, ha, hz, vs, hd⟩, _, _⟩ := hE
  have hx : ObjOk X.prog X.w H1 s1.heap dd (.xd fs) := I1.hok dd _ ea
  obtain ⟨mA, hns, hr⟩ := hx
  obtain ⟨od, ho, hl⟩ := lookIn_ns hns
  obtain ⟨u, hu, ru⟩ := RelO.some_of (v := v) (o := mA n) (by rw [← l]; exact hr n)
  have J : PySem.W.InstAt s1.heap a oe C (some od) := ⟨ha, hz.1, by unfold PySem.W.notCls; rw [hd] <;> rfl, by rw [hz.2]; exact ho⟩
  exact HandSPX.exc_get I1.kIn J T.ga T.gg T.exC (PySem.W.findObj_own T.hdC hno rfl (by rw [hl, hu])) (handed_of ru) ⟨v, H1, I1.tok _, ru, q⟩
section
variable {P : Program} {w : World} {K : PySem.W.Frag} {mg : Str → Option Value} {base : Heap} {x : Str} {st : Stmt} {ps : List Str} {f : Addr} {fd : FuncData}
/-- a def that may raise -/
theorem _root_.Kit.DefAt.okX {N : List Str} {k : Nat} {sp : Sp} (D : Kit.DefAt K mg x st ps f fd) (S : FnScope N ps (defScope st)) (len : ∀ vs H Q E, sp vs H Q E → vs.length = ps.length)
    (hbody : ∀ (cdv : Value) (A : Around) (outer : List Env) (s : Shared) (H : Hp) (vs : List V) (Q : VK) (E : XK), fd.code = cdv → Room k (A.deeper (envOfC x (defScope st) s.heap.objs.size f cdv)) → sp vs H Q E →
      ∃ t, PSs (cxOf (L2.CX P w) P w K mg base N x (defScope st) f cdv A outer s H E) (defBody st) t ∧ t { nx := fun _ H' => Q .non H', rt := Q } (L2.start N vs) H) : FnOk P w K mg base (L2.CX P w) (k + 1) f fd ps sp := by
  obtain ⟨oc, od, dV, kV, doc, pm, an, cdv, ct, osl, rfl, lk, hcd, _, _⟩ := D.F.ex
  exact fn_of lk hcd S len fun A outer s H vs Q E hr h => hbody cdv A outer s H vs Q E rfl hr h
end
/-- a class's function with defaults, as it stands behind the top -/
structure MethDf (K : PySem.W.Frag) (m q : Str) (st : Stmt) (ps : List Str) (dl : List V) (f : Addr) (fd : FuncData) : Prop where
  F : FunD K m q (defArgs st) (defBody st) (defScope st) dl [] f fd
  b : Binds K fd ps []
section
variable {P : Program} {w : World} {K : PySem.W.Frag} {mg : Str → Option Value} {base : Heap} {m q : Str} {st : Stmt} {ps : List Str} {dl : List V} {f : Addr} {fd : FuncData}
theorem MethDf.ok {N : List Str} {k : Nat} {sp : Sp} (D : MethDf K m q st ps dl f fd) (S : FnScope N ps (defScope st)) (len : ∀ vs H Q E, sp vs H Q E → vs.length = ps.length)
    (hbody : ∀ (cdv : Value) (A : Around) (outer : List Env) (s : Shared) (H : Hp) (vs : List V) (Q : VK) (E : XK), fd.code = cdv → Room k (A.deeper (envOfC q (defScope st) s.heap.objs.size f cdv)) → sp vs H Q E →
      ∃ t, PSs (cxOf CX0 P w K mg base N q (defScope st) f cdv A outer s H E).nox (defBody st) t ∧ t { nx := fun _ H' => Q .non H', rt := Q } (L2.start N vs) H) : FnOk P w K mg base CX0 (k + 1) f fd ps sp := by
  obtain ⟨oc, od, dV, kV, doc, pm, an, cdv, ct, osl, rfl, lk, hcd, _, _⟩ := D.F.ex
  exact fn_of lk hcd S len fun A outer s H vs Q E hr hsp => by
    obtain ⟨t, h, q⟩ := hbody cdv A outer s H vs Q E rfl hr hsp
    exact ⟨t, h.nox, q⟩
/-- all values are written -/
theorem binds_full {x qual : Str} {params : Arguments} {body : List Stmt} {scope : Scope} {dvs : List V} (F : FunD K x qual params body scope dvs [] f fd) (hd : dvs ≠ [])
    (h : ∀ (T : Addr) (kV doc pm : Value) (an : Option Addr) (cdv ct : Value) (us its : List Value), us.length = ps.length → its.length = dvs.length →
      ∃ k, bindArgs (PySem.W.fnOf x qual params body scope (.ref T) kV doc pm an cdv ct) ⟨us, []⟩ = seqItems? (.ref T) >>= k ∧ k (some its.toArray) = pure (ps.zip us)) : Binds K fd ps [] := by
  obtain ⟨ds, v, b⟩ := FunD.binds1 (ps := ps) F ps.length dvs.length hd (by omega) fun T kV doc pm an cdv ct us its l1 l2 => by
    obtain ⟨k, e1, e2⟩ := h T kV doc pm an cdv ct us its l1 l2
    exact ⟨k, e1, by rw [e2, ← l2, List.drop_length, List.append_nil]⟩
  rw [List.drop_length] at v
  cases v
  exact b
end
/-- an own exception class with its own __init__ at fI -/
structure OxF (K : PySem.W.Frag) (C fI : Addr) : Prop where
  ox : OexC K C
  ini : PySem.W.findIn K (.ref C) "__init__" = some (some (.ref fI))
  ti : PySem.W.typeIn K (.ref fI) = some (.type "function")
  xf : XfC K C
def oxcB (K : PySem.W.Frag) (C : Addr) : Bool := match K.lookup C with
  | some ⟨.type "type", _, .cls cd, sl⟩ => (match cd.mro, sl.toList with
    | .ref C' :: bm, [_, _, _, _, some (.builtin n), _] => decide (C' = C) && (decide (n = "ValueError.__new__") && (cd.hasDict && (!cd.hasDel && PySem.HandSPX.refsVE bm)))
    | _, _ => false)
  | _ => false
def oxB (K : PySem.W.Frag) (C fI : Addr) : Bool := oxcB K C && (decide (PySem.W.findIn K (.ref C) "__setattr__" = some (some (.builtin "object.__setattr__"))) && (decide (PySem.W.typeIn K (.ref C) = some (.type "type")) && (PySem.W.keepIn K (.ref C) &&
  (decide (PySem.W.findIn K (.ref C) "__init__" = some (some (.ref fI))) && (decide (PySem.W.typeIn K (.ref fI) = some (.type "function")) && xfB K C)))))
theorem oxcB_ok {K : PySem.W.Frag} {C : Addr} (h : oxcB K C = true) : ∃ nm q N bs bm sn sub ab col dd k0 k1 k2 k3 k5, K.lookup C = some (excClassObj nm q C N bs bm true sn sub ab col dd k0 k1 k2 k3 k5 "ValueError.__new__") ∧ PySem.HandSPX.refsVE bm = true := by
  unfold oxcB at h
  split at h
  · rename_i dd cd sl ho
    split at h
    · rename_i C' bm k0 k1 k2 k3 n k5 hm hs
      simp only [Bool.and_eq_true, decide_eq_true_eq, Bool.not_eq_true'] at h
      obtain ⟨rfl, rfl, h1, h2, h3⟩ := h
      obtain ⟨nm, bs, mro, ns, qn, hdc, sn, sb, ab, col, del⟩ := cd
      dsimp only at hm h1 h2
      subst hm h1 h2
      have es : sl = #[k0, k1, k2, k3, some (.builtin "ValueError.__new__"), k5] := by rw [← hs]
      exact ⟨nm, qn, ns, bs, bm, sn, sb, ab, col, dd, k0, k1, k2, k3, k5, by rw [ho, es], h3⟩
    · cases h
  · cases h
theorem oxB_ok {K : PySem.W.Frag} {C fI : Addr} (h : oxB K C fI = true) : OxF K C fI := by
  unfold oxB at h
  simp only [Bool.and_eq_true, decide_eq_true_eq] at h
  obtain ⟨h1, h2, h3, h4, h5, h6, h7⟩ := h
  have xf := xfB_ok h7
  exact ⟨⟨oxcB_ok h1, h2, xf.exC, h3, h4⟩, h5, h6, xf⟩
/-- isinstance of an exception that is kept and bears fields -/
def rIsX (K : PySem.W.Frag) : List V → Hp → VK → Prop := fun xs H Q => (∃ (a C d : Addr) (fs : List (Str × V)) (c : V) (u : Value) (b : Bool), xs = [.ref a, c] ∧ ClsV c u ∧ H a = some (ExK (.ref C) (some d) a) ∧ H d = some (.xd fs) ∧ ExcIs K C ∧ PySem.W.kitOne K (.ref C) u = some b ∧ Q (.bl b) H) ∨ rIsE K xs H Q
section
variable {X : Cx}
theorem call_isX : CallR X (.builtin "isinstance") (rIsX X.K) := by
  intro pins s σ H xs us Q I r h
  rcases h with ⟨a, C, d, fs, c, u, b, rfl, kc, ea, ed, T, eb, q⟩ | h
  · obtain ⟨u1, u2, rfl, r1, r2⟩ := vals2 r
    cases (show u1 = Value.ref a from r1)
    have e2 := kc.eq r2
    subst e2
    obtain ⟨⟨oe, eo, z, vs, dt⟩, _, _⟩ := I.hok a _ ea
    obtain ⟨g, eg⟩ := T.gg
    have hx : ObjOk X.prog X.w H s.heap d (.xd fs) := I.hok d _ ed
    obtain ⟨mA, hns, hr⟩ := hx
    obtain ⟨od, ho, hl⟩ := lookIn_ns hns
    have Z := PySem.W.kitx_exc (K := X.K) (x := a) (C := C) (ox := oe) (od := some od) T.cl T.ga eg T.sb T.kl T.gt T.tk T.mr
    refine PySem.W.kia_one Z I.kIn ⟨eo, z.1, ?_, ?_⟩ eb (fun y => nomatch y) fun tk => ⟨.bl b, H, I.tok tk, rfl, q⟩
    · unfold PySem.W.notCls
      rw [dt]
    · rw [z.2]
      exact ho
  · exact call_isE pins s σ H xs us Q I r h
theorem call_isXK (K : PySem.W.Frag) (h : X.K = K) : CallR X (.builtin "isinstance") (rIsX K) := h ▸ call_isX
end
end Raised

set_option Elab.async false
set_option linter.all false
set_option maxRecDepth 100000
set_option maxHeartbeats 2000000
/-! Two: a try with two clauses that keep; an exception made as a value, also without arguments. -/
namespace Two
open PySem PySem.Spec PyProof.Rows L2 GxR Caught Raised
section
variable {X : Cx} {x n x2 : Str} {c c2 cls : Value} {d : Option Addr} {i : Nat} {body suite suite2 : List Stmt} {st₀ st₂ : Stmt} {np pos pos' np2 pos2' : Pos} {tb : WX → TS} {ts ts2 : Addr → TS} {Wout : WX}
variable {pins : List (Addr × Obj)} {σ : L2.St} {H : Hp} {D : Ends}
/-- the first of two clauses, for an exception that has been noted -/
theorem clause_two {a : Addr} {B : Heap} {t0 t : Shared} (hs : X.stack = X.env :: X.outer) (hf : X.env.frame = some X.env.locals) (hex : X.ex = []) (hN : X.N.Nodup) (hi : X.N[i]? = some n) (hln : X.env.kindOf n = some .local) (hc : Names X x c) (hc2 : Names X x2 c2) (tk : Takes X Wout)
    (hsu : ∀ (a : Addr) (pn : List (Addr × Obj)), PSs (X.suite a pn) (st₀ :: suite) (ts a)) (hsu2 : ∀ (a : Addr) (pn : List (Addr × Obj)), PSs (X.suite a pn) (st₂ :: suite2) (ts2 a))
    (J : Inv X pins σ H t0) (stays : ∀ b o, t0.heap.get? b = some o → b ∉ frs X.stack → B.get? b = some o) (up : t0.heap.UpToSlots t.heap) (os : t.os = t0.os) (ag : AllBare t.gens) (na : H a = none)
    (fl : HandSPX.FlyingZ B (X.env :: X.outer) a (Zc cls d) t.heap) (w : wKeep X.K c i ts (wKeep X.K c2 i ts2 Wout D) D cls d σ H) :
    wpAny (model X.prog X.w) X.A (handleBy (.ref a) X.env [.ExceptHandler (some (.Name x np)) (some n) (st₀ :: suite) pos', .ExceptHandler (some (.Name x2 np2)) (some n) (st₂ :: suite2) pos2']) (SP X pins D) X.xe t := by
  obtain ⟨b, eb, yes, no⟩ := w
  obtain ⟨ob, fs, eo, zo, fo⟩ := fl.there
  have away : a ∉ frs X.stack := by rw [hs]; exact apart_of fl.2.2.1 eo fo
  have aL : a ≠ X.env.locals := fun z => away (by rw [hs]; exact List.mem_filterMap.mpr ⟨X.env, List.mem_cons_self, by rw [hf, z]⟩)
  have aF : a ∉ X.fs := fun m => away (by
    obtain ⟨e, me, q⟩ := List.mem_filterMap.mp m
    rw [hs]
    exact List.mem_filterMap.mpr ⟨e, List.mem_cons_of_mem _ me, q⟩)
  have nt0 : t0.heap.get? a = none := by
    by_cases e : t0.heap.get? a = none
    · exact e
    · obtain ⟨o, eo'⟩ := Option.ne_none_iff_exists'.mp e
      have z := stays a o eo' away
      rw [fl.2.1] at z
      cases z
  have nw := NewAt.of J hex nt0
  have It : Inv X pins σ H t := J.landed stays fl.1 up os ag
  have Is := It.suite eo fo na aL aF
  refine wpAny_handleBy_cons (codeAny_handlers_test ?_) (by intro q; cases q)
  have ask : ∀ {Q : Value → Shared → Prop} {E : Value → Shared → Prop}, Q c t → wpAny (model X.prog X.w) (X.A.mark (some (.ref a))) (eval (.Name x np) X.env) Q E t := fun {Q E} q => by
    obtain ⟨h1, h2, h3 | ⟨h3, h4, h5⟩⟩ := hc
    · exact ld_glob (X := X.suite a ((a, ob) :: (X.pn ++ pins))) Is h1 h3 q h2
    · exact ld_blt (X := X.suite a ((a, ob) :: (X.pn ++ pins))) Is h1 h3 h4 q h5 h2
  have isOf := PySem.W.exm_one (M := model X.prog X.w) It.kIn (fun A Q E s k q => wpAny_typeOf_ref (k _ _ eo) (by rw [zo.1]; exact q)) eb
  refine ask (isOf.here ?_)
  cases b with
  | true =>
    refine codeAny_handlers_suite_as (HandSPX.lands_againZ fl fun h2 fl2 up2 => ?_)
    obtain ⟨ob2, fs2, eo2, zo2, fo2⟩ := fl2.there
    have I2 : Inv X pins σ H { t with heap := h2 } := J.landed stays fl2.1 (up.trans up2) os ag
    have I3 := suiteK (adopt I2 na nw.first aL nw.cells nw.pinned (exK_ok eo2 zo2 fo2)) a
    refine store_ok (X := X.suite a (X.pn ++ pins)) (v := .ref a) I3 hN hi (.inl hln) rfl (fun t2 I4 => ?_) (.inr hln)
    exact wpAny_mono ((hsu a (X.pn ++ pins)).run [] t2 _ _ _ I4 (yes rfl a na)) (fun r t3 h => suite_end J.ok hN hi hln h) fun _ _ z => False.elim z
  | false => exact clause_keep hs hf hex hN hi hln hc2 tk hsu2 J stays up os ag na fl (no rfl)
/-- try: body / except x as n: suite / except x2 as n: suite2 -/
theorem ps_try_two (hs : X.stack = X.env :: X.outer) (hf : X.env.frame = some X.env.locals) (hex : X.ex = []) (hN : X.N.Nodup) (hi : X.N[i]? = some n) (hln : X.env.kindOf n = some .local) (hc : Names X x c) (hc2 : Names X x2 c2) (tk : Takes X Wout)
    (hb : ∀ (W : WX) (pn : List (Addr × Obj)) (xe : Value → Shared → Prop), Takes (X.tr pn xe) W → PSs (X.tr pn xe) body (tb W))
    (hsu : ∀ (a : Addr) (pn : List (Addr × Obj)), PSs (X.suite a pn) (st₀ :: suite) (ts a)) (hsu2 : ∀ (a : Addr) (pn : List (Addr × Obj)), PSs (X.suite a pn) (st₂ :: suite2) (ts2 a)) :
    PS X (.Try body [.ExceptHandler (some (.Name x np)) (some n) (st₀ :: suite) pos', .ExceptHandler (some (.Name x2 np2)) (some n) (st₂ :: suite2) pos2'] [] [] pos) (fun D σ H => tb (wKeep X.K c i ts (wKeep X.K c2 i ts2 Wout D) D) D σ H) := by
  refine ⟨fun pins s σ H D I h => wpAny_Try_except ?_⟩
  have fr : X.A.frames = some (X.env :: X.outer) := by rw [I.ok.frames, hs]
  let catch_ : Value → Shared → Prop := fun e s₁ => wpAny (model X.prog X.w) X.A (noteFrame e X.env) (fun _ s₂ => wpAny (model X.prog X.w) X.A (setFlight e none) (fun _ s₃ =>
    wpAny (model X.prog X.w) X.A (handleBy e X.env [.ExceptHandler (some (.Name x np)) (some n) (st₀ :: suite) pos', .ExceptHandler (some (.Name x2 np2)) (some n) (st₂ :: suite2) pos2']) (SP X pins D) X.xe s₃) X.xe s₂) X.xe s₁
  have took : Takes (X.tr (X.pn ++ pins) catch_) (wKeep X.K c i ts (wKeep X.K c2 i ts2 Wout D) D) := fun u t ⟨a, B, t0, pins', σ', H', cls, d, eu, J, stays, up, sky, na, os, ag, w⟩ => by
    subst eu
    have sky2 : Sky B (X.env :: X.outer) a (Zc cls d) X.env.locals t.heap := by rw [← hs]; exact sky
    exact Sky.land Zc.steady fr hf sky2 fun h3 fl up3 => clause_two (t := { t with heap := h3 }) hs hf hex hN hi hln hc hc2 tk hsu hsu2 (J.ofTry I.ok) stays (up.trans up3) os ag na fl w
  refine wpAny_mono ((hb _ (X.pn ++ pins) catch_ took).run [] s σ H D (I.toTry _) h) (fun r t e => ?_) (fun _ _ e => e)
  cases r with
  | next => obtain ⟨σ1, H1, I1, q⟩ := e; exact wpAny_execs_nil ⟨σ1, H1, I1.ofTry I.ok, q⟩
  | brk => obtain ⟨σ1, H1, I1, q⟩ := e; exact ⟨σ1, H1, I1.ofTry I.ok, q⟩
  | cont => obtain ⟨σ1, H1, I1, q⟩ := e; exact ⟨σ1, H1, I1.ofTry I.ok, q⟩
  | ret u => obtain ⟨y, σ1, H1, I1, ry, q⟩ := e; exact ⟨y, σ1, H1, I1.ofTry I.ok, ry, q⟩
end
/-! ### an exception as a value -/
section
variable {X : Cx} {e : Expr} {es : List Expr} {p pos : Pos}
def tMade (t : L2.St → Hp → XK → Prop) : TE := fun σ H Q => t σ H fun cls d H' => ∀ a, H' a = none → Q (.ref a) (upd H' a (ExK cls d a))
theorem pe_made {t : L2.St → Hp → XK → Prop} (he : PMk X e t) : PE X e (tMade t) := by
  refine ⟨fun pins s σ H Q I h => ?_⟩
  refine wpAny_mono (he pins s σ H _ I h) (fun u s1 hu => ?_) fun _ _ x => x
  obtain ⟨a, oe, vs, sI, H', cls, d, rfl, J, k, hne, ha, hz, hd, h1, na, os, ag, r, q⟩ := hu
  have K1 := J.laidN (t' := s1.toks) (h' := s1.heap) (o := ExK cls d a) k hne na (exK_ok ha hz hd)
  have K2 : Inv X pins σ (upd H' a (ExK cls d a)) s1 := K1.landed (B := s1.heap) (fun b o e _ => e) (fun _ _ e => e) (Heap.UpToSlots.refl _) os ag
  exact ⟨.ref a, _, K2, rfl, q a na⟩
/-- C(): all that is behind self is as written -/
theorem pmk_oex0 {CX : CXT} {x : Str} {C fI : Addr} {k : Nat} {fd : FuncData} {ps : List Str} {sp : Sp} {ds : List Value} {dvs : List V} (T : OexC X.K C) (iC : PySem.W.findIn X.K (.ref C) "__init__" = some (some (.ref fI))) (tI : PySem.W.typeIn X.K (.ref fI) = some (.type "function"))
    (F1 : FnOk X.prog X.w X.K X.mg X.base CX k fI fd ps sp) (hr : Room (k + 1) X.A) (hb : Binds X.K fd ps ds) (hd : Vals dvs ds) (hx : Passes CX X (fun _ _ _ => False)) (hg : Gl X x) (hm : X.mg x = some (.ref C))
    (hdb : (x == ("__debug__" : Str)) = false := by decide) : PMk X (.Call (.Name x p) [] [] pos) (tMkO C sp dvs tNil) := by
  intro pins s σ H Q I h
  obtain ⟨nm, q, N, bs, bm, sn, sub, ab, col, dd, k0, k1, k2, k3, k5, hC, hbm⟩ := T.cls
  refine wpAny_Call_Name_kw (ld_glob I hg hm ?_ hdb)
  refine PySem.W.callWith_K0 I.kIn T.kC ?_
  show wpAny _ _ (call (.ref C) []) _ _ _
  obtain ⟨hz, q1⟩ := h
  obtain ⟨hp, g, dr, tk, os⟩ := s
  have hsz : hp.objs.size ≤ hp.objs.size + 1 := Nat.le_succ _
  have hn : H (hp.objs.size + 1) = none := I.hok.fresh hsz
  have hq := q1 (hp.objs.size + 1) hn
  have kk : ∀ b o, hp.get? b = some o → ((hp.push (PySem.W.kdv_tup [])).push (PySem.HandSPX.excO C hp.objs.size)).get? b = some o := fun b o e => Heap.get?_push_of_some _ (Heap.get?_push_of_some _ e)
  have hget : ((hp.push (PySem.W.kdv_tup [])).push (PySem.HandSPX.excO C hp.objs.size)).get? (hp.objs.size + 1) = some (PySem.HandSPX.excO C hp.objs.size) := by heap_get
  have I2 : Inv X pins σ (upd H (hp.objs.size + 1) (exo (hp.objs.size + 1) C none)) ⟨(hp.push (PySem.W.kdv_tup [])).push (PySem.HandSPX.excO C hp.objs.size), g, dr, tk, os⟩ :=
    I.laid (t' := tk) (a := hp.objs.size + 1) (o := exo (hp.objs.size + 1) C none) (h' := (hp.push (PySem.W.kdv_tup [])).push (PySem.HandSPX.excO C hp.objs.size)) kk hsz (exo_ok hget)
  have r2 : Vals (V.ref (hp.objs.size + 1) :: ([] ++ dvs)) ([Value.ref (hp.objs.size + 1)] ++ ds) := .cons rfl hd
  have hl : (Value.ref (hp.objs.size + 1) :: [] ++ ds).length = ps.length := by
    have e := r2.length
    rw [F1.len _ _ _ _ hq] at e
    exact e.symm
  refine wpAny_call (PySem.HandSPX.call_own F.excBase_ValueError (fun Y => PySem.HandSPX.refsVE_contains Y bm hbm) (I.kIn _ _ hC) (PySem.W.looks_findIn I.kIn iC) (fun self => PySem.W.bind_fn I.kIn self tI) (Nat.zero_le _)
    (codeAny_mono (F1.run _ X.stack _ _ ⟨[Value.ref (hp.objs.size + 1)], []⟩ ([Value.ref (hp.objs.size + 1)] ++ ds) _ _ (fun _ _ _ => False) (hr.make C [] []) (I2.env0.make C [] []) (hb _ [Value.ref (hp.objs.size + 1)] I2.kIn hl) r2 hq) fun r s' hq' => ?_))
  cases r with
  | error er => exact hx pins σ _ _ er s' I2 hq'
  | ok fl =>
    cases fl with
    | ret u =>
      obtain ⟨v, H2, os2, bare2, un2, hok2, rv, ev, d, fs, ea, ed, hd1, q2⟩ := hq'
      subst ev
      obtain ⟨h2, g2, d2, t2, os'⟩ := s'
      exact ⟨rv, mk_end (raises_own T.exC T.tyC) I hsz kk un2 hok2 os2 bare2 ea ed hd1 q2⟩
    | next => exact False.elim hq'
    | brk => exact False.elim hq'
    | cont => exact False.elim hq'
theorem pe_made0 {CX : CXT} {x : Str} {C fI : Addr} {k : Nat} {fd : FuncData} {ps : List Str} {sp : Sp} {dvs : List V} (T : OexC X.K C) (iC : PySem.W.findIn X.K (.ref C) "__init__" = some (some (.ref fI))) (tI : PySem.W.typeIn X.K (.ref fI) = some (.type "function"))
    (F1 : FnOk X.prog X.w X.K X.mg X.base CX k fI fd ps sp) (hr : Room (k + 1) X.A) (hb : ∃ ds, Vals dvs ds ∧ Binds X.K fd ps ds) (hx : Passes CX X (fun _ _ _ => False)) (hg : Gl X x) (hm : X.mg x = some (.ref C))
    (hdb : (x == ("__debug__" : Str)) = false := by decide) : PE X (.Call (.Name x p) [] [] pos) (tMade (tMkO C sp dvs tNil)) := by
  obtain ⟨ds, hd, hb⟩ := hb
  exact pe_made (pmk_oex0 T iC tI F1 hr hb hd hx hg hm hdb)
end
/-- one value is left out, the last one is as written -/
theorem binds_less {K : PySem.W.Frag} {x qual : Str} {params : Arguments} {body : List Stmt} {scope : Scope} {dvs : List V} {f : Addr} {fd : FuncData} {ps : List Str} (F : FunD K x qual params body scope dvs [] f fd) (hd : dvs ≠ []) (hl : dvs.length ≤ ps.length)
    (h : ∀ (T : Addr) (kV doc pm : Value) (an : Option Addr) (cdv ct : Value) (us its : List Value), us.length = ps.length - dvs.length → its.length = dvs.length →
      ∃ k, bindArgs (PySem.W.fnOf x qual params body scope (.ref T) kV doc pm an cdv ct) ⟨us, []⟩ = seqItems? (.ref T) >>= k ∧ k (some its.toArray) = pure (ps.zip (us ++ its))) : ∃ ds, Vals dvs ds ∧ Binds K fd ps ds := by
  obtain ⟨ds, v, b⟩ := FunD.binds1 (ps := ps) F (ps.length - dvs.length) 0 hd (by omega) fun T kV doc pm an cdv ct us its l1 l2 => by
    obtain ⟨k, e1, e2⟩ := h T kV doc pm an cdv ct us its l1 l2
    exact ⟨k, e1, by rw [e2, List.drop_zero]⟩
  rw [List.drop_zero] at v
  exact ⟨ds, v, b⟩
end Two

set_option Elab.async false
set_option linter.all false
set_option maxRecDepth 100000
set_option maxHeartbeats 2000000
/-! Picks: comprehensions that pick, told by places; which refusal a kept exception is. -/
namespace Picks
open PySem PySem.Spec PyProof.Rows L2 GxR GX Tree Kit Data Loops Comps Caught Raised Enum
/-- [f(x) for x in J if p(x)], J over anything, the items no new things -/
theorem lc_pickV {g : TG} {tt : TT} {te : TE} {vs : List Nat} {σ : L2.St} {H : Hp} {Q : VK} {J : It} {N : Nat} {f : Nat → V} (It : ItAt J [] H N f) (hN : N < sizeLine) (p : Nat → Bool) (F : Nat → V)
    (step : ∀ i H', i < N → Kx [] H H' → ∀ (R : V → Hp → Prop) (R0 : Hp → Prop), (p i = true → ∀ H'', Kx [] H' H'' → R (F i) H'') → (p i = false → ∀ H'', Kx [] H' H'' → R0 H'') →
      g (f i) (wipe σ vs) H' fun σ2 H2 => wipe σ2 vs = wipe σ vs ∧ tt σ2 H2 fun b H3 => if b = true then te σ2 H3 R else R0 H3)
    (q : ∀ D H', Kx [] H H' → H D = none → H' D = some (.lst (((List.range N).filter p).map F)) → Q (.ref D) H') : CompG J g tt te vs σ H Q := by
  intro D hD
  refine lc_gen (B := []) It hN hD (A := fun i acc H' => acc = ((List.range i).filter p).map F) rfl (fun i H' acc hi k hd hacc R R0 hR hR0 => ?_) fun acc H' k hd hacc => ?_
  · subst hacc
    refine step i H' hi k R R0 (fun c H'' k2 => hR (F i) H'' (k.trans k2) (k2.lst (by simp) hd) ?_) (fun c H'' k2 => hR0 H'' (k.trans k2) (k2.lst (by simp) hd) ?_)
    · rw [List.range_succ, List.filter_append, List.map_append, show [i].filter p = [i] by simp [c]]
      rfl
    · rw [List.range_succ, List.filter_append, show [i].filter p = [] by simp [c], List.append_nil]
  · subst hacc
    exact q D H' k hD hd
/-! ### which refusal -/
/-- the refusals' names, in the order of the errors' file -/
def NM : List String := ["NoDay", "NoPlan", "NoNumbers", "NoRests", "NoLost", "NoBlock", "NoWorth", "NoHour", "TooMany", "DayOver", "NoName", "NoPlace", "NoRow", "NoText"]
/-- at a: a kept exception of the class at C -/
def Kept (C : Addr) (H : Hp) (a : Addr) : Prop := (∃ (d : Addr) (fs : List (Str × V)), H a = some (ExK (.ref C) (some d) a) ∧ H d = some (.xd fs)) ∨ H a = some (ExK (.ref C) none a)
theorem Kept.kx {C : Addr} {H H' : Hp} {a : Addr} (h : Kept C H a) (k : Kx [] H H') : Kept C H' a := by
  rcases h with ⟨d, fs, h1, h2⟩ | h
  · exact .inl ⟨d, fs, k.at (by simp) h1 (fun _ z => by cases z), k.at (by simp) h2 (fun _ z => by cases z)⟩
  · exact .inr (k.at (by simp) h fun _ z => by cases z)
/-- what the written part says of the class named nm -/
structure KIs (K : PySem.W.Frag) (cs : String → Addr) (nm : String) : Prop where
  ex : ExcIs K (cs nm)
  ve : PySem.W.kitOne K (.ref (cs nm)) (.type "ValueError") = some true
  own : ∀ x ∈ NM, PySem.W.kitOne K (.ref (cs nm)) (.ref (cs x)) = some (decide (x = nm))
section
variable {K : PySem.W.Frag} {cs : String → Addr} {nm : String} {H : Hp} {a : Addr} {Q : VK}
theorem is_gen {c : V} {u : Value} {b : Bool} (h : Kept (cs nm) H a) (W : ExcIs K (cs nm)) (cl : ClsV c u) (e : PySem.W.kitOne K (.ref (cs nm)) u = some b) (q : Q (.bl b) H) : rIsX K [.ref a, c] H Q := by
  rcases h with ⟨d, fs, h1, h2⟩ | h
  · exact .inl ⟨a, cs nm, d, fs, c, u, b, rfl, cl, h1, h2, W, e, q⟩
  · exact .inr (.inl ⟨a, cs nm, c, u, b, rfl, cl, h, W, e, q⟩)
theorem is_own (x : String) (h : Kept (cs nm) H a) (W : KIs K cs nm) (hx : x ∈ NM) (q : Q (.bl (decide (x = nm))) H) : rIsX K [.ref a, .ref (cs x)] H Q := is_gen h W.ex (.own _) (W.own x hx) q
theorem is_ve (h : Kept (cs nm) H a) (W : KIs K cs nm) (q : Q (.bl true) H) : rIsX K [.ref a, .ty "ValueError"] H Q := is_gen h W.ex (.ty _) W.ve q
end
end Picks

set_option Elab.async false
set_option linter.all false
set_option maxRecDepth 100000
set_option maxHeartbeats 4000000
/-! Sets2: set(l) of a long list of few different ints. -/
namespace Sets2
open PySem PySem.Spec PyProof.Rows L2 Sets
/-- ns has bb different ones at most -/
def Few (ns : List Int) (bb : Nat) : Prop := ∀ L : List Int, L.Nodup → (∀ j ∈ L, j ∈ ns) → L.length ≤ bb
section
variable {P : Program} {w : World} {A : Around} {E : Value → Shared → Prop} {s : Shared}
theorem set_update_few {I : Addr} {fp wr : List Addr} {G : Array GenState → Array GenState → Prop} {n : Nat} {Pv : Nat → Value → Prop} {St : Nat → Shared → Prop} {R : Result → Shared → Prop}
    (W : WalksS P w A.in1 I fp wr G n Pv St) (S : Addr) (apart : S ∉ fp) (ns : List Int) (hn : n = ns.length) {bb : Nat} (few : Few ns bb) (hb : bb + 1 < scanBound) (each : ∀ i v, Pv i v → ∃ k t, ns[i]? = some k ∧ v = .int k t) :
    ∀ (m i : Nat) (s : Shared), n - i = m → i ≤ n → St i s → (∃ L : List Int, L.Nodup ∧ (∀ j ∈ L, j ∈ ns.take i) ∧ SetR w s.heap S (fun j => decide (j ∈ ns.take i)) L.length) →
      (∀ s' c, Moved (S :: wr) G s s' → c ≤ bb → SetR w s'.heap S (fun j => decide (j ∈ ns)) c → R (.ok (.ret .none)) s') →
      codeAny (model P w) A (.builtin "set.update.loop" ⟨[.ref S, .ref I], []⟩) R s := by
  have apart' : S ∉ wr := fun h => apart (W.sub _ h)
  have more : ∀ b ∈ wr, b ∈ S :: wr := fun b z => List.mem_cons_of_mem _ z
  intro m
  induction m with
  | zero =>
    intro i s em hi st ⟨L, nd, sub, hS⟩ hR
    obtain rfl : i = n := by omega
    refine codeAny_builtin F.entry_set_update_loop ?_
    rw [Around.under_plainId F.plain_set_update_loop _]
    show wpAny _ A.in1 (pyNext (.ref I) >>= _) _ _ s
    refine wpAny_bind (W.done s _ _ st fun s' mv => ?_)
    show wpAny _ A.in1 (ret Value.none) _ _ s'
    have e : ns.take i = ns := List.take_of_length_le (by omega)
    rw [e] at hS sub
    exact wpAny_pure (hR s' _ (mv.mono more) (few L nd sub) (hS.at fun o z => mv.heap S o apart' z))
  | succ m ih =>
    intro i s em hi st ⟨L, nd, sub, hS⟩ hR
    have lt : i < n := by omega
    refine codeAny_builtin F.entry_set_update_loop ?_
    rw [Around.under_plainId F.plain_set_update_loop _]
    show wpAny _ A.in1 (pyNext (.ref I) >>= _) _ _ s
    refine wpAny_bind (W.item i s _ _ lt st fun v s' pv st' mv => ?_)
    obtain ⟨z, t, ez, rfl⟩ := each i v pv
    have hS' : SetR w s'.heap S (fun j => decide (j ∈ ns.take i)) L.length := hS.at fun o q => mv.heap S o apart' q
    have le : L.length ≤ bb := few L nd fun j hj => List.mem_of_mem_take (sub j hj)
    show wpAny _ A.in1 (holding [Value.int z t] (setAdd S (.int z t)) >>= _) _ _ s'
    refine wpAny_bind (wpAny_holding ?_)
    unfold setAdd
    refine wpAny_holding ?_
    refine wpAny_bind ((intKind P w).pyHash (k := z) (intKind_is _ _ _ _) ?_)
    refine setR_add_hashed (s := { s' with toks := s'.toks + 1 }) hS' (by omega) fun h' same hS2 => ?_
    have hS3 : SetR w h' S (fun j => decide (j ∈ ns.take (i + 1))) (if decide (z ∈ ns.take i) = true then L.length else L.length + 1) := hS2.congr fun j => by
      rw [List.take_add_one, ez]
      simp [List.mem_append]
    have mem1 : ∀ {j : Int}, j ∈ ns.take i → j ∈ ns.take (i + 1) := fun {j} q => by
      rw [List.take_add_one]
      exact List.mem_append_left _ q
    have next : ∃ L' : List Int, L'.Nodup ∧ (∀ j ∈ L', j ∈ ns.take (i + 1)) ∧ SetR w h' S (fun j => decide (j ∈ ns.take (i + 1))) L'.length := by
      by_cases c : z ∈ ns.take i
      · rw [if_pos (decide_eq_true c)] at hS3
        exact ⟨L, nd, fun j hj => mem1 (sub j hj), hS3⟩
      · rw [if_neg (by simpa using c)] at hS3
        refine ⟨z :: L, List.nodup_cons.mpr ⟨fun q => c (sub z q), nd⟩, fun j hj => ?_, hS3⟩
        rcases List.mem_cons.mp hj with rfl | q
        · rw [List.take_add_one, ez]
          simp
        · exact mem1 (sub j q)
    refine wpAny_pure ⟨plainId_quiet F.plain_set_update_loop _, ih (i + 1) _ (by omega) lt (W.frame _ s' _ _ st' (Nat.le_succ _) fun b hb o e => ?_) next fun s'' c2 mv2 le2 hS4 => ?_⟩
    · rw [same.2 b (fun h : b = S => apart (by rw [← h]; exact hb))]; exact e
    · refine hR s'' c2 (Moved.trans W.gtrans ((mv.mono more).then_heap (Nat.le_succ _) fun b o hb e => ?_) mv2) le2 hS4
      rw [same.2 b (fun h : b = S => hb (by rw [h]; exact List.mem_cons_self))]; exact e
theorem set_of_few {l : Addr} {items : Array Value} (ns : List Int) {bb : Nat} (few : Few ns bb) {Q : Value → Shared → Prop} (hh : A.handled = none) (hl : s.heap.IsList l items) (hit : IntsAre items.toList ns) (hb : bb + 1 < scanBound)
    (h : ∀ (h' : Heap) (tk c : Nat), SetR w h' s.heap.objs.size (fun j => decide (j ∈ ns)) c → c ≤ bb → (∀ b o, s.heap.get? b = some o → h'.get? b = some o) → Q (.ref s.heap.objs.size) { s with heap := h', toks := tk }) :
    wpAny (model P w) A (call (.type "set") [.ref l]) Q E s := by
  have hisz : items.size = ns.length := by simpa using hit.length
  obtain ⟨c, tl, hmro⟩ := F.called_set.mro
  have hmade := F.called_set.made
  have hsub := F.called_set.sub
  refine wpAny_call (codeAny_of_tree ?_)
  show wpAny _ _ (callAny (.type "set") _) _ _ _
  refine wpAny_pure ⟨Code.quiet_builtin _ (by decide +kernel), codeAny_builtin F.entry_type_call ?_⟩
  rw [Around.under_plain (weight_type_call_type "set" [.ref l] []) rfl]
  have h1 := F.called_set.notType
  have h2 := F.called_set.canCreate
  have hct := F.typeCall_set_1 (.ref l)
  repeat (any_goals (first | assumption | wp_step))
  have new := code_set_led1 (P := P) (w := w) (A := A.in1) (s := s) (.ref l) (E := E) (Q₁ := fun obj s₁ => obj = .ref s.heap.objs.size ∧ s₁ = { s with heap := s.heap.push (soO w) }) ⟨rfl, rfl⟩
  refine codeAny_mono new fun r s₁ hr => ?_
  match r, hr with
  | .error e, hr => exact hr
  | .ok .next, hr => exact hr.elim
  | .ok .brk, hr => exact hr.elim
  | .ok .cont, hr => exact hr.elim
  | .ok (.ret obj), hr =>
    obtain ⟨rfl, rfl⟩ := hr
    have hS : (s.heap.push (soO w)).get? s.heap.objs.size = some (soO w) := Heap.get?_push_size _ rfl
    have hT : Shared.TypeIs { s with heap := s.heap.push (soO w) } (.ref s.heap.objs.size) "set" := ⟨_, hS, rfl⟩
    have hli := F.called_set.init.lookup
    have hbi := F.called_set.init.bind (.ref s.heap.objs.size)
    repeat (any_goals (first | assumption | wp_step))
    refine codeAny_mono (codeAny_call_builtin (R := wants (fun r s₂ => r = .none ∧ ∃ h' tk c, s₂ = { s with heap := h', toks := tk } ∧ SetR w h' s.heap.objs.size (fun j => decide (j ∈ ns)) c ∧ c ≤ bb ∧
        (∀ b o, s.heap.get? b = some o → h'.get? b = some o)) E) F.called_set.init.plain F.entry_set_init (check_set_init_1 hT ?_)) fun r₂ s₂ hr₂ => ?_
    · obtain ⟨ol, hol, hcl, nl, hdl⟩ := hl
      obtain ⟨ocls, odict, odata, oslots⟩ := ol
      simp only at hcl hdl
      subst hcl; subst hdl
      have hol' : (s.heap.push (soO w)).get? l = some { cls := .type "list", dict := odict, data := .seq items nl, slots := oslots } := Heap.get?_push_of_some _ hol
      have hsls := F.sub_list_set
      have hslf := F.sub_list_frozenset
      have hne : (Value.type "list" == Value.type "dict") = false := by decide
      have hl1 : (s.heap.push (soO w)).IsList l items := ⟨_, hol', rfl, nl, rfl⟩
      unfold Builtin.«set.__init__» noKeywords Builtin.Frozenset.updateFrom
      generalize hPI : pyIter = PI
      wp_walk
      subst hPI
      refine wpAny_pyIter_list hl1 ?_
      refine wpAny_bind (wpAny_runValue ?_)
      have hlS : l < s.heap.objs.size := Heap.lt_size hol
      have sz1 : (s.heap.push (soO w)).objs.size = s.heap.objs.size + 1 := Heap.size_push ..
      have hneI : l ≠ (s.heap.push (soO w)).objs.size := by rw [sz1]; exact Nat.ne_of_lt (Nat.lt_succ_of_lt hlS)
      have hSf : s.heap.objs.size ∉ [(s.heap.push (soO w)).objs.size, l] := fun hm => by
        rcases List.mem_cons.mp hm with e | hm
        · rw [sz1] at e; exact absurd e (Nat.ne_of_lt (Nat.lt_succ_self _))
        · rcases List.mem_cons.mp hm with e | hm
          · exact absurd e (Nat.ne_of_gt hlS)
          · cases hm
      have hval : ∀ (i : Nat) (v : Value), items[i]? = some v → ∃ k t, ns[i]? = some k ∧ v = .int k t := fun i v hv => by
        have hi : i < ns.length := by rw [← hisz]; exact (Array.getElem?_eq_some_iff.mp hv).1
        obtain ⟨t, e⟩ := PyProof.Rows.IntsAre.int_at hit i v (by rw [Array.getElem?_toList]; exact hv)
        exact ⟨ns[i], t, List.getElem?_eq_getElem hi, by rw [e, List.getD_eq_getElem?_getD, List.getElem?_eq_getElem hi]; rfl⟩
      have hh3 : A.in1.in1.in1.handled = none := hh
      refine set_update_few ((Walks.list hh3 _ l hneI items).toS) s.heap.objs.size hSf ns hisz few hb hval (items.size - 0) 0 _ (by omega) (Nat.zero_le _)
        ⟨⟨_, Heap.get?_push_size _ rfl, rfl, rfl⟩, (hl1.push _)⟩ ⟨[], .nil, fun _ z => (nomatch z), setR_new_at (Heap.get?_push_of_some _ hS)⟩ fun s' c' hm hc' hS' => ?_
      obtain ⟨h', g2, d', tk', os'⟩ := s'
      obtain rfl : g2 = s.gens := hm.gens
      obtain rfl : d' = s.drawn := hm.drawn
      obtain rfl : os' = s.os := hm.os
      show wpAny _ _ _ _ _ _
      refine wpAny_pure ?_
      show wpAny _ _ (ret Value.none) _ _ _
      refine wpAny_pure ⟨rfl, h', tk', c', rfl, hS', hc', fun b o e => ?_⟩
      have hb0 : b < s.heap.objs.size := Heap.lt_size e
      refine hm.heap b o (fun hm => ?_) (Heap.get?_push_of_some _ (Heap.get?_push_of_some _ e))
      rcases List.mem_cons.mp hm with e | hm
      · exact absurd e (Nat.ne_of_lt hb0)
      · rcases List.mem_cons.mp hm with e | hm
        · rw [sz1] at e; exact absurd e (Nat.ne_of_lt (Nat.lt_succ_of_lt hb0))
        · cases hm
    · match r₂, hr₂ with
      | .error e, hr₂ => exact hr₂
      | .ok .next, hr₂ => exact hr₂.elim
      | .ok .brk, hr₂ => exact hr₂.elim
      | .ok .cont, hr₂ => exact hr₂.elim
      | .ok (.ret r), hr₂ =>
        obtain ⟨rfl, h', tk, cc, rfl, hS', hc', hk'⟩ := hr₂
        repeat (any_goals (first | assumption | wp_step))
        exact h _ _ _ hS' hc' hk'
end
section
variable {X : Cx}
/-- set(l), l a list of few different ints -/
def rSetF (w : World) : List V → Hp → VK → Prop := fun xs H Q => ∃ (a : Addr) (ns : List Int), xs = [.ref a] ∧ H a = some (.lst (ns.map V.int)) ∧ Few ns 60 ∧
  ∀ p c, c ≤ 60 → H p = none → Q (.ref p) (upd H p (SetO w p (fun j => decide (j ∈ ns)) c))
theorem call_setF (w : World) (hw : X.w = w) (hc : X.calm = true) : CallR X (.type "set") (rSetF w) := by
  subst hw
  intro pins s σ H vs us Q I r h
  obtain ⟨a, ns, rfl, ha, hz, q⟩ := h
  rw [Vals.ref1 r]
  obtain ⟨_, its, n, rv, e⟩ := I.hok a _ ha
  refine set_of_few ns hz (I.ok.hd hc) ⟨_, e, rfl, n, rfl⟩ (by simpa using ints_of_vals rv) (by unfold scanBound; omega) fun h' tk c R hle k => ?_
  have hn : H s.heap.objs.size = none := I.hok.fresh (Nat.le_refl _)
  exact ⟨.ref s.heap.objs.size, _, I.laid (t' := tk) k (Nat.le_refl _) (setO_new R), rfl, q _ c hle hn⟩
end
theorem few_range {n : Nat} {ns : List Int} (h : ∀ j ∈ ns, 0 ≤ j ∧ j < n) : Few ns n := by
  intro L nd sub
  have key : ∀ (m : Nat) (L : List Int), L.Nodup → (∀ j ∈ L, 0 ≤ j ∧ j < m) → L.length ≤ m := by
    intro m
    induction m with
    | zero =>
      intro L _ h
      cases L with
      | nil => exact Nat.le_refl _
      | cons a r => have := h a (by simp); omega
    | succ m ih =>
      intro L nd h
      have h1 := ih (L.erase (m : Int)) (nd.erase _) fun j hj => by
        have h2 := h j (List.mem_of_mem_erase hj)
        have h3 : j ≠ (m : Int) := fun z => by
          subst z
          exact nd.not_mem_erase hj
        omega
      have h2 : L.length ≤ (L.erase (m : Int)).length + 1 := by
        by_cases c : (m : Int) ∈ L
        · rw [List.length_erase_of_mem c]; omega
        · rw [List.erase_of_not_mem c]; omega
      omega
  exact key n L nd fun j hj => h j (sub j hj)
end Sets2

set_option Elab.async false
set_option linter.all false
set_option maxRecDepth 100000
set_option maxHeartbeats 4000000
/-! MixSets: sets whose members are things of a family that is compared by content (tuples of ints and texts). -/
namespace MixSets
open PySem PySem.Spec PyProof.Rows L2 Sets
/-- things of content κ, each at an address: how they are hashed and compared -/
structure Fam (P : Program) (w : World) (κ : Type) [DecidableEq κ] where
  is : Heap → κ → Addr → Prop
  η : κ → Int
  tk : κ → Nat
  same : ∀ {A : Around} {E : Value → Shared → Prop} {s : Shared} {x y : κ} {a b : Addr} {Q : Bool → Shared → Prop}, A.units < cLine → is s.heap x a → is s.heap y b → Q (decide (x = y)) s → wpAny (model P w) A (eqBool (.ref a) (.ref b)) Q E s
  seen : ∀ {A : Around} {E : Value → Shared → Prop} {s : Shared} {x : κ} {a : Addr} {ys : List Value} {Q : Bool → Shared → Prop}, is s.heap x a → (∀ y ∈ ys, ∃ k b, y = Value.ref b ∧ is s.heap k b) → Q false s → wpAny (model P w) A (searchCouldBeSeen (.ref a) ys) Q E s
  byv : ∀ {A : Around} {E : Value → Shared → Prop} {s : Shared} {x : κ} {a : Addr} {Q : Bool → Shared → Prop}, is s.heap x a → (∀ b, Q b s) → wpAny (model P w) A (hashByValue 8 (.ref a)) Q E s
  hash : ∀ {A : Around} {E : Value → Shared → Prop} {s : Shared} {x : κ} {a : Addr} {Q : Int → Shared → Prop}, A.units < cLine → is s.heap x a → Q (η x) { s with toks := s.toks + tk x } → wpAny (model P w) A (pyHash (.ref a)) Q E s
  stay : ∀ {h h' : Heap} {x : κ} {a b : Addr} {o : Obj} {es : Array (Int × Value)} {ep : Nat} {t : SetTable}, is h x b → h.get? a = some o → o.data = .set es ep t → Heap.SameBut a h h' → is h' x b
  keep : ∀ {h h' : Heap} {x : κ} {b : Addr}, is h x b → (∀ c o, h.get? c = some o → h'.get? c = some o) → is h' x b
section
variable {P : Program} {w : World} {κ : Type} [DecidableEq κ] {Fm : Fam P w κ} {A : Around} {E : Value → Shared → Prop} {s : Shared}
abbrev lines (Fm : Fam P w κ) (L : List (Addr × κ)) : List (Int × Value) := L.map fun p => (Fm.η p.2, Value.ref p.1)
abbrev hashes (Fm : Fam P w κ) (L : List (Addr × κ)) : List Int := L.map fun p => Fm.η p.2
/-- what stands at a, its members aside -/
structure Bare (Fm : Fam P w κ) (h : Heap) (a : Addr) (L : List (Addr × κ)) (es : Array (Int × Value)) (ep : Nat) (t : SetTable) : Prop where
  ob : ∃ o, h.get? a = some o ∧ o.ExactSet ∧ o.data = .set es ep t
  li : es.toList = lines Fm L
  tab : TabOk t (hashes Fm L)
  nd : (L.map (·.2)).Nodup
  led : w.params.followText "set-order" = true ∨ t.led = true
  room : L.length * 5 < t.mask * 3
  few : L.length < 64
def Mem (Fm : Fam P w κ) (h : Heap) (L : List (Addr × κ)) : Prop := ∀ p ∈ L, Fm.is h p.2 p.1
variable {a : Addr} {L : List (Addr × κ)} {es : Array (Int × Value)} {ep : Nat} {t : SetTable}
theorem size_of (h : es.toList = lines Fm L) : es.size = L.length := by
  rw [← Array.length_toList, h, List.length_map]
theorem Bare.ok (R : Bare Fm s.heap a L es ep t) : t.fits es.size = true := by
  have e1 := R.tab.sz
  have e2 := size_of R.li
  have e3 := R.room
  rw [List.length_map] at e1
  unfold SetTable.fits SetTable.fill
  rw [R.tab.dm, Bool.and_eq_true, beq_iff_eq, decide_eq_true_eq]
  exact ⟨by show t.place.size = es.size; omega, by show t.place.size + 0 ≤ t.mask; omega⟩
theorem Bare.line (R : Bare Fm s.heap a L es ep t) {i : Nat} {p : Addr × κ} (h : L[i]? = some p) : es[i]? = some (Fm.η p.2, Value.ref p.1) := by
  rw [← Array.getElem?_toList, R.li, List.getElem?_map, h]
  rfl
/-- where the way of a hash begins -/
abbrev road (m : Nat) (h : Int) : SetTable.Probe := runAt m (SetTable.bits h % (m + 1)) (SetTable.bits h)
theorem clean (m : Nat) (h : Int) (c : Nat) : (nth m (road m h) c).dummy = none := by
  have go : ∀ (n : Nat) (p : SetTable.Probe), p.dummy = none → (nth m p n).dummy = none := by
    intro n
    induction n with
    | zero => exact fun p z => z
    | succ n ih => exact fun p z => ih (adv m p) (by unfold adv; split <;> exact z)
  exact go c _ rfl
theorem onward (m : Nat) (h : Int) (c q : Nat) : nth m (nth m (road m h) c) q = nth m (road m h) (c + q) := (nth_add m c _ q).symm
theorem onwardJ (m : Nat) (h : Int) (c q : Nat) : (nth m (nth m (road m h) c) q).j = way m h (c + q) := congrArg SetTable.Probe.j (onward m h c q)
theorem looks (R : Bare Fm s.heap a L es ep t) (M : Mem Fm s.heap L) {x : Addr} {k : κ} (hx : Fm.is s.heap k x) (hu : A.units < cLine) {K : Nat} (lt : K < 10 * SetTable.turns t.mask)
    (free : way t.mask (Fm.η k) K ∉ t.place.toList) (full : ∀ c, c < K → way t.mask (Fm.η k) c ∈ t.place.toList) {Q : SetFound → Shared → Prop}
    (there : k ∈ L.map (·.2) → Q (.there none) s) (new : k ∉ L.map (·.2) → Q (.free (way t.mask (Fm.η k) K) false) s) (f : Nat) :
    ∀ (c : Nat) (stand : Option SetTable.Probe), stand.getD (t.probeStart (Fm.η k)) = nth t.mask (road t.mask (Fm.η k)) c → c ≤ K → K - c < f →
      (∀ (i : Nat) p, L[i]? = some p → p.2 = k → ∃ c', c ≤ c' ∧ c' < K ∧ t.place.toList[i]? = some (way t.mask (Fm.η k) c')) →
      wpAny (model P w) A (setSearchFrom a (.ref x) (Fm.η k) true f stand) Q E s := by
  obtain ⟨o, ho, hex, hd⟩ := R.ob
  have gone : ¬ t.gaveWay = true := by unfold SetTable.gaveWay; rw [mask_odd R.tab.mok]; decide
  induction f with
  | zero => exact fun c stand _ _ z _ => absurd z (Nat.not_lt_zero _)
  | succ f ih =>
  intro c stand st le bound left
  rw [setSearchFrom_succ]
  refine wpAny_bind (wpAny_setState_of ho hd R.ok ?_)
  dsimp only
  refine wp_if_neg gone ?_
  try refine wpAny_bind (wpAny_pure ?_)
  have at_ : ∀ (i : Nat) p, L[i]? = some p → (fun i => (es[i]?.map (·.1)).getD 0) i = Fm.η p.2 := fun i p z => by
    show (es[i]?.map (·.1)).getD 0 = _
    rw [R.line z]
    rfl
  have told := go_spec t R.tab.ris R.tab.dm (fun i => (es[i]?.map (·.1)).getD 0) (Fm.η k) (10 * SetTable.turns t.mask) (K - c) _ (clean t.mask (Fm.η k) c) (by omega)
    (fun q z => by rw [onwardJ]; exact full (c + q) (by omega)) (by rw [onwardJ, show c + (K - c) = K by omega]; exact free)
  rcases told with ⟨q, i, hq, hi, hh, no, pr⟩ | ⟨no, pr⟩
  · have pr' : t.probe (fun i => (es[i]?.map (·.1)).getD 0) (Fm.η k) (stand.getD (t.probeStart (Fm.η k))) = some (.candidate (way t.mask (Fm.η k) (c + q)) i (nth t.mask (road t.mask (Fm.η k)) (c + (q + 1)))) := by
      rw [st, ← onwardJ, ← onward]
      exact pr
    rw [pr']
    dsimp only
    rw [onwardJ] at hi
    have il : i < L.length := by
      have h1 := (List.getElem?_eq_some_iff.mp hi).1
      have h2 := R.tab.sz
      rw [List.length_map] at h2
      rw [Array.length_toList] at h1
      omega
    obtain ⟨p, hp⟩ : ∃ p, L[i]? = some p := ⟨_, List.getElem?_eq_getElem il⟩
    have pm := List.mem_of_getElem? hp
    have slot := slot_live R.tab.ris hi
    have rest : wpAny (model P w) A (searchRest a (.ref x) (Fm.η k) true f es t (way t.mask (Fm.η k) (c + q)) i (nth t.mask (road t.mask (Fm.η k)) (c + (q + 1)))) Q E s := by
      unfold searchRest
      rw [R.line hp]
      dsimp only
      refine wpAny_bind (wpAny_holding (Fm.same hu (M p pm) hx ?_))
      refine wpAny_bind (wpAny_setState_of ho hd R.ok ?_)
      dsimp only
      by_cases e : p.2 = k
      · exact wp_if_pos (by simp [e]) (wpAny_pure (there (List.mem_map.mpr ⟨p, pm, e⟩)))
      refine wp_if_neg (by simp [e]) ?_
      try refine wpAny_bind (wpAny_pure ?_)
      rw [sameMem]
      dsimp only
      simp only [if_true, slot, R.line hp]
      refine wpAny_bind (wpAny_isSame_ref_self (wpAny_bind (wpAny_pure ?_)))
      simp only [if_true]
      refine wp_if_neg (by simp [e]) ?_
      refine ih (c + (q + 1)) _ rfl (by omega) (by omega) fun i0 p0 h0 hk => ?_
      obtain ⟨c', a1, a2, a3⟩ := left i0 p0 h0 hk
      refine ⟨c', Nat.lt_of_not_le fun z => ?_, a2, a3⟩
      have z : c' ≤ c + q := z
      by_cases eq : c' = c + q
      · rw [eq] at a3
        have s0 := slot_live R.tab.ris a3
        rw [slot] at s0
        injection s0 with s0
        rw [← s0, hp] at h0
        exact e ((congrArg Prod.snd (Option.some.inj h0)).trans hk)
      · exact no (c' - c) i0 (by omega) (by rw [onwardJ, show c + (c' - c) = c' by omega]; exact a3) ((at_ i0 p0 h0).trans (congrArg Fm.η hk))
    by_cases led : t.led = true
    · refine wp_if_neg (by simp [led]) ?_
      try refine wpAny_bind (wpAny_pure ?_)
      exact rest
    · refine wp_if_pos (by simp [led]) (wpAny_bind (Fm.seen hx (fun y hy => ?_) ?_))
      · obtain ⟨z, hz, ez⟩ := List.mem_map.mp hy
        have z1 : z ∈ es ∧ z.1 = Fm.η k := by simpa using hz
        have z2 : z ∈ es.toList := by simpa using z1.1
        rw [R.li] at z2
        obtain ⟨p2, m2, e2⟩ := List.mem_map.mp z2
        exact ⟨p2.2, p2.1, by rw [← ez, ← e2], M p2 m2⟩
      · refine wp_if_neg (by decide) ?_
        try refine wpAny_bind (wpAny_pure ?_)
        exact rest
  · have pr' : t.probe (fun i => (es[i]?.map (·.1)).getD 0) (Fm.η k) (stand.getD (t.probeStart (Fm.η k))) = some (.empty (way t.mask (Fm.η k) K) none) := by
      rw [st, show way t.mask (Fm.η k) K = (nth t.mask (nth t.mask (road t.mask (Fm.η k)) c) (K - c)).j by rw [onwardJ, show c + (K - c) = K by omega]]
      exact pr
    rw [pr']
    dsimp only
    refine wpAny_pure (new fun m => ?_)
    obtain ⟨p0, h0, hk⟩ := List.mem_map.mp m
    obtain ⟨i0, hi0, e0⟩ := List.getElem_of_mem h0
    have h00 : L[i0]? = some p0 := by rw [List.getElem?_eq_getElem hi0, e0]
    obtain ⟨c', a1, a2, a3⟩ := left i0 p0 h00 hk
    exact no (c' - c) i0 (by omega) (by rw [onwardJ, show c + (c' - c) = c' by omega]; exact a3) ((at_ i0 p0 h00).trans (congrArg Fm.η hk))
theorem look (R : Bare Fm s.heap a L es ep t) (M : Mem Fm s.heap L) {x : Addr} {k : κ} (hx : Fm.is s.heap k x) (hu : A.units < cLine) {Q : SetFound → Shared → Prop} (there : k ∈ L.map (·.2) → Q (.there none) s)
    (new : ∀ K, k ∉ L.map (·.2) → way t.mask (Fm.η k) K ∉ t.place.toList → (∀ c, c < K → way t.mask (Fm.η k) c ∈ t.place.toList) → Q (.free (way t.mask (Fm.η k) K) false) s) :
    wpAny (model P w) A (setSearch a (.ref x) (Fm.η k) true) Q E s := by
  have room := R.room
  have sz := R.tab.sz
  rw [List.length_map] at sz
  obtain ⟨K, lt, free, full⟩ := R.tab.first (by rw [List.length_map]; omega) (Fm.η k)
  have small : 10 * SetTable.turns t.mask ≤ 1420 := by
    unfold SetTable.turns
    rcases R.tab.mok with e | e | e <;> omega
  unfold setSearch
  refine looks R M hx hu lt free full there (fun z => new K z free full) 100000 0 none rfl (Nat.zero_le _) (by omega) fun i p hp hk => ?_
  have il : i < t.place.toList.length := by
    have := (List.getElem?_eq_some_iff.mp hp).1
    rw [Array.length_toList]
    omega
  have hj := List.getElem?_eq_getElem il
  obtain ⟨c, hc, e⟩ := R.tab.before (i := i) free (by rw [List.getElem?_map, hp, ← hk]; rfl) hj
  exact ⟨c, Nat.zero_le _, hc, by rw [hj, e]⟩
/-! ### a line more -/
theorem part_get {α : Type} (l : List α) : ∀ (n : Nat), n ≤ l.length → (List.range n).filterMap (fun i => l[i]?) = l.take n
  | 0, _ => rfl
  | n + 1, h => by
    rw [List.range_succ, List.filterMap_append, part_get l n (by omega), List.take_add_one, List.getElem?_eq_getElem (show n < l.length from h), List.filterMap_cons_some (List.getElem?_eq_getElem (show n < l.length from h))]
    rfl
/-- the lines in another order -/
theorem shuffled (li : es.toList = lines Fm L) {order : Array Nat} (hp : order.toList.Perm (List.range L.length)) :
    ∃ L2, (order.filterMap (es[·]?)).toList = lines Fm L2 ∧ L2.Perm L ∧ hashes Fm L2 = order.toList.map fun i => (es.map (·.1)).getD i 0 := by
  have sz := size_of li
  have ent : ∀ i (h : i < L.length), es[i]? = some (Fm.η (L[i]).2, Value.ref (L[i]).1) := fun i h => by
    rw [← Array.getElem?_toList, li, List.getElem?_map, List.getElem?_eq_getElem h]
    rfl
  have inn : ∀ i ∈ order.toList, i < L.length := fun i z => List.mem_range.mp (hp.mem_iff.mp z)
  refine ⟨order.toList.filterMap fun i => L[i]?, ?_, ?_, ?_⟩
  · rw [Array.toList_filterMap]
    generalize order.toList = l at inn
    induction l with
    | nil => rfl
    | cons i r ih =>
      have hi := inn i List.mem_cons_self
      rw [List.filterMap_cons_some (ent i hi), List.filterMap_cons_some (List.getElem?_eq_getElem hi), ih fun j z => inn j (List.mem_cons_of_mem _ z)]
      rfl
  · have := hp.filterMap (fun i => L[i]?)
    rwa [part_get L L.length (Nat.le_refl _), List.take_length] at this
  · generalize order.toList = l at inn
    induction l with
    | nil => rfl
    | cons i r ih =>
      have hi := inn i List.mem_cons_self
      have e : (es.map (·.1)).getD i 0 = Fm.η (L[i]).2 := by
        have : (es.map (·.1))[i]? = some (Fm.η (L[i]).2) := by rw [Array.getElem?_map, ent i hi]; rfl
        rw [Array.getD_eq_getD_getElem?, this]
        rfl
      rw [List.map_cons, e, List.filterMap_cons_some (List.getElem?_eq_getElem hi), ← ih fun j z => inn j (List.mem_cons_of_mem _ z)]
      rfl
/-- the table laid anew -/
theorem anew {o : Obj} (ho : s.heap.get? a = some o) (hex : o.ExactSet) (hd : o.data = .set es ep t) (li : es.toList = lines Fm L) (tab : TabOk t (hashes Fm L)) (small : L.length ≤ t.mask)
    (nd : (L.map (·.2)).Nodup) (ld : w.params.followText "set-order" = true ∨ t.led = true) (few : L.length < 64) {wanted M : Nat}
    (hw : SetTable.sizeAbove wanted - 1 = M) (hM : MaskOk M) (hw2 : SetTable.sizeAbove wanted ≤ 128) (hn : L.length * 5 < M * 3) {Q : Unit → Shared → Prop}
    (hQ : ∀ h' L' es' ep' t', Heap.SameBut a s.heap h' → Bare Fm h' a L' es' ep' t' → L'.Perm L → Q () { s with heap := h' }) : wpAny (model P w) A (setRelay a wanted) Q E s := by
  have sz := size_of li
  have ps := tab.sz
  rw [List.length_map] at ps
  have fit : t.fits es.size = true := by
    unfold SetTable.fits SetTable.fill
    rw [tab.dm, Bool.and_eq_true, beq_iff_eq, decide_eq_true_eq]
    exact ⟨by show t.place.size = es.size; omega, by show t.place.size + 0 ≤ t.mask; omega⟩
  obtain ⟨t', order, e, hp, T, em, el, epl, _⟩ := relaid_ok t (hs := es.map (·.1)) (wanted := wanted) hw hM (by rw [Array.size_map]; omega)
  rw [Array.size_map, sz] at hp
  obtain ⟨L2, r1, r2, r3⟩ := shuffled li hp
  rw [← r3] at T
  have sz2 := size_of r1
  have l2 := r2.length_eq
  rw [setRelay_eq]
  refine wpAny_bind (wpAny_setState_of ho hd fit ?_)
  dsimp only
  refine wp_if_neg (by rw [sizeLine_eq]; omega) ?_
  try refine wpAny_bind (wpAny_pure ?_)
  rw [e]
  dsimp only
  refine wpAny_bind ?_
  refine wp_if_neg (by rw [sz2, l2, sz]; simp) ?_
  try refine wpAny_bind (wpAny_pure ?_)
  refine wpAny_pure ?_
  dsimp only
  refine wpAny_storeSet_of ho hd ?_ (by rw [sz2, sizeLine_eq]; omega)
  have sb : Heap.SameBut a s.heap (s.heap.update a (Obj.putSet (order.filterMap (es[·]?)) t')) := Heap.SameBut.update ..
  exact hQ _ L2 _ (ep + 1) t' sb ⟨⟨_, store_at ho hd, ⟨hex.1, hex.2.1, hex.2.2⟩, rfl⟩, r1, T, (r2.map (·.2)).nodup_iff.mpr nd, by rw [el]; exact ld, by rw [l2, em]; exact hn, by rw [l2]; exact few⟩ r2
theorem either {α : Type} {M : Model} {m : Sem Bool} {k : Bool → Sem α} {c : Bool} {Q : α → Shared → Prop} (hm : ∀ {Q' : Bool → Shared → Prop}, (∀ b, Q' b s) → wpAny M A m Q' E s) (hk : ∀ b, wpAny M A (k b) Q E s) :
    wpAny M A (if c = true then m >>= k else pure true >>= k) Q E s := by
  by_cases h : c = true
  · rw [if_pos h]; exact wpAny_bind (hm hk)
  · rw [if_neg h]; exact wpAny_bind (wpAny_pure (hk true))
/-- a thing comes in -/
theorem comes (R : Bare Fm s.heap a L es ep t) (M : Mem Fm s.heap L) {x : Addr} {k : κ} (hx : Fm.is s.heap k x) (hu : A.units < cLine) (few : L.length + 1 < 64) {Q : Bool → Shared → Prop}
    (hQ : ∀ b h' L' es' ep' t', Heap.SameBut a s.heap h' → Bare Fm h' a L' es' ep' t' → (k ∈ L.map (·.2) → L' = L) → (k ∉ L.map (·.2) → L'.Perm ((x, k) :: L)) → Q b { s with heap := h' }) :
    wpAny (model P w) A (setAddHashed a (.ref x) (Fm.η k)) Q E s := by
  obtain ⟨o, ho, hex, hd⟩ := R.ob
  have sz := size_of R.li
  have room := R.room
  unfold setAddHashed
  refine wpAny_holding ?_
  rw [show (100000 : Nat) = 99999 + 1 from rfl, setAddHashedIn_succ]
  refine wpAny_bind (wpAny_setState_of ho hd R.ok ?_)
  dsimp only
  refine wp_if_neg (by simp [byScan, Value.scannable]) ?_
  try refine wpAny_bind (wpAny_pure ?_)
  refine wpAny_bind (look R M hx hu (fun hm => ?_) fun K hm free full => ?_)
  · dsimp only
    exact wpAny_pure (hQ false s.heap L es ep t (Heap.SameBut.refl a s.heap) R (fun _ => rfl) fun z => absurd hm z)
  dsimp only
  refine wpAny_bind (wpAny_setState_of ho hd R.ok ?_)
  dsimp only
  obtain ⟨q1, q2, q3, q4, q5, q6, _, _, q9⟩ := R.tab.put free full
  generalize hpt : t.put (way t.mask (Fm.η k) K) = pt at q1 q3 q4 q5 q6 q9 ⊢
  obtain ⟨t1, p⟩ := pt
  dsimp only at q1 q3 q4 q5 q6 q9 ⊢
  subst q1
  refine either (fun all => Fm.byv hx all) fun bb => ?_
  obtain ⟨u1, e2, p1, p2, p3, p4, p5, p6⟩ : ∃ u1 : SetTable, (if bb = true then t1 else { t1 with plain := false }) = u1 ∧ u1.place = t1.place ∧ u1.dummies = t1.dummies ∧ u1.mask = t1.mask ∧ u1.led = t1.led ∧ u1.tooFull = t1.tooFull ∧ u1.fill = t1.fill := by
    cases bb
    · exact ⟨_, rfl, rfl, rfl, rfl, rfl, rfl, rfl⟩
    · exact ⟨_, rfl, rfl, rfl, rfl, rfl, rfl, rfl⟩
  rw [e2]
  have q3 : TabOk u1 _ := ⟨by rw [p1]; exact q3.ris, by rw [p2]; exact q3.dm, by rw [p1]; exact q3.sz, by rw [p3]; exact q3.mok, by rw [p1, p3]; exact q3.bd, by rw [p1, p3]; exact q3.reach⟩
  rw [← p3] at q4
  rw [← p4] at q5
  rw [← p6] at q9
  clear e2 p1 p2 p3 p4 p5 p6 q6
  have li : (SetTable.insertAt es (SetTable.below t.place (way t.mask (Fm.η k) K)) (Fm.η k, Value.ref x)).toList = lines Fm (L.take (SetTable.below t.place (way t.mask (Fm.η k) K)) ++ (x, k) :: L.drop (SetTable.below t.place (way t.mask (Fm.η k) K))) := by
    rw [SetTable.toList_insertAt, R.li]
    simp only [List.map_append, List.map_cons, List.map_take, List.map_drop]
  have q3' : TabOk u1 (hashes Fm (L.take (SetTable.below t.place (way t.mask (Fm.η k) K)) ++ (x, k) :: L.drop (SetTable.below t.place (way t.mask (Fm.η k) K)))) := by
    simp only [List.map_append, List.map_cons, List.map_take, List.map_drop]
    simpa only [List.map_take, List.map_drop] using q3
  have pm := put_perm L (SetTable.below t.place (way t.mask (Fm.η k) K)) (x, k)
  generalize SetTable.below t.place (way t.mask (Fm.η k) K) = p at q2 q3' li pm ⊢
  clear q3
  generalize SetTable.insertAt es p (Fm.η k, Value.ref x) = es1 at li ⊢
  generalize L.take p ++ (x, k) :: L.drop p = L1 at pm q3' li
  have len : L1.length = L.length + 1 := pm.length_eq
  have sz1 := size_of li
  have nd : (L1.map (·.2)).Nodup := (pm.map (·.2)).nodup_iff.mpr (by rw [List.map_cons]; exact List.nodup_cons.mpr ⟨hm, R.nd⟩)
  refine wpAny_bind (wpAny_storeSet_of ho hd ?_ (by rw [sz1, sizeLine_eq]; omega))
  have sb : Heap.SameBut a s.heap (s.heap.update a (Obj.putSet es1 u1)) := Heap.SameBut.update ..
  have ho1 := store_at (es' := es1) (t' := u1) ho hd
  generalize s.heap.update a (Obj.putSet es1 u1) = h1 at sb ho1 ⊢
  have ld : w.params.followText "set-order" = true ∨ u1.led = true := by rw [q5]; exact R.led
  rw [List.length_map] at q9
  by_cases hf : u1.tooFull = true
  · first
      | (refine wpAny_bind ?_; refine wp_if_pos (by simp [hf]) ?_)
      | (refine wp_if_pos (by simp [hf]) ?_; refine wpAny_bind ?_)
    have full2 : (L.length + 1) * 5 ≥ u1.mask * 3 := by
      unfold SetTable.tooFull at hf
      rwa [decide_eq_true_eq, q9] at hf
    rw [sz]
    have two : (t.mask = 7 ∧ L.length = 4) ∨ (t.mask = 31 ∧ L.length = 18) := by
      rw [q4] at full2
      rcases R.tab.mok with e | e | e <;> rw [e] at full2 room
      · exact .inl ⟨e, by omega⟩
      · exact .inr ⟨e, by omega⟩
      · omega
    have go : ∀ M, SetTable.sizeAbove (SetTable.grown (L.length + 1)) - 1 = M → MaskOk M → SetTable.sizeAbove (SetTable.grown (L.length + 1)) ≤ 128 → (L.length + 1) * 5 < M * 3 →
        wpAny (model P w) A (setRelay a (SetTable.grown (L.length + 1))) (fun _ s' => wpAny (model P w) A (pure true) Q E s') E { s with heap := h1 } := fun M m1 m2 m3 m4 =>
      anew (s := { s with heap := h1 }) ho1 ⟨hex.1, hex.2.1, hex.2.2⟩ rfl li q3' (by rw [len, q4]; rcases two with ⟨e, e2⟩ | ⟨e, e2⟩ <;> omega) nd ld (by omega) m1 m2 m3 (by rw [len]; exact m4)
        fun h2 L2 es2 ep2 t2 sb2 R2 pm2 => wpAny_pure (hQ true h2 L2 es2 ep2 t2 (sb.trans sb2) R2 (fun z => absurd z hm) fun _ => pm2.trans pm)
    rcases two with ⟨_, e2⟩ | ⟨_, e2⟩
    · exact go 31 (by rw [e2, size_20]) (.inr (.inl rfl)) (by rw [e2, size_20]; decide) (by omega)
    · exact go 127 (by rw [e2, size_76]) (.inr (.inr rfl)) (by rw [e2, size_76]; decide) (by omega)
  · first
      | refine wp_if_neg (by simp [hf]) ?_
      | (refine wpAny_bind ?_; refine wp_if_neg (by simp [hf]) ?_; refine wpAny_pure ?_)
    refine wpAny_pure (hQ true h1 L1 es1 (ep + 1) u1 sb ⟨⟨_, ho1, ⟨hex.1, hex.2.1, hex.2.2⟩, rfl⟩, li, q3', nd, ld, ?_, by omega⟩ (fun z => absurd z hm) fun _ => pm)
    unfold SetTable.tooFull at hf
    rw [decide_eq_true_eq, q9] at hf
    omega
/-! ### a set made of a list -/
/-- what the first i of ks have left -/
structure Met (ks : List (Addr × κ)) (i : Nat) (L : List (Addr × κ)) : Prop where
  sub : ∀ p ∈ L, p ∈ ks.take i
  all : ∀ p ∈ ks.take i, p.2 ∈ L.map (·.2)
  le : L.length ≤ i
theorem Met.next {ks L L' : List (Addr × κ)} {i : Nat} {p : Addr × κ} (g : Met ks i L) (h : ks[i]? = some p) (same : p.2 ∈ L.map (·.2) → L' = L) (more : p.2 ∉ L.map (·.2) → L'.Perm (p :: L)) : Met ks (i + 1) L' := by
  have tk : ks.take (i + 1) = ks.take i ++ [p] := by rw [List.take_add_one, h]; rfl
  have up : ∀ {q}, q ∈ ks.take i → q ∈ ks.take (i + 1) := fun z => by rw [tk]; exact List.mem_append_left _ z
  by_cases c : p.2 ∈ L.map (·.2)
  · rw [same c]
    refine ⟨fun q z => up (g.sub q z), fun q z => ?_, Nat.le_succ_of_le g.le⟩
    rw [tk] at z
    rcases List.mem_append.mp z with z | z
    · exact g.all q z
    · rw [List.mem_singleton.mp z]; exact c
  · have pm := more c
    refine ⟨fun q z => ?_, fun q z => ?_, by rw [pm.length_eq]; exact Nat.succ_le_succ g.le⟩
    · rcases List.mem_cons.mp (pm.mem_iff.mp z) with rfl | z
      · rw [tk]; simp
      · exact up (g.sub q z)
    · rw [tk] at z
      refine ((pm.map (·.2)).mem_iff).mpr ?_
      rw [List.map_cons]
      rcases List.mem_append.mp z with z | z
      · exact List.mem_cons_of_mem _ (g.all q z)
      · rw [List.mem_singleton.mp z]; exact List.mem_cons_self
theorem set_update_fam {I : Addr} {fp wr : List Addr} {G : Array GenState → Array GenState → Prop} {n : Nat} {Pv : Nat → Value → Prop} {St : Nat → Shared → Prop} {R : Result → Shared → Prop}
    (W : WalksS P w A.in1 I fp wr G n Pv St) (S : Addr) (apart : S ∉ fp) (ks : List (Addr × κ)) (hn : n = ks.length) (few : ks.length < 64) (each : ∀ i v, Pv i v → ∃ p, ks[i]? = some p ∧ v = .ref p.1)
    (h0 : Heap) (hk : Mem Fm h0 ks) (hS0 : h0.get? S = none) (hw0 : ∀ b ∈ wr, h0.get? b = none) (hu : A.in1.units < cLine) :
    ∀ (m i : Nat) (s : Shared), n - i = m → i ≤ n → St i s → (∀ b o, h0.get? b = some o → s.heap.get? b = some o) → (∃ L es ep t, Bare Fm s.heap S L es ep t ∧ Met ks i L) →
      (∀ s' L es ep t, Moved (S :: wr) G s s' → Bare Fm s'.heap S L es ep t → Met ks n L → (∀ b o, h0.get? b = some o → s'.heap.get? b = some o) → R (.ok (.ret .none)) s') →
      codeAny (model P w) A (.builtin "set.update.loop" ⟨[.ref S, .ref I], []⟩) R s := by
  have apart' : S ∉ wr := fun h => apart (W.sub _ h)
  have more : ∀ b ∈ wr, b ∈ S :: wr := fun b z => List.mem_cons_of_mem _ z
  have go : ∀ {s s' : Shared}, Moved wr G s s' → (∀ b o, h0.get? b = some o → s.heap.get? b = some o) → ∀ b o, h0.get? b = some o → s'.heap.get? b = some o := fun mv k b o e => mv.heap b o (fun z => by rw [hw0 b z] at e; cases e) (k b o e)
  have move : ∀ {h h' : Heap} {L es ep t}, Bare Fm h S L es ep t → (∀ o, h.get? S = some o → h'.get? S = some o) → Bare Fm h' S L es ep t := fun {h h' L es ep t} B k => by
    obtain ⟨o, ho, r⟩ := B.ob
    exact ⟨⟨o, k o ho, r⟩, B.li, B.tab, B.nd, B.led, B.room, B.few⟩
  intro m
  induction m with
  | zero =>
    intro i s em hi st kp ⟨L, es, ep, t, B, g⟩ hR
    obtain rfl : i = n := by omega
    refine codeAny_builtin F.entry_set_update_loop ?_
    rw [Around.under_plainId F.plain_set_update_loop _]
    show wpAny _ A.in1 (pyNext (.ref I) >>= _) _ _ s
    refine wpAny_bind (W.done s _ _ st fun s' mv => ?_)
    show wpAny _ A.in1 (ret Value.none) _ _ s'
    exact wpAny_pure (hR s' L es ep t (mv.mono more) (move B fun o e => mv.heap S o apart' e) g (go mv kp))
  | succ m ih =>
    intro i s em hi st kp ⟨L, es, ep, t, B, g⟩ hR
    have lt : i < n := by omega
    refine codeAny_builtin F.entry_set_update_loop ?_
    rw [Around.under_plainId F.plain_set_update_loop _]
    show wpAny _ A.in1 (pyNext (.ref I) >>= _) _ _ s
    refine wpAny_bind (W.item i s _ _ lt st fun v s' pv st' mv => ?_)
    obtain ⟨p, hp, rfl⟩ := each i v pv
    have kp' := go mv kp
    have B' := move B fun o e => mv.heap S o apart' e
    have M' : Mem Fm s'.heap L := fun q z => Fm.keep (hk q (List.mem_of_mem_take (g.sub q z))) kp'
    have hx : Fm.is s'.heap p.2 p.1 := Fm.keep (hk p (List.mem_of_getElem? hp)) kp'
    show wpAny _ A.in1 (holding [Value.ref p.1] (setAdd S (.ref p.1)) >>= _) _ _ s'
    refine wpAny_bind (wpAny_holding ?_)
    unfold setAdd
    refine wpAny_holding ?_
    refine wpAny_bind (Fm.hash hu hx ?_)
    refine comes (s := { s' with toks := s'.toks + Fm.tk p.2 }) B' M' hx hu (by have := g.le; omega) fun b h' L' es' ep' t' same B2 c1 c2 => ?_
    have kp2 : ∀ b o, h0.get? b = some o → h'.get? b = some o := fun b o e => (same.2 b (fun z => by rw [z, hS0] at e; cases e)).trans (kp' b o e)
    refine wpAny_pure ⟨plainId_quiet F.plain_set_update_loop _, ih (i + 1) _ (by omega) lt (W.frame _ s' _ _ st' (Nat.le_add_right _ _) fun b hb o e => ?_) kp2 ⟨L', es', ep', t', B2, g.next hp c1 c2⟩ fun s'' L2 es2 ep2 t2 mv2 B3 g3 kp3 => ?_⟩
    · rw [same.2 b (fun h : b = S => apart (by rw [← h]; exact hb))]; exact e
    · refine hR s'' L2 es2 ep2 t2 (Moved.trans W.gtrans ((mv.mono more).then_heap (Nat.le_add_right _ _) fun b o hb e => ?_) mv2) B3 g3 kp3
      rw [same.2 b (fun h : b = S => hb (by rw [h]; exact List.mem_cons_self))]; exact e
theorem fresh {h : Heap} {a : Addr} (ho : h.get? a = some (Sets.soO w)) : Bare Fm h a [] #[] 0 (.fresh 0 0 (!w.params.followText "set-order")) := by
  refine ⟨⟨_, ho, ⟨rfl, rfl, rfl⟩, rfl⟩, rfl, ⟨List.Pairwise.nil, rfl, rfl, .inl rfl, fun x z => (by cases z), fun i h j z => (by simp at z)⟩, List.nodup_nil, ?_, (by decide : 0 * 5 < 7 * 3), (by decide : 0 < 64)⟩
  show _ ∨ (!w.params.followText "set-order") = true
  cases w.params.followText "set-order"
  · exact .inr rfl
  · exact .inl rfl
theorem set_of_fam {l : Addr} {items : Array Value} (ks : List (Addr × κ)) {Q : Value → Shared → Prop} (hh : A.handled = none) (hl : s.heap.IsList l items) (hit : items.toList = ks.map fun p => Value.ref p.1) (hk : Mem Fm s.heap ks) (few : ks.length < 64) (hu : A.units + 3 < cLine)
    (h : ∀ (h' : Heap) (tk : Nat) L es ep t, Bare Fm h' s.heap.objs.size L es ep t → Met ks ks.length L → (∀ b o, s.heap.get? b = some o → h'.get? b = some o) → Q (.ref s.heap.objs.size) { s with heap := h', toks := tk }) :
    wpAny (model P w) A (call (.type "set") [.ref l]) Q E s := by
  have hisz : items.size = ks.length := by rw [← Array.length_toList, hit, List.length_map]
  obtain ⟨c, tl, hmro⟩ := F.called_set.mro
  have hmade := F.called_set.made
  have hsub := F.called_set.sub
  refine wpAny_call (codeAny_of_tree ?_)
  show wpAny _ _ (callAny (.type "set") _) _ _ _
  refine wpAny_pure ⟨Code.quiet_builtin _ (by decide +kernel), codeAny_builtin F.entry_type_call ?_⟩
  rw [Around.under_plain (weight_type_call_type "set" [.ref l] []) rfl]
  have h1 := F.called_set.notType
  have h2 := F.called_set.canCreate
  have hct := F.typeCall_set_1 (.ref l)
  repeat (any_goals (first | assumption | wp_step))
  have new := code_set_led1 (P := P) (w := w) (A := A.in1) (s := s) (.ref l) (E := E) (Q₁ := fun obj s₁ => obj = .ref s.heap.objs.size ∧ s₁ = { s with heap := s.heap.push (soO w) }) ⟨rfl, rfl⟩
  refine codeAny_mono new fun r s₁ hr => ?_
  match r, hr with
  | .error e, hr => exact hr
  | .ok .next, hr => exact hr.elim
  | .ok .brk, hr => exact hr.elim
  | .ok .cont, hr => exact hr.elim
  | .ok (.ret obj), hr =>
    obtain ⟨rfl, rfl⟩ := hr
    have hS : (s.heap.push (soO w)).get? s.heap.objs.size = some (soO w) := Heap.get?_push_size _ rfl
    have hT : Shared.TypeIs { s with heap := s.heap.push (soO w) } (.ref s.heap.objs.size) "set" := ⟨_, hS, rfl⟩
    have hli := F.called_set.init.lookup
    have hbi := F.called_set.init.bind (.ref s.heap.objs.size)
    repeat (any_goals (first | assumption | wp_step))
    refine codeAny_mono (codeAny_call_builtin (R := wants (fun r s₂ => r = .none ∧ ∃ h' tk L es ep t, s₂ = { s with heap := h', toks := tk } ∧ Bare Fm h' s.heap.objs.size L es ep t ∧ Met ks ks.length L ∧
        (∀ b o, s.heap.get? b = some o → h'.get? b = some o)) E) F.called_set.init.plain F.entry_set_init (check_set_init_1 hT ?_)) fun r₂ s₂ hr₂ => ?_
    · obtain ⟨ol, hol, hcl, nl, hdl⟩ := hl
      obtain ⟨ocls, odict, odata, oslots⟩ := ol
      simp only at hcl hdl
      subst hcl; subst hdl
      have hol' : (s.heap.push (soO w)).get? l = some { cls := .type "list", dict := odict, data := .seq items nl, slots := oslots } := Heap.get?_push_of_some _ hol
      have hsls := F.sub_list_set
      have hslf := F.sub_list_frozenset
      have hne : (Value.type "list" == Value.type "dict") = false := by decide
      have hl1 : (s.heap.push (soO w)).IsList l items := ⟨_, hol', rfl, nl, rfl⟩
      unfold Builtin.«set.__init__» noKeywords Builtin.Frozenset.updateFrom
      generalize hPI : pyIter = PI
      wp_walk
      subst hPI
      refine wpAny_pyIter_list hl1 ?_
      refine wpAny_bind (wpAny_runValue ?_)
      have hlS : l < s.heap.objs.size := Heap.lt_size hol
      have sz1 : (s.heap.push (soO w)).objs.size = s.heap.objs.size + 1 := Heap.size_push ..
      have hneI : l ≠ (s.heap.push (soO w)).objs.size := by rw [sz1]; exact Nat.ne_of_lt (Nat.lt_succ_of_lt hlS)
      have hSf : s.heap.objs.size ∉ [(s.heap.push (soO w)).objs.size, l] := fun hm => by
        rcases List.mem_cons.mp hm with e | hm
        · rw [sz1] at e; exact absurd e (Nat.ne_of_lt (Nat.lt_succ_self _))
        · rcases List.mem_cons.mp hm with e | hm
          · exact absurd e (Nat.ne_of_gt hlS)
          · cases hm
      have hval : ∀ (i : Nat) (v : Value), items[i]? = some v → ∃ p, ks[i]? = some p ∧ v = .ref p.1 := fun i v hv => by
        have q : items.toList[i]? = some v := by rw [Array.getElem?_toList]; exact hv
        rw [hit, List.getElem?_map] at q
        cases e : ks[i]? with
        | none => rw [e] at q; cases q
        | some p => rw [e] at q; exact ⟨p, rfl, (Option.some.inj q).symm⟩
      have gone : ∀ b, s.heap.objs.size ≤ b → s.heap.get? b = none := fun b hb => by
        cases q : s.heap.get? b with
        | none => rfl
        | some o => exact absurd (Nat.lt_of_lt_of_le (Heap.lt_size q) hb) (Nat.lt_irrefl _)
      have hh3 : A.in1.in1.in1.handled = none := hh
      refine set_update_fam ((Walks.list hh3 _ l hneI items).toS) s.heap.objs.size hSf ks hisz few hval s.heap hk (gone _ (Nat.le_refl _)) (fun b hb => gone b (by rw [List.mem_singleton.mp hb, Heap.size_push]; exact Nat.le_succ _)) hu (items.size - 0) 0 _ (by omega) (Nat.zero_le _)
        ⟨⟨_, Heap.get?_push_size _ rfl, rfl, rfl⟩, (hl1.push _)⟩ (fun b o e => Heap.get?_push_of_some _ (Heap.get?_push_of_some _ e)) ⟨[], #[], 0, _, fresh (Heap.get?_push_of_some _ hS), ⟨fun p z => (nomatch z), fun p z => (by simp at z), Nat.le_refl _⟩⟩ fun s' L es ep t hm B g kp => ?_
      obtain ⟨h', g2, d', tk', os'⟩ := s'
      obtain rfl : g2 = s.gens := hm.gens
      obtain rfl : d' = s.drawn := hm.drawn
      obtain rfl : os' = s.os := hm.os
      show wpAny _ _ _ _ _ _
      refine wpAny_pure ?_
      show wpAny _ _ (ret Value.none) _ _ _
      rw [hisz] at g
      exact wpAny_pure ⟨rfl, h', tk', L, es, ep, t, rfl, B, g, kp⟩
    · match r₂, hr₂ with
      | .error e, hr₂ => exact hr₂
      | .ok .next, hr₂ => exact hr₂.elim
      | .ok .brk, hr₂ => exact hr₂.elim
      | .ok .cont, hr₂ => exact hr₂.elim
      | .ok (.ret r), hr₂ =>
        obtain ⟨rfl, h', tk, L, es, ep, t, rfl, B, g, kp⟩ := hr₂
        repeat (any_goals (first | assumption | wp_step))
        exact h _ _ _ _ _ _ B g kp
end
end MixSets

set_option Elab.async false
set_option linter.all false
set_option maxRecDepth 100000
set_option maxHeartbeats 4000000
/-! MixSets2: tuples of ints and texts as such a family; set(xs) of a list of them, and its length. -/
namespace MixSets
open PySem PySem.Spec PyProof.Rows L2 Sets
section
variable {α : Type} [DecidableEq α]
theorem nodup_len : ∀ {A B : List α}, A.Nodup → (∀ x ∈ A, x ∈ B) → A.length ≤ B.length
  | [], _, _, _ => Nat.zero_le _
  | a :: A, B, nd, sub => by
    obtain ⟨n1, n2⟩ := List.nodup_cons.mp nd
    have ha := sub a List.mem_cons_self
    have := nodup_len (B := B.erase a) n2 fun x hx => (List.mem_erase_of_ne (fun z => n1 (by rw [← z]; exact hx))).mpr (sub x (List.mem_cons_of_mem _ hx))
    have e := List.length_erase_of_mem ha
    have p := List.length_pos_of_mem ha
    rw [List.length_cons]
    omega
theorem nodup_of_len : ∀ {A B : List α}, A.Nodup → (∀ x ∈ A, x ∈ B) → B.length ≤ A.length → B.Nodup
  | [], B, _, _, h => by
    have : B = [] := List.length_eq_zero_iff.mp (Nat.le_zero.mp h)
    rw [this]
    exact List.nodup_nil
  | a :: A, B, nd, sub, h => by
    obtain ⟨n1, n2⟩ := List.nodup_cons.mp nd
    have ha := sub a List.mem_cons_self
    have sub' : ∀ x ∈ A, x ∈ B.erase a := fun x hx => (List.mem_erase_of_ne (fun z => n1 (by rw [← z]; exact hx))).mpr (sub x (List.mem_cons_of_mem _ hx))
    have e := List.length_erase_of_mem ha
    have p := List.length_pos_of_mem ha
    rw [List.length_cons] at h
    have ih := nodup_of_len n2 sub' (by omega)
    have no : a ∉ B.erase a := fun z => by
      have := nodup_len nd (B := B.erase a) fun x hx => by
        rcases List.mem_cons.mp hx with rfl | hx
        · exact z
        · exact sub' x hx
      rw [List.length_cons] at this
      omega
    exact (List.perm_cons_erase ha).nodup_iff.mpr (List.nodup_cons.mpr ⟨no, ih⟩)
end
section
variable {P : Program} {w : World} {A : Around} {E : Value → Shared → Prop} {s : Shared}
/-- an int or a text -/
def Plain (v : Value) : Prop := (∃ i t, v = Value.int i t) ∨ ∃ x t, v = Value.str x t
theorem plain_items {k : List Key} {vs : List Value} (h : ItemsAre (mixKind P w) k vs) : ∀ v ∈ vs, Plain v := by
  induction h with
  | nil => exact fun v z => nomatch z
  | cons h1 _ ih =>
    intro v z
    rcases List.mem_cons.mp z with rfl | z
    · rcases keyIs_shape h1 with ⟨i, t, _, e⟩ | ⟨x, t, _, e⟩
      · exact .inl ⟨i, t, e⟩
      · exact .inr ⟨x, t, e⟩
    · exact ih v z
theorem plain_class (n : Nat) {v : Value} (h : Plain v) : ofAClassStatement n v = pure false := by
  rcases h with ⟨i, t, rfl⟩ | ⟨x, t, rfl⟩ <;> cases n <;> rfl
theorem plain_hash (n : Nat) {v : Value} (h : Plain v) : ∃ b, hashByValue n v = pure b := by
  rcases h with ⟨i, t, rfl⟩ | ⟨x, t, rfl⟩
  · exact ⟨true, by cases n <;> rfl⟩
  · exact ⟨false, by cases n <;> rfl⟩
abbrev IsM (P : Program) (w : World) (h : Heap) (k : List Key) (a : Addr) : Prop := IsTupleKey (mixKind P w) h k a
theorem tup_class {k : List Key} {b : Addr} {Q : Bool → Shared → Prop} (hk : IsM P w s.heap k b) (h : Q false s) : wpAny (model P w) A (ofAClassStatement 8 (.ref b)) Q E s := by
  have ty := hk.typeIs
  obtain ⟨o, items, n, ho, _, hd, hi⟩ := hk
  unfold ofAClassStatement
  refine wpAny_bind (wpAny_typeOf ty ?_)
  dsimp only
  have e : (("tuple" : String) == "tuple") = true := by decide
  simp only [e, if_true, Bool.not_true, Bool.false_eq_true, if_false]
  try refine wpAny_bind (wpAny_pure ?_)
  try simp only [Bool.not_true, Bool.false_eq_true, if_false]
  show wpAny _ _ (seqItems? (.ref b) >>= _) _ _ s
  refine wpAny_bind (wpAny_seqItems ho hd ?_)
  dsimp only
  refine wpAny_bind ?_
  show wpAny _ _ (forIn items _ _) _ _ s
  rw [← Array.forIn_toList]
  refine wpAny_forIn_list _ (fun rest r s' => r.1 = none ∧ s' = s ∧ ∀ v ∈ rest, Plain v) _ (fun v rest r s' z => ?_) (fun r s' z => ?_) _ _ ⟨rfl, rfl, plain_items hi⟩
  · obtain ⟨_, rfl, all⟩ := z
    rw [plain_class _ (all v List.mem_cons_self)]
    refine wpAny_bind (wpAny_pure ?_)
    simp only [Bool.false_eq_true, if_false]
    exact wpAny_pure ⟨rfl, rfl, fun u m => all u (List.mem_cons_of_mem _ m)⟩
  · obtain ⟨r1, r2⟩ := r
    obtain ⟨hr, rfl, _⟩ := z
    simp only at hr
    subst hr
    exact wpAny_pure h
theorem tup_hash {k : List Key} {b : Addr} {Q : Bool → Shared → Prop} (hk : IsM P w s.heap k b) (h : ∀ b, Q b s) : wpAny (model P w) A (hashByValue 8 (.ref b)) Q E s := by
  have ty := hk.typeIs
  obtain ⟨o, items, n, ho, _, hd, hi⟩ := hk
  unfold hashByValue
  refine wpAny_bind (wpAny_specialOf ty F.slot_tuple_hash.lookup ?_)
  show wpAny _ _ (seqItems? (.ref b) >>= _) _ _ s
  refine wpAny_bind (wpAny_seqItems ho hd ?_)
  refine wpAny_bind ?_
  show wpAny _ _ (forIn items _ _) _ _ s
  rw [← Array.forIn_toList]
  refine wpAny_forIn_list _ (fun rest r s' => s' = s ∧ ∀ v ∈ rest, Plain v) _ (fun v rest r s' z => ?_) (fun r s' z => ?_) _ _ ⟨rfl, plain_items hi⟩
  · obtain ⟨rfl, all⟩ := z
    obtain ⟨bb, e⟩ := plain_hash 7 (all v List.mem_cons_self)
    rw [e]
    refine wpAny_bind (wpAny_pure ?_)
    cases bb with
    | true =>
      simp only [Bool.not_true, Bool.false_eq_true, if_false]
      exact wpAny_pure ⟨rfl, fun u m => all u (List.mem_cons_of_mem _ m)⟩
    | false =>
      simp only [Bool.not_false, if_true]
      exact wpAny_pure (wpAny_pure (h _))
  · obtain ⟨r1, r2⟩ := r
    obtain ⟨rfl, _⟩ := z
    cases r1 with
    | none => exact wpAny_pure (h _)
    | some x => exact wpAny_pure (h _)
theorem tup_seen {k : List Key} {b : Addr} {ys : List Value} {Q : Bool → Shared → Prop} (hk : IsM P w s.heap k b) (hy : ∀ y ∈ ys, ∃ k' c, y = Value.ref c ∧ IsM P w s.heap k' c) (h : Q false s) :
    wpAny (model P w) A (searchCouldBeSeen (.ref b) ys) Q E s := by
  unfold searchCouldBeSeen
  refine wpAny_bind ?_
  refine wpAny_forIn_list _ (fun rest r s' => r.1 = none ∧ s' = s ∧ ∀ y ∈ rest, ∃ k' c, y = Value.ref c ∧ IsM P w s.heap k' c) _ (fun v rest r s' z => ?_) (fun r s' z => ?_) _ _ ⟨rfl, rfl, hy⟩
  · obtain ⟨_, rfl, all⟩ := z
    obtain ⟨k', c, rfl, hc⟩ := all v List.mem_cons_self
    have rest' : ∀ y ∈ rest, ∃ k' c, y = Value.ref c ∧ IsM P w s'.heap k' c := fun u m => all u (List.mem_cons_of_mem _ m)
    dsimp only
    by_cases hv : (b == c || (carriedByValue (.ref b) && carriedByValue (.ref c))) = true
    · exact wp_if_pos hv (wpAny_pure ⟨rfl, rfl, rest'⟩)
    · refine wp_if_neg hv (wpAny_bind (wpAny_eqIsQuiet_tuple hk ?_))
      simp only [Bool.not_true, Bool.false_eq_true, if_false]
      refine wpAny_bind (wpAny_eqIsQuiet_tuple hc ?_)
      simp only [Bool.not_true, Bool.false_eq_true, if_false]
      refine wpAny_bind (tup_class hk ?_)
      simp only [Bool.false_eq_true, if_false]
      refine wpAny_bind (tup_class hc ?_)
      simp only [Bool.false_eq_true, if_false]
      exact wpAny_pure ⟨rfl, rfl, rest'⟩
  · obtain ⟨r1, r2⟩ := r
    obtain ⟨hr, rfl, _⟩ := z
    simp only at hr
    subst hr
    exact wpAny_pure h
end
/-- tuples of ints and texts -/
def mixFam (P : Program) (w : World) : Fam P w (List Key) where
  is := IsM P w
  η := tupleKeyHash (mixKind P w)
  tk := fun k => k.length + 1
  same := fun hu hx hy q => wpAny_eqBool_tuple hu hx hy q
  seen := fun hx hy q => tup_seen hx hy q
  byv := fun hx q => tup_hash hx q
  hash := fun hu hx q => wpAny_pyHash_tuple hu hx q
  stay := fun {h h' x a b o es ep t} hb ho hd hs => by
    obtain ⟨o', items, n, ho', hc, hd', hi⟩ := hb
    refine ⟨o', items, n, (hs.2 b fun z => ?_).trans ho', hc, hd', hi⟩
    subst z
    obtain rfl : o' = o := Option.some.inj (ho'.symm.trans ho)
    rw [hd] at hd'
    exact nomatch hd'
  keep := fun {h h' x b} hb k => by
    obtain ⟨o, items, n, ho, r⟩ := hb
    exact ⟨o, items, n, k b o ho, r⟩
def MixO (P : Program) (w : World) (a : Addr) (L : List (Addr × List Key)) : HO := .ext fun h => ∃ es ep t, Bare (mixFam P w) h a L es ep t
theorem mixO_new {P : Program} {w : World} {H : Hp} {h : Heap} {a : Addr} {L : List (Addr × List Key)} {es : Array (Int × Value)} {ep : Nat} {t : SetTable} (B : Bare (mixFam P w) h a L es ep t) : ObjOk P w H h a (MixO P w a L) := by
  obtain ⟨o, ho, _⟩ := B.ob
  refine ⟨⟨es, ep, t, B⟩, ⟨o, ho⟩, fun h1 h2 ⟨es, ep, t, B⟩ k => ?_⟩
  obtain ⟨o, ho, r⟩ := B.ob
  exact ⟨es, ep, t, ⟨o, k o ho, r⟩, B.li, B.tab, B.nd, B.led, B.room, B.few⟩
section
variable {X : Cx}
theorem items_mix {P : Program} {w : World} : ∀ {k : List Key} {us : List Value}, Vals (k.map kV) us → ItemsAre (mixKind P w) k us
  | [], _, .nil => .nil
  | .inl n :: k, _, .cons r t => by
    obtain ⟨tk, rfl⟩ := r
    exact .cons (keyIs_int n tk) (items_mix t)
  | .inr x :: k, _, .cons r t => by
    obtain ⟨tk, rfl⟩ := r
    exact .cons (keyIs_str x tk) (items_mix t)
theorem refs_vals : ∀ {ks : List (Addr × List Key)} {us : List Value}, Vals (ks.map fun p => V.ref p.1) us → us = ks.map fun p => Value.ref p.1
  | [], _, .nil => rfl
  | p :: ks, _, .cons r t => by
    cases r
    rw [refs_vals t]
    rfl
/-- set(xs), xs a list of tuples of ints and texts -/
def rSetM (K : PySem.W.Frag) (P : Program) (w : World) : List V → Hp → VK → Prop := fun xs H Q => ∃ (l : Addr) (ks : List (Addr × List Key)), xs = [.ref l] ∧ SqL K H l (ks.map fun p => V.ref p.1) ∧ (∀ p ∈ ks, SqT K H p.1 (p.2.map kV)) ∧ ks.length < 64 ∧
  ∀ a L, H a = none → L.length ≤ ks.length → (L.length = ks.length ↔ (ks.map (·.2)).Nodup) → Q (.ref a) (upd H a (MixO P w a L))
theorem call_setM (K : PySem.W.Frag) (P : Program) (w : World) (hK : X.K = K) (hP : X.prog = P) (hw : X.w = w) (hc : X.calm = true) (hu : X.A.units + 64 < cLine) : CallR X (.type "set") (rSetM K P w) := by
  subst hK hP hw
  intro pins s σ H xs us Q I r h
  obtain ⟨l, ks, rfl, hl, hk, hf, q⟩ := h
  rw [Vals.ref1 r]
  obtain ⟨its, rv, pl, hz⟩ := I.list hl
  have hn : H s.heap.objs.size = none := I.hok.fresh (Nat.le_refl _)
  have mem : Mem (mixFam X.prog X.w) s.heap ks := fun p hp => by
    obtain ⟨its, r, ⟨o, ho, hc, n, hd⟩, _⟩ := I.tuple (hk p hp)
    exact ⟨o, its.toArray, n, ho, hc, hd, by simpa using items_mix r⟩
  refine set_of_fam (Fm := mixFam X.prog X.w) ks (I.ok.hd hc) pl.isList (by simpa using refs_vals rv) mem hf (by omega) fun h' tk L es ep t B g k => ?_
  have all : ∀ p ∈ ks, p.2 ∈ L.map (·.2) := fun p z => g.all p (by rw [List.take_length]; exact z)
  have sub : ∀ p ∈ L, p ∈ ks := fun p z => List.mem_of_mem_take (g.sub p z)
  have inL : ∀ x ∈ ks.map (·.2), x ∈ L.map (·.2) := fun x z => by
    obtain ⟨p, hp, rfl⟩ := List.mem_map.mp z
    exact all p hp
  have inK : ∀ x ∈ L.map (·.2), x ∈ ks.map (·.2) := fun x z => by
    obtain ⟨p, hp, rfl⟩ := List.mem_map.mp z
    exact List.mem_map.mpr ⟨p, sub p hp, rfl⟩
  refine ⟨.ref s.heap.objs.size, _, I.laid (t' := tk) k (Nat.le_refl _) (mixO_new B), rfl, q _ L hn g.le ⟨fun e => ?_, fun nd => ?_⟩⟩
  · exact nodup_of_len B.nd inK (by rw [List.length_map, List.length_map]; omega)
  · have := nodup_len nd inL
    rw [List.length_map, List.length_map] at this
    have := g.le
    omega
def rLenM (P : Program) (w : World) : List V → Hp → VK → Prop := fun xs H Q => ∃ (a : Addr) (L : List (Addr × List Key)), xs = [.ref a] ∧ H a = some (MixO P w a L) ∧ Q (.int L.length) H
theorem call_lenM (P : Program) (w : World) (hP : X.prog = P) (hw : X.w = w) : CallR X (.builtin "len") (rLenM P w) := by
  subst hP hw
  intro pins z σ G xs us Q I r h
  obtain ⟨a, L, rfl, ha, q⟩ := h
  cases r with
  | cons r rr =>
    cases rr
    cases r
    obtain ⟨es, ep, t, B⟩ : ∃ es ep t, Bare (mixFam X.prog X.w) z.heap a L es ep t := (I.hok a _ ha).1
    obtain ⟨o, ho, hex, hd⟩ := B.ob
    have sz := size_of B.li
    have few := B.few
    exact call_len_set ho hex hd B.ok (by omega) ⟨.int L.length, G, I.tok _, ⟨_, by rw [sz]⟩, q⟩
end
end MixSets

set_option Elab.async false
set_option linter.all false
set_option maxRecDepth 100000
set_option maxHeartbeats 2000000
/-! MakeS: an object made in a try, whose __init__ may raise. -/
namespace MakeS
open PySem PySem.Spec PyProof.Rows L2 GxR GX
def tMakeS (C : Addr) (sp : Sp) (E : L2.St → XK) (t : TA) : TE := fun σ H Q => t σ H fun vs H1 => ∀ x dx, H1 x = none → H1 dx = none → dx ≠ x →
  sp (.ref x :: vs) (upd (upd H1 dx (.own x)) x (.ins C dx [])) (fun v H2 => v = .non ∧ Q (.ref x) H2) (E σ)
section
variable {X : Cx} {CX : CXT} {k : Nat} {f C : Addr} {fd : FuncData} {ps : List Str} {sp : Sp} {x : Str} {p pos : Pos} {e : Expr} {es : List Expr} {t : TA} {E : L2.St → XK}
theorem pe_makeS (M : Mk X.K C f) (F : FnOk X.prog X.w X.K X.mg X.base CX k f fd ps sp) (hr : Room (k + 1) X.A) (hg : Gl X x) (hm : X.mg x = some (.ref C)) (hb : Binds X.K fd ps []) (hx : ∀ σ, PassesAt CX X σ (E σ)) (ha : PA X (e :: es) t)
    (hdb : (x == ("__debug__" : Str)) = false := by decide) (he : starEach (e :: es) X.env = (false, eval e X.env) :: starEach es X.env := by rfl) (hpl : (backTo pos (starEach es X.env)).any (·.1) = false := by rfl) :
    PE X (.Call (.Name x p) (e :: es) [] pos) (tMakeS C sp E t) := by
  refine ⟨fun pins s σ H Q I h => wpAny_Call_Name_kw (ld_glob I hg hm ?_ hdb)⟩
  refine PySem.W.callWith_K (h₀ := X.base) I.ok.mod.kin M.kp (thn (ha.run pos pins s σ H _ I h) fun us s1 ⟨vs, H1, I1, r, q⟩ => ⟨I1.kIn, ?_⟩) he hpl
  have fresh1 : H1 (s1.heap.objs.size + 1) = none := I1.hok.fresh (Nat.le_succ _)
  have want := q (s1.heap.objs.size + 1) s1.heap.objs.size fresh1 (I1.hok.fresh (Nat.le_refl _)) (Nat.ne_of_lt (Nat.lt_succ_self _))
  have I2 := Inv.made (C := C) I1
  have rs : Vals (V.ref (s1.heap.objs.size + 1) :: vs) (Value.ref (s1.heap.objs.size + 1) :: us) := .cons rfl r
  have hl : (Value.ref (s1.heap.objs.size + 1) :: us).length = ps.length := rs.length.symm.trans (F.len _ _ _ _ want)
  have bd := hb _ (Value.ref (s1.heap.objs.size + 1) :: us) I2.kIn (by rw [List.append_nil]; exact hl)
  rw [List.append_nil] at bd
  refine wpAny_call (make_map (f := f) I1.kIn M.makes M.init (beq_iff_eq.mp M.fn) (codeAny_mono (F.run _ X.stack _ _ ⟨Value.ref (s1.heap.objs.size + 1) :: us, []⟩ (Value.ref (s1.heap.objs.size + 1) :: us) _ _ (E σ) (hr.make C us [])
    (I2.env0.make C us []) bd rs want) fun r s' out => ?_))
  match r, out with
  | .error _, out => exact hx σ pins _ _ _ s' I2 out
  | .ok (.ret _), out =>
    obtain ⟨v, H', I3, rv, ev, q3⟩ := I2.after out
    subst ev
    exact ⟨rv, ⟨V.ref (s1.heap.objs.size + 1), H', I3, rfl, q3⟩⟩
  | .ok .next, out => exact out.elim
  | .ok .brk, out => exact out.elim
  | .ok .cont, out => exact out.elim
end
end MakeS

set_option Elab.async false
set_option linter.all false
set_option maxRecDepth 100000
set_option maxHeartbeats 2000000
namespace Law
open PySem PySem.Spec PyProof.Rows L2 GxR GX Tree Kit
def topS (i : Nat) : Stmt := PySem.Challenge.pw_skyprices_k04_no_days_and_no_plans.main.body.getD i (.Pass ⟨0, 0, 0, 0⟩)
abbrev s__wall : Stmt := topS 0
theorem sc__wall : FnScope ["k"] ["k"] (defScope s__wall) := ⟨rfl, rfl, rfl, by decide +kernel, rfl, by decide +kernel, by decide +kernel⟩
abbrev s_is_number : Stmt := topS 26
theorem sc_is_number : FnScope ["thing"] ["thing"] (defScope s_is_number) := ⟨rfl, rfl, rfl, by decide +kernel, rfl, by decide +kernel, by decide +kernel⟩
abbrev s_is_whole : Stmt := topS 27
theorem sc_is_whole : FnScope ["thing", "least", "most"] ["thing", "least", "most"] (defScope s_is_whole) := ⟨rfl, rfl, rfl, by decide +kernel, rfl, by decide +kernel, by decide +kernel⟩
abbrev s_is_list : Stmt := topS 28
theorem sc_is_list : FnScope ["thing", "least", "most"] ["thing", "least", "most"] (defScope s_is_list) := ⟨rfl, rfl, rfl, by decide +kernel, rfl, by decide +kernel, by decide +kernel⟩
abbrev s_is_tuple : Stmt := topS 29
theorem sc_is_tuple : FnScope ["thing", "many"] ["thing", "many"] (defScope s_is_tuple) := ⟨rfl, rfl, rfl, by decide +kernel, rfl, by decide +kernel, by decide +kernel⟩
abbrev s_rises : Stmt := topS 30
theorem sc_rises : FnScope ["things", "at"] ["things"] (defScope s_rises) := ⟨rfl, rfl, rfl, by decide +kernel, rfl, by decide +kernel, by decide +kernel⟩
abbrev s_is_day : Stmt := topS 31
theorem sc_is_day : FnScope ["thing", "hours", "stores", "sights", "asks", "blocks"] ["thing"] (defScope s_is_day) := ⟨rfl, rfl, rfl, by decide +kernel, rfl, by decide +kernel, by decide +kernel⟩
abbrev s__are_stores : Stmt := topS 32
theorem sc__are_stores : FnScope ["thing", "store"] ["thing"] (defScope s__are_stores) := ⟨rfl, rfl, rfl, by decide +kernel, rfl, by decide +kernel, by decide +kernel⟩
abbrev s__are_sights : Stmt := topS 33
theorem sc__are_sights : FnScope ["thing", "hours", "craft", "sight"] ["thing", "hours", "craft"] (defScope s__are_sights) := ⟨rfl, rfl, rfl, by decide +kernel, rfl, by decide +kernel, by decide +kernel⟩
abbrev s__is_sight : Stmt := topS 34
theorem sc__is_sight : FnScope ["thing", "hours", "craft", "heard"] ["thing", "hours", "craft"] (defScope s__is_sight) := ⟨rfl, rfl, rfl, by decide +kernel, rfl, by decide +kernel, by decide +kernel⟩
abbrev s__are_heard : Stmt := topS 35
theorem sc__are_heard : FnScope ["thing", "craft", "number"] ["thing", "craft"] (defScope s__are_heard) := ⟨rfl, rfl, rfl, by decide +kernel, rfl, by decide +kernel, by decide +kernel⟩
abbrev s__are_asks : Stmt := topS 36
theorem sc__are_asks : FnScope ["thing", "dishes", "ask"] ["thing", "dishes"] (defScope s__are_asks) := ⟨rfl, rfl, rfl, by decide +kernel, rfl, by decide +kernel, by decide +kernel⟩
abbrev s__are_blocks : Stmt := topS 37
theorem sc__are_blocks : FnScope ["thing", "hours", "craft", "block"] ["thing", "hours", "craft"] (defScope s__are_blocks) := ⟨rfl, rfl, rfl, by decide +kernel, rfl, by decide +kernel, by decide +kernel⟩
abbrev s_is_block : Stmt := topS 38
theorem sc_is_block : FnScope ["thing", "hours", "craft", "house", "number", "ready", "due", "worth"] ["thing", "hours", "craft"] (defScope s_is_block) := ⟨rfl, rfl, rfl, by decide +kernel, rfl, by decide +kernel, by decide +kernel⟩
abbrev s_need_day : Stmt := topS 39
theorem sc_need_day : FnScope ["thing"] ["thing"] (defScope s_need_day) := ⟨rfl, rfl, rfl, by decide +kernel, rfl, by decide +kernel, by decide +kernel⟩
abbrev s_copy_of_day : Stmt := topS 40
theorem sc_copy_of_day : FnScope ["day", "hours", "stores", "sights", "asks", "blocks", "own_sights", "sight", "heard"] ["day"] (defScope s_copy_of_day) := ⟨rfl, rfl, rfl, by decide +kernel, rfl, by decide +kernel, by decide +kernel⟩
abbrev s_is_plan : Stmt := topS 41
theorem sc_is_plan : FnScope ["day", "thing", "part"] ["day", "thing"] (defScope s_is_plan) := ⟨rfl, rfl, rfl, by decide +kernel, rfl, by decide +kernel, by decide +kernel⟩
abbrev s__is_pass : Stmt := topS 42
theorem sc__is_pass : FnScope ["day", "thing", "hours", "stores", "sights", "asks", "blocks", "hour", "dish", "craft", "block"] ["day", "thing"] (defScope s__is_pass) := ⟨rfl, rfl, rfl, by decide +kernel, rfl, by decide +kernel, by decide +kernel⟩
abbrev s_may_be_sent : Stmt := topS 43
theorem sc_may_be_sent : FnScope ["block", "hour", "house", "craft", "ready", "due", "worth"] ["block", "hour"] (defScope s_may_be_sent) := ⟨rfl, rfl, rfl, by decide +kernel, rfl, by decide +kernel, by decide +kernel⟩
abbrev s__clash_nowhere : Stmt := topS 44
theorem sc__clash_nowhere : FnScope ["passes", "many", "hour", "dish", "craft", "block"] ["passes"] (defScope s__clash_nowhere) := ⟨rfl, rfl, rfl, by decide +kernel, rfl, by decide +kernel, by decide +kernel⟩
abbrev s__fit_stores : Stmt := topS 45
theorem sc__fit_stores : FnScope ["day", "passes", "hours", "stores", "sights", "asks", "blocks", "craft", "hour"] ["day", "passes"] (defScope s__fit_stores) := ⟨rfl, rfl, rfl, by decide +kernel, rfl, by decide +kernel, by decide +kernel⟩
abbrev s_kept_over : Stmt := topS 46
theorem sc_kept_over : FnScope ["day", "passes", "craft", "hour", "hours", "stores", "sights", "asks", "blocks", "kept", "sent_at", "dish", "sender", "number", "house", "own_craft", "ready", "due", "worth"] ["day", "passes", "craft", "hour"] (defScope s_kept_over) := ⟨rfl, rfl, rfl, by decide +kernel, rfl, by decide +kernel, by decide +kernel⟩
abbrev s_need_plan : Stmt := topS 47
theorem sc_need_plan : FnScope ["day", "thing"] ["day", "thing"] (defScope s_need_plan) := ⟨rfl, rfl, rfl, by decide +kernel, rfl, by decide +kernel, by decide +kernel⟩
abbrev s_gain_of : Stmt := topS 48
theorem sc_gain_of : FnScope ["day", "plan"] ["day", "plan"] (defScope s_gain_of) := ⟨rfl, rfl, rfl, by decide +kernel, rfl, by decide +kernel, by decide +kernel⟩
abbrev s_gain_of_passes : Stmt := topS 49
theorem sc_gain_of_passes : FnScope ["day", "passes", "hours", "stores", "sights", "asks", "blocks", "gain", "hour", "dish", "craft", "number", "house", "own_craft", "ready", "due", "worth"] ["day", "passes"] (defScope s_gain_of_passes) := ⟨rfl, rfl, rfl, by decide +kernel, rfl, by decide +kernel, by decide +kernel⟩
abbrev s__law_purse : Stmt := topS 53
theorem sc__law_purse : FnScope ["script", "k", "cell"] ["script", "k"] (defScope s__law_purse) := ⟨rfl, rfl, rfl, by decide +kernel, rfl, by decide +kernel, by decide +kernel⟩
abbrev s__law_coin : Stmt := topS 54
theorem sc__law_coin : FnScope ["purse", "many", "found", "mixed"] ["purse", "many"] (defScope s__law_coin) := ⟨rfl, rfl, rfl, by decide +kernel, rfl, by decide +kernel, by decide +kernel⟩
abbrev s__law_sight : Stmt := topS 55
theorem sc__law_sight : FnScope ["purse", "hours", "craft", "found", "hour", "some", "one"] ["purse", "hours", "craft"] (defScope s__law_sight) := ⟨rfl, rfl, rfl, by decide +kernel, rfl, by decide +kernel, by decide +kernel⟩
abbrev s__law_block : Stmt := topS 56
theorem sc__law_block : FnScope ["purse", "hours", "craft", "ready", "due", "worth"] ["purse", "hours", "craft"] (defScope s__law_block) := ⟨rfl, rfl, rfl, by decide +kernel, rfl, by decide +kernel, by decide +kernel⟩
abbrev s__law_day : Stmt := topS 57
theorem sc__law_day : FnScope ["purse", "most", "blocks", "full", "hours", "craft", "stores", "dishes", "sights", "asks", "many", "one", "dish"] ["purse", "most", "blocks"] (defScope s__law_day) := ⟨rfl, rfl, rfl, by decide +kernel, rfl, by decide +kernel, by decide +kernel⟩
abbrev s__law_may : Stmt := topS 58
theorem sc__law_may : FnScope ["block", "hour", "house", "craft", "ready", "due", "worth"] ["block", "hour"] (defScope s__law_may) := ⟨rfl, rfl, rfl, by decide +kernel, rfl, by decide +kernel, by decide +kernel⟩
abbrev s__law_passes : Stmt := topS 59
theorem sc__law_passes : FnScope ["purse", "day", "hours", "stores", "sights", "asks", "blocks", "found", "gone", "hour", "used", "dish", "some", "number", "n"] ["purse", "day"] (defScope s__law_passes) := ⟨rfl, rfl, rfl, by decide +kernel, rfl, by decide +kernel, by decide +kernel⟩
abbrev s__law_over : Stmt := topS 60
theorem sc__law_over : FnScope ["day", "passes", "hours", "stores", "sights", "asks", "blocks", "hour", "craft", "some", "one"] ["day", "passes"] (defScope s__law_over) := ⟨rfl, rfl, rfl, by decide +kernel, rfl, by decide +kernel, by decide +kernel⟩
abbrev s__law_plan : Stmt := topS 61
theorem sc__law_plan : FnScope ["purse", "day", "found", "turn", "over", "gone", "one"] ["purse", "day"] (defScope s__law_plan) := ⟨rfl, rfl, rfl, by decide +kernel, rfl, by decide +kernel, by decide +kernel⟩
abbrev s__law_other : Stmt := topS 62
theorem sc__law_other : FnScope ["purse", "thing", "odd"] ["purse", "thing"] (defScope s__law_other) := ⟨rfl, rfl, rfl, by decide +kernel, rfl, by decide +kernel, by decide +kernel⟩
abbrev s__law_bent_row : Stmt := topS 63
theorem sc__law_bent_row : FnScope ["purse", "thing", "some", "at", "odds", "odd", "rows", "way"] ["purse", "thing"] (defScope s__law_bent_row) := ⟨rfl, rfl, rfl, by decide +kernel, rfl, by decide +kernel, by decide +kernel⟩
abbrev s__law_bent : Stmt := topS 64
theorem sc__law_bent : FnScope ["purse", "thing", "at", "some"] ["purse", "thing"] (defScope s__law_bent) := ⟨rfl, rfl, rfl, by decide +kernel, rfl, by decide +kernel, by decide +kernel⟩
abbrev s__law_whole : Stmt := topS 65
theorem sc__law_whole : FnScope ["thing", "low", "high"] ["thing", "low", "high"] (defScope s__law_whole) := ⟨rfl, rfl, rfl, by decide +kernel, rfl, by decide +kernel, by decide +kernel⟩
abbrev s__law_each : Stmt := topS 66
theorem sc__law_each : FnScope ["things", "low", "high", "one"] ["things", "low", "high"] (defScope s__law_each) := ⟨rfl, rfl, rfl, by decide +kernel, rfl, by decide +kernel, by decide +kernel⟩
abbrev s__law_is_sight : Stmt := topS 67
theorem sc__law_is_sight : FnScope ["sight", "hours", "craft", "heard"] ["sight", "hours", "craft"] (defScope s__law_is_sight) := ⟨rfl, rfl, rfl, by decide +kernel, rfl, by decide +kernel, by decide +kernel⟩
abbrev s__law_is_block : Stmt := topS 68
theorem sc__law_is_block : FnScope ["block", "hours", "craft", "house", "own", "ready", "due", "worth"] ["block", "hours", "craft"] (defScope s__law_is_block) := ⟨rfl, rfl, rfl, by decide +kernel, rfl, by decide +kernel, by decide +kernel⟩
abbrev s__law_is_day : Stmt := topS 69
theorem sc__law_is_day : FnScope ["thing", "hours", "stores", "sights", "asks", "blocks", "sight", "block", "one"] ["thing"] (defScope s__law_is_day) := ⟨rfl, rfl, rfl, by decide +kernel, rfl, by decide +kernel, by decide +kernel⟩
abbrev s__law_is_pass : Stmt := topS 70
theorem sc__law_is_pass : FnScope ["day", "one", "hours", "stores", "sights", "asks", "blocks", "hour", "dish", "craft", "number"] ["day", "one"] (defScope s__law_is_pass) := ⟨rfl, rfl, rfl, by decide +kernel, rfl, by decide +kernel, by decide +kernel⟩
abbrev s__law_is_plan : Stmt := topS 71
theorem sc__law_is_plan : FnScope ["day", "thing", "hours", "stores", "sights", "asks", "blocks", "marks", "aboard", "hour", "when", "dish", "craft", "number", "step", "one"] ["day", "thing"] (defScope s__law_is_plan) := ⟨rfl, rfl, rfl, by decide +kernel, rfl, by decide +kernel, by decide +kernel⟩
abbrev s__law_kinds : Stmt := topS 72
theorem sc__law_kinds : FnScope ["caught", "found", "words", "k"] ["caught"] (defScope s__law_kinds) := ⟨rfl, rfl, rfl, by decide +kernel, rfl, by decide +kernel, by decide +kernel⟩
abbrev s__law_word : Stmt := topS 73
theorem sc__law_word : FnScope ["door", "day", "plan", "caught", "e"] ["door", "day", "plan"] (defScope s__law_word) := ⟨rfl, rfl, rfl, by decide +kernel, rfl, by decide +kernel, by decide +kernel⟩
abbrev s__law_refused : Stmt := topS 74
theorem sc__law_refused : FnScope ["day", "plan", "dues", "text", "again", "door", "due"] ["day", "plan", "dues"] (defScope s__law_refused) := ⟨rfl, rfl, rfl, by decide +kernel, rfl, by decide +kernel, by decide +kernel⟩
abbrev s_law : Stmt := topS 75
theorem sc_law : FnScope ["script", "k", "purse", "day", "plan", "days", "plans", "one", "other", "turn"] ["script"] (defScope s_law) := ⟨rfl, rfl, rfl, by decide +kernel, rfl, by decide +kernel, by decide +kernel⟩
/-- what stands behind the top: each def, its function object, its code's table; the constants; the built-in names -/
structure Facts (K : PySem.W.Frag) (mg : Str → Option Value) (base : Heap) (fa : String → Addr) (fd : String → FuncData) (ca ta : String → Addr) : Prop where
  b : Bt mg
  c_MOST_HOURS : ∃ t, mg "MOST_HOURS" = some (.int 10 t)
  c_MOST_CRAFT : ∃ t, mg "MOST_CRAFT" = some (.int 4 t)
  c_MOST_STORE : ∃ t, mg "MOST_STORE" = some (.int 5 t)
  c_MOST_DISHES : ∃ t, mg "MOST_DISHES" = some (.int 3 t)
  c_MOST_ASK : ∃ t, mg "MOST_ASK" = some (.int 999 t)
  c_MOST_BLOCKS : ∃ t, mg "MOST_BLOCKS" = some (.int 14 t)
  c_MOST_HOUSE : ∃ t, mg "MOST_HOUSE" = some (.int 5 t)
  c_MOST_WORTH : ∃ t, mg "MOST_WORTH" = some (.int 9999 t)
  d__wall : DefAt K mg "_wall" s__wall ["k"] (fa "_wall") (fd "_wall")
  d_is_number : DefAt K mg "is_number" s_is_number ["thing"] (fa "is_number") (fd "is_number")
  d_is_whole : DefAt K mg "is_whole" s_is_whole ["thing", "least", "most"] (fa "is_whole") (fd "is_whole")
  d_is_list : DefAt K mg "is_list" s_is_list ["thing", "least", "most"] (fa "is_list") (fd "is_list")
  d_is_tuple : DefAt K mg "is_tuple" s_is_tuple ["thing", "many"] (fa "is_tuple") (fd "is_tuple")
  d_rises : DefAt K mg "rises" s_rises ["things"] (fa "rises") (fd "rises")
  d_is_day : DefAt K mg "is_day" s_is_day ["thing"] (fa "is_day") (fd "is_day")
  d__are_stores : DefAt K mg "_are_stores" s__are_stores ["thing"] (fa "_are_stores") (fd "_are_stores")
  d__are_sights : DefAt K mg "_are_sights" s__are_sights ["thing", "hours", "craft"] (fa "_are_sights") (fd "_are_sights")
  d__is_sight : DefAt K mg "_is_sight" s__is_sight ["thing", "hours", "craft"] (fa "_is_sight") (fd "_is_sight")
  d__are_heard : DefAt K mg "_are_heard" s__are_heard ["thing", "craft"] (fa "_are_heard") (fd "_are_heard")
  d__are_asks : DefAt K mg "_are_asks" s__are_asks ["thing", "dishes"] (fa "_are_asks") (fd "_are_asks")
  d__are_blocks : DefAt K mg "_are_blocks" s__are_blocks ["thing", "hours", "craft"] (fa "_are_blocks") (fd "_are_blocks")
  d_is_block : DefAt K mg "is_block" s_is_block ["thing", "hours", "craft"] (fa "is_block") (fd "is_block")
  d_need_day : DefAt K mg "need_day" s_need_day ["thing"] (fa "need_day") (fd "need_day")
  d_copy_of_day : DefAt K mg "copy_of_day" s_copy_of_day ["day"] (fa "copy_of_day") (fd "copy_of_day")
  d_is_plan : DefAt K mg "is_plan" s_is_plan ["day", "thing"] (fa "is_plan") (fd "is_plan")
  d__is_pass : DefAt K mg "_is_pass" s__is_pass ["day", "thing"] (fa "_is_pass") (fd "_is_pass")
  d_may_be_sent : DefAt K mg "may_be_sent" s_may_be_sent ["block", "hour"] (fa "may_be_sent") (fd "may_be_sent")
  d__clash_nowhere : DefAt K mg "_clash_nowhere" s__clash_nowhere ["passes"] (fa "_clash_nowhere") (fd "_clash_nowhere")
  d__fit_stores : DefAt K mg "_fit_stores" s__fit_stores ["day", "passes"] (fa "_fit_stores") (fd "_fit_stores")
  d_kept_over : DefAt K mg "kept_over" s_kept_over ["day", "passes", "craft", "hour"] (fa "kept_over") (fd "kept_over")
  d_need_plan : DefAt K mg "need_plan" s_need_plan ["day", "thing"] (fa "need_plan") (fd "need_plan")
  d_gain_of : DefAt K mg "gain_of" s_gain_of ["day", "plan"] (fa "gain_of") (fd "gain_of")
  d_gain_of_passes : DefAt K mg "gain_of_passes" s_gain_of_passes ["day", "passes"] (fa "gain_of_passes") (fd "gain_of_passes")
  d__law_purse : DefAt K mg "_law_purse" s__law_purse ["script", "k"] (fa "_law_purse") (fd "_law_purse")
  d__law_coin : DefAt K mg "_law_coin" s__law_coin ["purse", "many"] (fa "_law_coin") (fd "_law_coin")
  d__law_sight : DefAt K mg "_law_sight" s__law_sight ["purse", "hours", "craft"] (fa "_law_sight") (fd "_law_sight")
  d__law_block : DefAt K mg "_law_block" s__law_block ["purse", "hours", "craft"] (fa "_law_block") (fd "_law_block")
  d__law_day : DefAt K mg "_law_day" s__law_day ["purse", "most", "blocks"] (fa "_law_day") (fd "_law_day")
  d__law_may : DefAt K mg "_law_may" s__law_may ["block", "hour"] (fa "_law_may") (fd "_law_may")
  d__law_passes : DefAt K mg "_law_passes" s__law_passes ["purse", "day"] (fa "_law_passes") (fd "_law_passes")
  d__law_over : DefAt K mg "_law_over" s__law_over ["day", "passes"] (fa "_law_over") (fd "_law_over")
  d__law_plan : DefAt K mg "_law_plan" s__law_plan ["purse", "day"] (fa "_law_plan") (fd "_law_plan")
  d__law_other : DefAt K mg "_law_other" s__law_other ["purse", "thing"] (fa "_law_other") (fd "_law_other")
  d__law_bent_row : DefAt K mg "_law_bent_row" s__law_bent_row ["purse", "thing"] (fa "_law_bent_row") (fd "_law_bent_row")
  d__law_bent : DefAt K mg "_law_bent" s__law_bent ["purse", "thing"] (fa "_law_bent") (fd "_law_bent")
  d__law_whole : DefAt K mg "_law_whole" s__law_whole ["thing", "low", "high"] (fa "_law_whole") (fd "_law_whole")
  d__law_each : DefAt K mg "_law_each" s__law_each ["things", "low", "high"] (fa "_law_each") (fd "_law_each")
  d__law_is_sight : DefAt K mg "_law_is_sight" s__law_is_sight ["sight", "hours", "craft"] (fa "_law_is_sight") (fd "_law_is_sight")
  d__law_is_block : DefAt K mg "_law_is_block" s__law_is_block ["block", "hours", "craft"] (fa "_law_is_block") (fd "_law_is_block")
  d__law_is_day : DefAt K mg "_law_is_day" s__law_is_day ["thing"] (fa "_law_is_day") (fd "_law_is_day")
  d__law_is_pass : DefAt K mg "_law_is_pass" s__law_is_pass ["day", "one"] (fa "_law_is_pass") (fd "_law_is_pass")
  d__law_is_plan : DefAt K mg "_law_is_plan" s__law_is_plan ["day", "thing"] (fa "_law_is_plan") (fd "_law_is_plan")
  d__law_kinds : DefAt K mg "_law_kinds" s__law_kinds ["caught"] (fa "_law_kinds") (fd "_law_kinds")
  d__law_word : DefAt K mg "_law_word" s__law_word ["door", "day", "plan"] (fa "_law_word") (fd "_law_word")
  d__law_refused : DefAt K mg "_law_refused" s__law_refused ["day", "plan", "dues"] (fa "_law_refused") (fd "_law_refused")
  x_ValueError : mg "ValueError" = none
  t_rises : TabAt base mg (fd "rises") (ca "rises") (ta "rises")
  t__are_stores : TabAt base mg (fd "_are_stores") (ca "_are_stores") (ta "_are_stores")
  t__are_sights : TabAt base mg (fd "_are_sights") (ca "_are_sights") (ta "_are_sights")
  t__is_sight : TabAt base mg (fd "_is_sight") (ca "_is_sight") (ta "_is_sight")
  t__are_heard : TabAt base mg (fd "_are_heard") (ca "_are_heard") (ta "_are_heard")
  t__are_asks : TabAt base mg (fd "_are_asks") (ca "_are_asks") (ta "_are_asks")
  t__are_blocks : TabAt base mg (fd "_are_blocks") (ca "_are_blocks") (ta "_are_blocks")
  t_is_plan : TabAt base mg (fd "is_plan") (ca "is_plan") (ta "is_plan")
  t__fit_stores : TabAt base mg (fd "_fit_stores") (ca "_fit_stores") (ta "_fit_stores")
/-- all tables -/
def Ts (ta : String → Addr) : List Addr := [ta "rises", ta "_are_stores", ta "_are_sights", ta "_is_sight", ta "_are_heard", ta "_are_asks", ta "_are_blocks", ta "is_plan", ta "_fit_stores"]
theorem tab_rises {ta : String → Addr} {H : Hp} (h : Tb (Ts ta) H) : TabG H (ta "rises") := h _ (by simp [Ts])
theorem tab__are_stores {ta : String → Addr} {H : Hp} (h : Tb (Ts ta) H) : TabG H (ta "_are_stores") := h _ (by simp [Ts])
theorem tab__are_sights {ta : String → Addr} {H : Hp} (h : Tb (Ts ta) H) : TabG H (ta "_are_sights") := h _ (by simp [Ts])
theorem tab__is_sight {ta : String → Addr} {H : Hp} (h : Tb (Ts ta) H) : TabG H (ta "_is_sight") := h _ (by simp [Ts])
theorem tab__are_heard {ta : String → Addr} {H : Hp} (h : Tb (Ts ta) H) : TabG H (ta "_are_heard") := h _ (by simp [Ts])
theorem tab__are_asks {ta : String → Addr} {H : Hp} (h : Tb (Ts ta) H) : TabG H (ta "_are_asks") := h _ (by simp [Ts])
theorem tab__are_blocks {ta : String → Addr} {H : Hp} (h : Tb (Ts ta) H) : TabG H (ta "_are_blocks") := h _ (by simp [Ts])
theorem tab_is_plan {ta : String → Addr} {H : Hp} (h : Tb (Ts ta) H) : TabG H (ta "is_plan") := h _ (by simp [Ts])
theorem tab__fit_stores {ta : String → Addr} {H : Hp} (h : Tb (Ts ta) H) : TabG H (ta "_fit_stores") := h _ (by simp [Ts])
end Law

set_option Elab.async false
set_option linter.all false
set_option maxRecDepth 100000
set_option maxHeartbeats 2000000
namespace Law
open PySem PySem.Spec PyProof.Rows L2 GxR GX Tree Kit Obj EndG
abbrev s_Sky___init__ : Stmt := inClass (topS 51) 0
theorem sc_Sky___init__ : FnScope ["self", "day", "plan"] ["self", "day", "plan"] (defScope s_Sky___init__) := ⟨rfl, rfl, rfl, by decide +kernel, rfl, by decide +kernel, by decide +kernel⟩
abbrev s_Sky_tick : Stmt := inClass (topS 51) 1
theorem sc_Sky_tick : FnScope ["self"] ["self"] (defScope s_Sky_tick) := ⟨rfl, rfl, rfl, by decide +kernel, rfl, by decide +kernel, by decide +kernel⟩
abbrev s_Sky_now : Stmt := inClass (topS 51) 2
theorem sc_Sky_now : FnScope ["self"] ["self"] (defScope s_Sky_now) := ⟨rfl, rfl, rfl, by decide +kernel, rfl, by decide +kernel, by decide +kernel⟩
abbrev s_Sky_aboard : Stmt := inClass (topS 51) 3
theorem sc_Sky_aboard : FnScope ["self", "hours", "stores", "sights", "asks", "blocks", "craft"] ["self"] (defScope s_Sky_aboard) := ⟨rfl, rfl, rfl, by decide +kernel, rfl, by decide +kernel, by decide +kernel⟩
abbrev s_Sky_sent : Stmt := inClass (topS 51) 4
theorem sc_Sky_sent : FnScope ["self", "hour", "dish", "craft", "block"] ["self"] (defScope s_Sky_sent) := ⟨rfl, rfl, rfl, by decide +kernel, rfl, by decide +kernel, by decide +kernel⟩
abbrev s_Sky_gain : Stmt := inClass (topS 51) 5
theorem sc_Sky_gain : FnScope ["self"] ["self"] (defScope s_Sky_gain) := ⟨rfl, rfl, rfl, by decide +kernel, rfl, by decide +kernel, by decide +kernel⟩
abbrev s_Sky__done : Stmt := inClass (topS 51) 6
theorem sc_Sky__done : FnScope ["self", "part"] ["self"] (defScope s_Sky__done) := ⟨rfl, rfl, rfl, by decide +kernel, rfl, by decide +kernel, by decide +kernel⟩
/-- the classes -/
structure CFacts (K : PySem.W.Frag) (mg : Str → Option Value) (cs : String → Addr) (fm : String → String → Addr) (fdm : String → String → FuncData) : Prop where
  cl_Sky : Cls K (cs "Sky")
  g_Sky : mg "Sky" = some (.ref (cs "Sky"))
  mk_Sky : Mk K (cs "Sky") (fm "Sky" "__init__")
  na_Sky__day : NoAttr K (cs "Sky") "_day"
  na_Sky__plan : NoAttr K (cs "Sky") "_plan"
  na_Sky__hour : NoAttr K (cs "Sky") "_hour"
  d_Sky___init__ : MethAt K "__init__" "Sky.__init__" s_Sky___init__ ["self", "day", "plan"] (fm "Sky" "__init__") (fdm "Sky" "__init__")
  m_Sky_tick : Meth K (cs "Sky") "tick" (fm "Sky" "tick")
  d_Sky_tick : MethAt K "tick" "Sky.tick" s_Sky_tick ["self"] (fm "Sky" "tick") (fdm "Sky" "tick")
  m_Sky_now : Meth K (cs "Sky") "now" (fm "Sky" "now")
  d_Sky_now : MethAt K "now" "Sky.now" s_Sky_now ["self"] (fm "Sky" "now") (fdm "Sky" "now")
  m_Sky_aboard : Meth K (cs "Sky") "aboard" (fm "Sky" "aboard")
  d_Sky_aboard : MethAt K "aboard" "Sky.aboard" s_Sky_aboard ["self"] (fm "Sky" "aboard") (fdm "Sky" "aboard")
  m_Sky_sent : Meth K (cs "Sky") "sent" (fm "Sky" "sent")
  d_Sky_sent : MethAt K "sent" "Sky.sent" s_Sky_sent ["self"] (fm "Sky" "sent") (fdm "Sky" "sent")
  m_Sky_gain : Meth K (cs "Sky") "gain" (fm "Sky" "gain")
  d_Sky_gain : MethAt K "gain" "Sky.gain" s_Sky_gain ["self"] (fm "Sky" "gain") (fdm "Sky" "gain")
  m_Sky__done : Meth K (cs "Sky") "_done" (fm "Sky" "_done")
  d_Sky__done : MethAt K "_done" "Sky._done" s_Sky__done ["self"] (fm "Sky" "_done") (fdm "Sky" "_done")
  xi_NoDay : PySem.W.excIn K (cs "NoDay") [.type "ValueError", .type "Exception", .type "BaseException", .type "object"] "ValueError.__new__" = true
  k_NoDay : PySem.W.keepIn K (.ref (cs "NoDay")) = true
  b_NoDay : PySem.W.subIn K (.ref (cs "NoDay")) (.type "BaseException") = some true
  t_NoDay : PySem.W.typeIn K (.ref (cs "NoDay")) = some (.type "type")
  xi_NoPlan : PySem.W.excIn K (cs "NoPlan") [.type "ValueError", .type "Exception", .type "BaseException", .type "object"] "ValueError.__new__" = true
  k_NoPlan : PySem.W.keepIn K (.ref (cs "NoPlan")) = true
  b_NoPlan : PySem.W.subIn K (.ref (cs "NoPlan")) (.type "BaseException") = some true
  t_NoPlan : PySem.W.typeIn K (.ref (cs "NoPlan")) = some (.type "type")
  g_DayOver : mg "DayOver" = some (.ref (cs "DayOver"))
  g_NoBlock : mg "NoBlock" = some (.ref (cs "NoBlock"))
  g_NoDay : mg "NoDay" = some (.ref (cs "NoDay"))
  g_NoHour : mg "NoHour" = some (.ref (cs "NoHour"))
  g_NoLost : mg "NoLost" = some (.ref (cs "NoLost"))
  g_NoName : mg "NoName" = some (.ref (cs "NoName"))
  g_NoNumbers : mg "NoNumbers" = some (.ref (cs "NoNumbers"))
  g_NoPlace : mg "NoPlace" = some (.ref (cs "NoPlace"))
  g_NoPlan : mg "NoPlan" = some (.ref (cs "NoPlan"))
  g_NoRests : mg "NoRests" = some (.ref (cs "NoRests"))
  g_NoRow : mg "NoRow" = some (.ref (cs "NoRow"))
  g_NoText : mg "NoText" = some (.ref (cs "NoText"))
  g_NoWorth : mg "NoWorth" = some (.ref (cs "NoWorth"))
  g_SkyError : mg "SkyError" = some (.ref (cs "SkyError"))
  g_TooMany : mg "TooMany" = some (.ref (cs "TooMany"))
  em_NoDay_SkyError : PySem.W.exmOne K (.ref (cs "NoDay")) (.ref (cs "SkyError")) = some true
  is_NoDay : Caught.ExcIs K (cs "NoDay")
  ki_NoDay_NoDay : PySem.W.kitOne K (.ref (cs "NoDay")) (.ref (cs "NoDay")) = some true
  ki_NoDay_NoPlan : PySem.W.kitOne K (.ref (cs "NoDay")) (.ref (cs "NoPlan")) = some false
  ki_NoDay_NoNumbers : PySem.W.kitOne K (.ref (cs "NoDay")) (.ref (cs "NoNumbers")) = some false
  ki_NoDay_NoRests : PySem.W.kitOne K (.ref (cs "NoDay")) (.ref (cs "NoRests")) = some false
  ki_NoDay_NoLost : PySem.W.kitOne K (.ref (cs "NoDay")) (.ref (cs "NoLost")) = some false
  ki_NoDay_NoBlock : PySem.W.kitOne K (.ref (cs "NoDay")) (.ref (cs "NoBlock")) = some false
  ki_NoDay_NoWorth : PySem.W.kitOne K (.ref (cs "NoDay")) (.ref (cs "NoWorth")) = some false
  ki_NoDay_NoHour : PySem.W.kitOne K (.ref (cs "NoDay")) (.ref (cs "NoHour")) = some false
  ki_NoDay_TooMany : PySem.W.kitOne K (.ref (cs "NoDay")) (.ref (cs "TooMany")) = some false
  ki_NoDay_DayOver : PySem.W.kitOne K (.ref (cs "NoDay")) (.ref (cs "DayOver")) = some false
  ki_NoDay_NoName : PySem.W.kitOne K (.ref (cs "NoDay")) (.ref (cs "NoName")) = some false
  ki_NoDay_NoPlace : PySem.W.kitOne K (.ref (cs "NoDay")) (.ref (cs "NoPlace")) = some false
  ki_NoDay_NoRow : PySem.W.kitOne K (.ref (cs "NoDay")) (.ref (cs "NoRow")) = some false
  ki_NoDay_NoText : PySem.W.kitOne K (.ref (cs "NoDay")) (.ref (cs "NoText")) = some false
  ki_NoDay_ValueError : PySem.W.kitOne K (.ref (cs "NoDay")) (.type "ValueError") = some true
  em_NoPlan_SkyError : PySem.W.exmOne K (.ref (cs "NoPlan")) (.ref (cs "SkyError")) = some true
  is_NoPlan : Caught.ExcIs K (cs "NoPlan")
  ki_NoPlan_NoDay : PySem.W.kitOne K (.ref (cs "NoPlan")) (.ref (cs "NoDay")) = some false
  ki_NoPlan_NoPlan : PySem.W.kitOne K (.ref (cs "NoPlan")) (.ref (cs "NoPlan")) = some true
  ki_NoPlan_NoNumbers : PySem.W.kitOne K (.ref (cs "NoPlan")) (.ref (cs "NoNumbers")) = some false
  ki_NoPlan_NoRests : PySem.W.kitOne K (.ref (cs "NoPlan")) (.ref (cs "NoRests")) = some false
  ki_NoPlan_NoLost : PySem.W.kitOne K (.ref (cs "NoPlan")) (.ref (cs "NoLost")) = some false
  ki_NoPlan_NoBlock : PySem.W.kitOne K (.ref (cs "NoPlan")) (.ref (cs "NoBlock")) = some false
  ki_NoPlan_NoWorth : PySem.W.kitOne K (.ref (cs "NoPlan")) (.ref (cs "NoWorth")) = some false
  ki_NoPlan_NoHour : PySem.W.kitOne K (.ref (cs "NoPlan")) (.ref (cs "NoHour")) = some false
  ki_NoPlan_TooMany : PySem.W.kitOne K (.ref (cs "NoPlan")) (.ref (cs "TooMany")) = some false
  ki_NoPlan_DayOver : PySem.W.kitOne K (.ref (cs "NoPlan")) (.ref (cs "DayOver")) = some false
  ki_NoPlan_NoName : PySem.W.kitOne K (.ref (cs "NoPlan")) (.ref (cs "NoName")) = some false
  ki_NoPlan_NoPlace : PySem.W.kitOne K (.ref (cs "NoPlan")) (.ref (cs "NoPlace")) = some false
  ki_NoPlan_NoRow : PySem.W.kitOne K (.ref (cs "NoPlan")) (.ref (cs "NoRow")) = some false
  ki_NoPlan_NoText : PySem.W.kitOne K (.ref (cs "NoPlan")) (.ref (cs "NoText")) = some false
  ki_NoPlan_ValueError : PySem.W.kitOne K (.ref (cs "NoPlan")) (.type "ValueError") = some true
end Law

set_option Elab.async false
set_option linter.all false
set_option maxRecDepth 100000
set_option maxHeartbeats 4000000
namespace Law
open PySem PySem.Spec PyProof.Rows L2 GxR GX Tree Kit Data Loops
section
variable {P : Program} {w : World} {K : PySem.W.Frag} {mg : Str → Option Value} {base : Heap} {fa : String → Addr} {fd : String → FuncData} {ca ta : String → Addr}
/-! ### numbers, lists, tuples -/
def sp_is_number : Sp := fun vs H Q _ => ∃ v d, vs = [v] ∧ Tr [] H v d ∧ Q (.bl (isNum d)) H
theorem ok_is_number (Y : Facts K mg base fa fd ca ta) : FnOk P w K mg base CX0 1 (fa "is_number") (fd "is_number") ["thing"] sp_is_number := by
  refine Y.d_is_number.ok sc_is_number (fun vs H Q E h => ?_) (fun cdv A outer s H vs Q E hcd hr h => ?_)
  · obtain ⟨v, d, rfl, _⟩ := h; rfl
  · obtain ⟨v, d, rfl, ht, q⟩ := h
    refine ⟨_, (pss_one (ps_ret (pe_and (pe_callB (call_isiK' K rfl) (by rfl) Y.b.isinstance (by decide +kernel) (pa_cons (pv 0) (pa_cons (pe_bltn (v := .ty "int") (by rfl) Y.b.int (by decide +kernel) rfl) pa_nil))) (pe_one (pe_not (pe_callB (call_isiK' K rfl) (by rfl) Y.b.isinstance (by decide +kernel) (pa_cons (pv 0) (pa_cons (pe_bltn (v := .ty "bool") (by rfl) Y.b.bool (by decide +kernel) rfl) pa_nil)))))))), ?_⟩
    refine ⟨v, rfl, v, .ty "int", _, _, _, rfl, .ty _, ht.ty, kit_int d, _, rfl, ?_⟩
    have e : isNum d = (isiD "int" d && !isiD "bool" d) := by cases d <;> rfl
    rw [e] at q
    refine ite2 (fun c => ?_) (fun c => ?_)
    · rw [c] at q
      exact ⟨v, rfl, v, .ty "bool", _, _, _, rfl, .ty _, ht.ty, kit_bool d, _, rfl, q⟩
    · rw [Bool.not_eq_true] at c
      rw [c] at q
      exact q
def sp_is_whole : Sp := fun vs H Q _ => ∃ v d lo hi, vs = [v, .int lo, .int hi] ∧ Tr [] H v d ∧ Q (.bl (isWh lo hi d)) H
theorem ok_is_whole (Y : Facts K mg base fa fd ca ta) : FnOk P w K mg base CX0 2 (fa "is_whole") (fd "is_whole") ["thing", "least", "most"] sp_is_whole := by
  refine Y.d_is_whole.ok sc_is_whole (fun vs H Q E h => ?_) (fun cdv A outer s H vs Q E hcd hr h => ?_)
  · obtain ⟨v, d, lo, hi, rfl, _⟩ := h; rfl
  · obtain ⟨v, d, lo, hi, rfl, ht, q⟩ := h
    refine ⟨_, (pss_one (ps_ret (pe_and (pe_call (ok_is_number Y) (hr.mono (by decide)) (by rfl) Y.d_is_number.g Y.d_is_number.kp Y.d_is_number.b .nil pass0 (pa_cons (pv 0) pa_nil)) (pe_one (pe_chain op_le op_le (pv 1) (pv 0) (pv 2)))))), ?_⟩
    refine ⟨v, rfl, v, d, rfl, ht, _, rfl, ?_⟩
    refine ite2 (fun c => ?_) (fun c => ?_)
    · cases ht with
      | int i =>
        refine ⟨_, rfl, _, rfl, _, _, rfl, rfl, _, rfl, ?_⟩
        refine ite2 (fun c1 => ?_) (fun c1 => ?_)
        · refine ⟨_, rfl, _, _, rfl, rfl, ?_⟩
          have q' : Q (.bl (decide (lo ≤ i) && decide (i ≤ hi))) H := q
          rw [c1] at q'
          exact q'
        · have q' : Q (.bl (decide (lo ≤ i) && decide (i ≤ hi))) H := q
          rw [Bool.not_eq_true] at c1
          rw [c1] at q'
          exact q'
      | _ => cases c
    · have e : isWh lo hi d = false := by cases d <;> first | rfl | exact absurd rfl c
      rw [e] at q
      exact q
def sp_is_list : Sp := fun vs H Q _ => ∃ v d lo hi, vs = [v, .int lo, .int hi] ∧ Tr [] H v d ∧ Q (.bl (isLs lo hi d)) H
theorem ok_is_list (Y : Facts K mg base fa fd ca ta) : FnOk P w K mg base CX0 1 (fa "is_list") (fd "is_list") ["thing", "least", "most"] sp_is_list := by
  refine Y.d_is_list.ok sc_is_list (fun vs H Q E h => ?_) (fun cdv A outer s H vs Q E hcd hr h => ?_)
  · obtain ⟨v, d, lo, hi, rfl, _⟩ := h; rfl
  · obtain ⟨v, d, lo, hi, rfl, ht, q⟩ := h
    refine ⟨_, (pss_one (ps_ret (pe_and (pe_callB (call_isiK' K rfl) (by rfl) Y.b.isinstance (by decide +kernel) (pa_cons (pv 0) (pa_cons (pe_bltn (v := .ty "list") (by rfl) Y.b.list (by decide +kernel) rfl) pa_nil))) (pe_one (pe_chain op_le op_le (pv 1) (pe_callB (call_lenK K rfl) (by rfl) Y.b.len (by decide +kernel) (pa_cons (pv 0) pa_nil)) (pv 2)))))), ?_⟩
    refine ⟨v, rfl, v, .ty "list", _, _, _, rfl, .ty _, ht.ty, kit_list d, _, rfl, ?_⟩
    refine ite2 (fun c => ?_) (fun c => ?_)
    · cases ht with
      | lst n h l =>
        rename_i a xs ds
        have hl := l.length
        refine ⟨_, rfl, _, rfl, a, xs, rfl, .inl (SqL.of h), _, _, rfl, rfl, _, rfl, ?_⟩
        have q' : Q (.bl (decide (lo ≤ (ds.length : Int)) && decide ((ds.length : Int) ≤ hi))) H := q
        rw [← hl] at q'
        refine ite2 (fun c1 => ?_) (fun c1 => ?_)
        · refine ⟨_, rfl, _, _, rfl, rfl, ?_⟩
          rw [c1] at q'
          exact q'
        · rw [Bool.not_eq_true] at c1
          rw [c1] at q'
          exact q'
      | _ => cases c
    · have e : isLs lo hi d = false := by cases d <;> first | rfl | exact absurd rfl c
      rw [e] at q
      exact q
def sp_is_tuple : Sp := fun vs H Q _ => ∃ v d n, vs = [v, .int n] ∧ Tr [] H v d ∧ Q (.bl (isTp n d)) H
theorem ok_is_tuple (Y : Facts K mg base fa fd ca ta) : FnOk P w K mg base CX0 1 (fa "is_tuple") (fd "is_tuple") ["thing", "many"] sp_is_tuple := by
  refine Y.d_is_tuple.ok sc_is_tuple (fun vs H Q E h => ?_) (fun cdv A outer s H vs Q E hcd hr h => ?_)
  · obtain ⟨v, d, n, rfl, _⟩ := h; rfl
  · obtain ⟨v, d, n, rfl, ht, q⟩ := h
    refine ⟨_, (pss_one (ps_ret (pe_and (pe_callB (call_isiK' K rfl) (by rfl) Y.b.isinstance (by decide +kernel) (pa_cons (pv 0) (pa_cons (pe_bltn (v := .ty "tuple") (by rfl) Y.b.tuple (by decide +kernel) rfl) pa_nil))) (pe_one (pe_cmpR op_eq (pe_callB (call_lenK K rfl) (by rfl) Y.b.len (by decide +kernel) (pa_cons (pv 0) pa_nil)) (pv 1) (nomark _)))))), ?_⟩
    refine ⟨v, rfl, v, .ty "tuple", _, _, _, rfl, .ty _, ht.ty, kit_tuple d, _, rfl, ?_⟩
    refine ite2 (fun c => ?_) (fun c => ?_)
    · cases ht with
      | tup m h l =>
        rename_i a xs ds
        have hl := l.length
        refine ⟨_, rfl, a, xs, rfl, .inr (SqT.of h), _, rfl, rfl, ?_⟩
        have e : decide (V.int (xs.length : Int) = V.int n) = decide ((ds.length : Int) = n) := by
          rw [hl]
          by_cases z : (ds.length : Int) = n
          · rw [decide_eq_true z, z, decide_eq_true rfl]
          · rw [decide_eq_false z, decide_eq_false (fun y => z (V.int.inj y))]
        rw [e]
        exact q
      | _ => cases c
    · have e : isTp n d = false := by cases d <;> first | rfl | exact absurd rfl c
      rw [e] at q
      exact q
/-! ### rising -/
theorem getD_at {α : Type} : ∀ (l : List α) (d : α) {i : Nat} (h : i < l.length), l.getD i d = l[i]
  | [], _, _, h => absurd h (Nat.not_lt_zero _)
  | _ :: _, _, 0, _ => rfl
  | _ :: r, d, i + 1, h => getD_at r d (Nat.lt_of_succ_lt_succ h)
def risesN (ns : List Int) : Bool := (List.range (ns.length - 1)).all fun i => decide (ns.getD i 0 < ns.getD (i + 1) 0)
theorem risesN_eq : ∀ ns : List Int, risesN ns = risesB ns := by
  intro ns
  unfold risesN risesB
  rw [Bool.eq_iff_iff, List.all_eq_true, decide_eq_true_eq]
  constructor
  · intro h
    rw [List.pairwise_iff_getElem]
    have key : ∀ j i (hij : i < j) (hj : j < ns.length), ns[i]'(by omega) < ns[j] := by
      intro j
      induction j with
      | zero => intro i hij; omega
      | succ j ih =>
        intro i hij hj
        have h1 := of_decide_eq_true (h j (List.mem_range.mpr (by omega)))
        rw [getD_at _ _ (by omega), getD_at _ _ hj] at h1
        rcases Nat.lt_or_eq_of_le (Nat.le_of_lt_succ hij) with z | z
        · have := ih i z (by omega)
          omega
        · subst z
          exact h1
    intro i j hi hj hij
    exact key j i hij hj
  · intro h i hi
    have hi' := List.mem_range.mp hi
    rw [getD_at _ _ (by omega), getD_at _ _ (by omega)]
    exact decide_eq_true (List.pairwise_iff_getElem.mp h i (i + 1) (by omega) (by omega) (by omega))
def sp_rises (ta : String → Addr) : Sp := fun vs H Q _ => ∃ a ns, vs = [.ref a] ∧ H a = some (.lst (ns.map V.int)) ∧ ns.length ≤ 100000 ∧ Tb (Ts ta) H ∧ ∀ H', Kx [] H H' → Q (.bl (risesB ns)) H'
theorem ok_rises (Y : Facts K mg base fa fd ca ta) : FnOk P w K mg base CX0 2 (fa "rises") (fd "rises") ["things"] (sp_rises ta) := by
  refine Y.d_rises.ok sc_rises (fun vs H Q E h => ?_) (fun cdv A outer s H vs Q E hcd hr h => ?_)
  · obtain ⟨a, ns, rfl, _⟩ := h; rfl
  · obtain ⟨a, ns, rfl, ha, hz, hT, q⟩ := h
    refine ⟨_, (pss_one (ps_ret (pe_allG (own := [("at", 1)]) (g := gName 1) (tt := tYes) (hr.mono (by decide)) rfl sc_rises.nd (by rfl) Y.b.all Y.t_rises.tb (hcd.symm.trans Y.t_rises.code) (gok_by (N := ["things", "at"]) (sc := defScope s_rises) (by decide +kernel)) (pi_range1 (by rfl) Y.b.range (pa_cons (pe_op op_sub (pe_callB (call_lenK K rfl) (by rfl) Y.b.len (by decide +kernel) (pa_cons (pv 0) pa_nil)) pe_int) pa_nil)) (fun _ _ _ _ _ _ _ => (pg_name (i := 1) sc_rises.nd rfl (by first | exact Or.inl rfl | exact Or.inr rfl))) (fun _ _ _ _ _ _ _ => pts_nil) (fun _ _ _ _ _ _ _ => (pe_cmpR op_lt (pe_ix (ix_listK K rfl) (pv 0) (pv 1) (fun _ _ => rfl)) (pe_ix (ix_listK K rfl) (pv 0) (pe_op op_add (pv 1) pe_int) (fun _ _ => rfl)) (nomark _)))))), ?_⟩
    refine ⟨_, rfl, a, _, rfl, .inl (SqL.of ha), _, _, rfl, rfl, (ns.length : Int) - 1, by rw [List.length_map], ?_, ?_, ?_⟩
    · omega
    · omega
    · rw [show ((ns.length : Int) - 1).toNat = ns.length - 1 by omega]
      refine all_range (p := fun i => decide (ns.getD i 0 < ns.getD (i + 1) 0)) (tab_rises hT) (fun i H' hi k R hR => ?_) fun H' k => ?_
      · have ha' := k.lst (by simp) ha
        refine ⟨rfl, _, rfl, _, rfl, a, _, _, _, rfl, rfl, SqL.of ha', atI_nat (j := i) (by rw [List.getElem?_map, List.getElem?_eq_getElem (by omega)]; rfl), _, rfl, _, rfl, _, _, rfl, rfl, a, _, _, _, rfl, rfl, SqL.of ha', at_of (j := i + 1) (by simp) (by rw [List.getElem?_map, List.getElem?_eq_getElem (by omega)]; rfl), _, _, rfl, rfl, _, rfl, ?_⟩
        have := hR H' (Kx.refl _)
        simp only [getD_at _ _ (show i < ns.length by omega), getD_at _ _ (show i + 1 < ns.length by omega)] at this
        exact this
      · have := q H' k
        rw [← risesN_eq] at this
        exact this
/-! ### the parts of a day -/
theorem TrAll.intsV {B : List Addr} {H : Hp} {xs : List V} {ds : List PyData} (h : TrAll B H xs ds) (e : ds = (intsD ds).map PyData.int) : xs = (intsD ds).map V.int := by
  have key : ∀ (ns : List Int) (xs : List V), TrAll B H xs (ns.map PyData.int) → xs = ns.map V.int := by
    intro ns
    induction ns with
    | nil => intro xs h; cases h; rfl
    | cons n r ih =>
      intro xs h
      cases h with
      | cons h1 h2 =>
        cases h1
        rw [ih _ h2]
        rfl
  rw [e] at h
  exact key _ _ h
def sp_are_heard (ta : String → Addr) : Sp := fun vs H Q _ => ∃ v d craft, vs = [v, .int craft] ∧ Tr [] H v d ∧ sz d ≤ 100000 ∧ Tb (Ts ta) H ∧ ∀ H', Kx [] H H' → Q (.bl (heardB craft d)) H'
theorem ok__are_heard (Y : Facts K mg base fa fd ca ta) : FnOk P w K mg base CX0 4 (fa "_are_heard") (fd "_are_heard") ["thing", "craft"] (sp_are_heard ta) := by
  refine Y.d__are_heard.ok sc__are_heard (fun vs H Q E h => ?_) (fun cdv A outer s H vs Q E hcd hr h => ?_)
  · obtain ⟨v, d, cr, rfl, _⟩ := h; rfl
  · obtain ⟨v, d, cr, rfl, ht, hz, hT, q⟩ := h
    refine ⟨_, (pss_one (ps_ret (pe_and (pe_callB (call_isiK' K rfl) (by rfl) Y.b.isinstance (by decide +kernel) (pa_cons (pv 0) (pa_cons (pe_bltn (v := .ty "list") (by rfl) Y.b.list (by decide +kernel) rfl) pa_nil))) (pe_and (pe_allG (own := [("number", 2)]) (g := gName 2) (tt := tYes) (hr.mono (by decide)) rfl sc__are_heard.nd (by rfl) Y.b.all Y.t__are_heard.tb (hcd.symm.trans Y.t__are_heard.code) (gok_by (N := ["thing", "craft", "number"]) (sc := defScope s__are_heard) (by decide +kernel)) (pi_listK K rfl (pv 0)) (fun _ _ _ _ _ _ _ => (pg_name (i := 2) sc__are_heard.nd rfl (by first | exact Or.inl rfl | exact Or.inr rfl))) (fun _ _ _ _ _ _ _ => pts_nil) (fun _ _ _ _ _ _ _ => (pe_call (ok_is_whole Y) ((room_gen (k := 2) (hr.mono (by decide)) _).mono (by decide)) (by rfl) Y.d_is_whole.g Y.d_is_whole.kp Y.d_is_whole.b .nil pass0 (pa_cons (pv 2) (pa_cons pe_int (pa_cons (pe_op op_sub (pv 1) pe_int) pa_nil)))))) (pe_one (pe_call (ok_rises Y) (hr.mono (by decide)) (by rfl) Y.d_rises.g Y.d_rises.kp Y.d_rises.b .nil pass0 (pa_cons (pv 0) pa_nil))))))), ?_⟩
    refine ⟨v, rfl, v, .ty "list", _, _, _, rfl, .ty _, ht.ty, kit_list d, _, rfl, ?_⟩
    refine ite2 (fun c => ?_) (fun c => ?_)
    · cases ht with
      | lst n h l =>
        rename_i a xs ds
        refine all_treeV (isWh 0 (cr - 1)) rfl h l (tab__are_heard hT) (fun x d H' hd t k R hR => ?_) fun H' k => ⟨_, rfl, ?_⟩
        · exact ⟨rfl, x, rfl, _, rfl, _, _, rfl, rfl, x, d, 0, cr - 1, rfl, t, _, rfl, hR H' (Kx.refl _)⟩
        · refine ite2 (fun c => ?_) (fun c => ?_)
          · have ei := all_ints c
            refine ⟨_, rfl, a, intsD ds, rfl, ?_, ?_, hT.kx k, fun H'' k2 => ?_⟩
            · rw [← TrAll.intsV l ei]
              exact k.lst (by simp) h
            · have h1 := intsD_length ds
              have h2 := szAll_len ds
              simp only [sz] at hz
              omega
            · have := q H'' (k.trans k2)
              simp only [heardB, c, Bool.true_and] at this
              exact this
          · rw [Bool.not_eq_true] at c
            have := q H' k
            simp only [heardB, c, Bool.false_and] at this
            exact this
      | _ => cases c
    · have e : heardB cr d = false := by cases d <;> first | rfl | exact absurd rfl c
      have := q H (Kx.refl _)
      rw [e] at this
      exact this
theorem sz_in {d : PyData} {ds : List PyData} (h : d ∈ ds) (hz : sz (.list ds) ≤ 100000) : sz d ≤ 100000 := by
  have h1 := szAll_mem h
  simp only [sz] at hz
  omega
theorem sz_inT {d : PyData} {ds : List PyData} (h : d ∈ ds) (hz : sz (.tuple ds) ≤ 100000) : sz d ≤ 100000 := by
  have h1 := szAll_mem h
  simp only [sz] at hz
  omega
/-- a list's test by its length, then by its items -/
theorem lsall_false {lo hi : Int} {p : PyData → Bool} {d : PyData} (h : isLs lo hi d = false) : (isLs lo hi d && listAll p d) = false := by rw [h]; rfl
def sp_is_sight (ta : String → Addr) : Sp := fun vs H Q _ => ∃ v d h cr, vs = [v, .int h, .int cr] ∧ Tr [] H v d ∧ sz d ≤ 100000 ∧ Tb (Ts ta) H ∧ ∀ H', Kx [] H H' → Q (.bl (sightB h cr d)) H'
theorem ok__is_sight (Y : Facts K mg base fa fd ca ta) : FnOk P w K mg base CX0 6 (fa "_is_sight") (fd "_is_sight") ["thing", "hours", "craft"] (sp_is_sight ta) := by
  refine Y.d__is_sight.ok sc__is_sight (fun vs H Q E h => ?_) (fun cdv A outer s H vs Q E hcd hr h => ?_)
  · obtain ⟨v, d, h, cr, rfl, _⟩ := h; rfl
  · obtain ⟨v, d, h, cr, rfl, ht, hz, hT, q⟩ := h
    refine ⟨_, (pss_one (ps_ret (pe_and (pe_call (ok_is_list Y) (hr.mono (by decide)) (by rfl) Y.d_is_list.g Y.d_is_list.kp Y.d_is_list.b .nil pass0 (pa_cons (pv 0) (pa_cons (pv 1) (pa_cons (pv 1) pa_nil)))) (pe_one (pe_allG (own := [("heard", 3)]) (g := gName 3) (tt := tYes) (hr.mono (by decide)) rfl sc__is_sight.nd (by rfl) Y.b.all Y.t__is_sight.tb (hcd.symm.trans Y.t__is_sight.code) (gok_by (N := ["thing", "hours", "craft", "heard"]) (sc := defScope s__is_sight) (by decide +kernel)) (pi_listK K rfl (pv 0)) (fun _ _ _ _ _ _ _ => (pg_name (i := 3) sc__is_sight.nd rfl (by first | exact Or.inl rfl | exact Or.inr rfl))) (fun _ _ _ _ _ _ _ => pts_nil) (fun _ _ _ _ _ _ _ => (pe_call (ok__are_heard Y) ((room_gen (k := 4) (hr.mono (by decide)) _).mono (by decide)) (by rfl) Y.d__are_heard.g Y.d__are_heard.kp Y.d__are_heard.b .nil pass0 (pa_cons (pv 3) (pa_cons (pv 2) pa_nil))))))))), ?_⟩
    refine ⟨v, rfl, _, rfl, _, rfl, v, d, h, h, rfl, ht, _, rfl, ?_⟩
    refine ite2 (fun c => ?_) (fun c => ?_)
    · obtain ⟨ds, rfl, _, _⟩ := isLs_list c
      cases ht with
      | lst n ha l =>
        refine all_treeV (heardB cr) rfl ha l (tab__is_sight hT) (fun x d H' hd t k R hR => ?_) fun H' k => ?_
        · exact ⟨rfl, x, rfl, _, rfl, x, d, cr, rfl, t, sz_in hd hz, hT.kx k, fun H'' k2 => ⟨_, rfl, hR H'' k2⟩⟩
        · have := q H' k
          simp only [sightB, c, Bool.true_and] at this
          exact this
    · rw [Bool.not_eq_true] at c
      have := q H (Kx.refl _)
      rw [show sightB h cr d = false from lsall_false c] at this
      exact this
def sp_are_sights (ta : String → Addr) : Sp := fun vs H Q _ => ∃ v d h cr, vs = [v, .int h, .int cr] ∧ Tr [] H v d ∧ sz d ≤ 100000 ∧ Tb (Ts ta) H ∧ ∀ H', Kx [] H H' → Q (.bl (sightsB h cr d)) H'
theorem ok__are_sights (Y : Facts K mg base fa fd ca ta) : FnOk P w K mg base CX0 8 (fa "_are_sights") (fd "_are_sights") ["thing", "hours", "craft"] (sp_are_sights ta) := by
  refine Y.d__are_sights.ok sc__are_sights (fun vs H Q E h => ?_) (fun cdv A outer s H vs Q E hcd hr h => ?_)
  · obtain ⟨v, d, h, cr, rfl, _⟩ := h; rfl
  · obtain ⟨v, d, h, cr, rfl, ht, hz, hT, q⟩ := h
    refine ⟨_, (pss_one (ps_ret (pe_and (pe_call (ok_is_list Y) (hr.mono (by decide)) (by rfl) Y.d_is_list.g Y.d_is_list.kp Y.d_is_list.b .nil pass0 (pa_cons (pv 0) (pa_cons pe_int (pa_cons (pe_gint (by rfl) Y.c_MOST_DISHES) pa_nil)))) (pe_one (pe_allG (own := [("sight", 3)]) (g := gName 3) (tt := tYes) (hr.mono (by decide)) rfl sc__are_sights.nd (by rfl) Y.b.all Y.t__are_sights.tb (hcd.symm.trans Y.t__are_sights.code) (gok_by (N := ["thing", "hours", "craft", "sight"]) (sc := defScope s__are_sights) (by decide +kernel)) (pi_listK K rfl (pv 0)) (fun _ _ _ _ _ _ _ => (pg_name (i := 3) sc__are_sights.nd rfl (by first | exact Or.inl rfl | exact Or.inr rfl))) (fun _ _ _ _ _ _ _ => pts_nil) (fun _ _ _ _ _ _ _ => (pe_call (ok__is_sight Y) ((room_gen (k := 6) (hr.mono (by decide)) _).mono (by decide)) (by rfl) Y.d__is_sight.g Y.d__is_sight.kp Y.d__is_sight.b .nil pass0 (pa_cons (pv 3) (pa_cons (pv 1) (pa_cons (pv 2) pa_nil)))))))))), ?_⟩
    refine ⟨v, rfl, v, d, 1, 3, rfl, ht, _, rfl, ?_⟩
    refine ite2 (fun c => ?_) (fun c => ?_)
    · obtain ⟨ds, rfl, _, _⟩ := isLs_list c
      cases ht with
      | lst n ha l =>
        refine all_treeV (sightB h cr) rfl ha l (tab__are_sights hT) (fun x d H' hd t k R hR => ?_) fun H' k => ?_
        · exact ⟨rfl, x, rfl, _, rfl, _, rfl, x, d, h, cr, rfl, t, sz_in hd hz, hT.kx k, fun H'' k2 => ⟨_, rfl, hR H'' k2⟩⟩
        · have := q H' k
          simp only [sightsB, c, Bool.true_and] at this
          exact this
    · rw [Bool.not_eq_true] at c
      have := q H (Kx.refl _)
      rw [show sightsB h cr d = false from lsall_false c] at this
      exact this
def sp_are_stores (ta : String → Addr) : Sp := fun vs H Q _ => ∃ v d, vs = [v] ∧ Tr [] H v d ∧ Tb (Ts ta) H ∧ ∀ H', Kx [] H H' → Q (.bl (storesB d)) H'
theorem ok__are_stores (Y : Facts K mg base fa fd ca ta) : FnOk P w K mg base CX0 4 (fa "_are_stores") (fd "_are_stores") ["thing"] (sp_are_stores ta) := by
  refine Y.d__are_stores.ok sc__are_stores (fun vs H Q E h => ?_) (fun cdv A outer s H vs Q E hcd hr h => ?_)
  · obtain ⟨v, d, rfl, _⟩ := h; rfl
  · obtain ⟨v, d, rfl, ht, hT, q⟩ := h
    refine ⟨_, (pss_one (ps_ret (pe_and (pe_call (ok_is_list Y) (hr.mono (by decide)) (by rfl) Y.d_is_list.g Y.d_is_list.kp Y.d_is_list.b .nil pass0 (pa_cons (pv 0) (pa_cons pe_int (pa_cons (pe_gint (by rfl) Y.c_MOST_CRAFT) pa_nil)))) (pe_one (pe_allG (own := [("store", 1)]) (g := gName 1) (tt := tYes) (hr.mono (by decide)) rfl sc__are_stores.nd (by rfl) Y.b.all Y.t__are_stores.tb (hcd.symm.trans Y.t__are_stores.code) (gok_by (N := ["thing", "store"]) (sc := defScope s__are_stores) (by decide +kernel)) (pi_listK K rfl (pv 0)) (fun _ _ _ _ _ _ _ => (pg_name (i := 1) sc__are_stores.nd rfl (by first | exact Or.inl rfl | exact Or.inr rfl))) (fun _ _ _ _ _ _ _ => pts_nil) (fun _ _ _ _ _ _ _ => (pe_call (ok_is_whole Y) ((room_gen (k := 2) (hr.mono (by decide)) _).mono (by decide)) (by rfl) Y.d_is_whole.g Y.d_is_whole.kp Y.d_is_whole.b .nil pass0 (pa_cons (pv 1) (pa_cons pe_int (pa_cons (pe_gint (by rfl) Y.c_MOST_STORE) pa_nil)))))))))), ?_⟩
    refine ⟨v, rfl, v, d, 1, 4, rfl, ht, _, rfl, ?_⟩
    refine ite2 (fun c => ?_) (fun c => ?_)
    · obtain ⟨ds, rfl, _, _⟩ := isLs_list c
      cases ht with
      | lst n ha l =>
        refine all_treeV (isWh 0 5) rfl ha l (tab__are_stores hT) (fun x d H' hd t k R hR => ?_) fun H' k => ?_
        · exact ⟨rfl, x, rfl, x, d, 0, 5, rfl, t, _, rfl, hR H' (Kx.refl _)⟩
        · have := q H' k
          simp only [storesB, c, Bool.true_and] at this
          exact this
    · rw [Bool.not_eq_true] at c
      have := q H (Kx.refl _)
      rw [show storesB d = false from lsall_false c] at this
      exact this
def sp_are_asks (ta : String → Addr) : Sp := fun vs H Q _ => ∃ v d n, vs = [v, .int n] ∧ Tr [] H v d ∧ Tb (Ts ta) H ∧ ∀ H', Kx [] H H' → Q (.bl (asksB n d)) H'
theorem isNone_v {B : List Addr} {H : Hp} {x : V} {d : PyData} (t : Tr B H x d) : decide (x = V.non) = isNone d := by
  cases t <;> first | rfl | exact decide_eq_false (fun z => by cases z)
theorem ok__are_asks (Y : Facts K mg base fa fd ca ta) : FnOk P w K mg base CX0 4 (fa "_are_asks") (fd "_are_asks") ["thing", "dishes"] (sp_are_asks ta) := by
  refine Y.d__are_asks.ok sc__are_asks (fun vs H Q E h => ?_) (fun cdv A outer s H vs Q E hcd hr h => ?_)
  · obtain ⟨v, d, n, rfl, _⟩ := h; rfl
  · obtain ⟨v, d, n, rfl, ht, hT, q⟩ := h
    refine ⟨_, (pss_one (ps_ret (pe_and (pe_call (ok_is_list Y) (hr.mono (by decide)) (by rfl) Y.d_is_list.g Y.d_is_list.kp Y.d_is_list.b .nil pass0 (pa_cons (pv 0) (pa_cons (pv 1) (pa_cons (pv 1) pa_nil)))) (pe_one (pe_allG (own := [("ask", 2)]) (g := gName 2) (tt := tYes) (hr.mono (by decide)) rfl sc__are_asks.nd (by rfl) Y.b.all Y.t__are_asks.tb (hcd.symm.trans Y.t__are_asks.code) (gok_by (N := ["thing", "dishes", "ask"]) (sc := defScope s__are_asks) (by decide +kernel)) (pi_listK K rfl (pv 0)) (fun _ _ _ _ _ _ _ => (pg_name (i := 2) sc__are_asks.nd rfl (by first | exact Or.inl rfl | exact Or.inr rfl))) (fun _ _ _ _ _ _ _ => pts_nil) (fun _ _ _ _ _ _ _ => (pe_or (pe_cmpR op_isN (pv 2) pe_non (nomark _)) (pe_one (pe_call (ok_is_whole Y) ((room_gen (k := 2) (hr.mono (by decide)) _).mono (by decide)) (by rfl) Y.d_is_whole.g Y.d_is_whole.kp Y.d_is_whole.b .nil pass0 (pa_cons (pv 2) (pa_cons pe_int (pa_cons (pe_gint (by rfl) Y.c_MOST_ASK) pa_nil)))))))))))), ?_⟩
    refine ⟨v, rfl, _, rfl, _, rfl, v, d, n, n, rfl, ht, _, rfl, ?_⟩
    refine ite2 (fun c => ?_) (fun c => ?_)
    · obtain ⟨ds, rfl, _, _⟩ := isLs_list c
      cases ht with
      | lst m ha l =>
        refine all_treeV (fun a => isNone a || isWh 0 999 a) rfl ha l (tab__are_asks hT) (fun x d H' hd t k R hR => ?_) fun H' k => ?_
        · refine ⟨rfl, x, rfl, rfl, _, rfl, ?_⟩
          rw [isNone_v t]
          refine ite2 (fun c => ?_) (fun c => ?_)
          · refine ⟨_, rfl, ?_⟩
            have := hR H' (Kx.refl _)
            rw [c] at this
            exact this
          · rw [Bool.not_eq_true] at c
            refine ⟨x, rfl, x, d, 0, 999, rfl, t, _, rfl, ?_⟩
            have := hR H' (Kx.refl _)
            rw [c] at this
            exact this
        · have := q H' k
          simp only [asksB, c, Bool.true_and] at this
          exact this
    · rw [Bool.not_eq_true] at c
      have := q H (Kx.refl _)
      rw [show asksB n d = false from lsall_false c] at this
      exact this
def sp_is_block : Sp := fun vs H Q _ => ∃ v d h cr, vs = [v, .int h, .int cr] ∧ Tr [] H v d ∧ Q (.bl (blockB h cr d)) H
theorem TrAll.five {B : List Addr} {H : Hp} {xs : List V} {a b c d e : PyData} (h : TrAll B H xs [a, b, c, d, e]) : ∃ v1 v2 v3 v4 v5, xs = [v1, v2, v3, v4, v5] ∧ Tr B H v1 a ∧ Tr B H v2 b ∧ Tr B H v3 c ∧ Tr B H v4 d ∧ Tr B H v5 e := by
  cases h with
  | cons h1 r => cases r with
    | cons h2 r => cases r with
      | cons h3 r => cases r with
        | cons h4 r => cases r with
          | cons h5 r => cases r; exact ⟨_, _, _, _, _, rfl, h1, h2, h3, h4, h5⟩
/-- a && .. answered from the left -/
theorem andV {a b : Bool} {A : Prop} {R : Bool → Prop} (q : R (a && b)) (h1 : a = true → R b → A) : if a = true then A else R false := by
  cases a with
  | true => exact iteT (h1 rfl q)
  | false => exact iteF q
theorem orV {a b : Bool} {A : Prop} {R : Bool → Prop} (q : R (a || b)) (h1 : a = false → R b → A) : if a = true then R true else A := by
  cases a with
  | true => exact iteT q
  | false => exact iteF (h1 rfl q)
theorem ok_is_block (Y : Facts K mg base fa fd ca ta) : FnOk P w K mg base CX0 3 (fa "is_block") (fd "is_block") ["thing", "hours", "craft"] sp_is_block := by
  refine Y.d_is_block.ok sc_is_block (fun vs H Q E h => ?_) (fun cdv A outer s H vs Q E hcd hr h => ?_)
  · obtain ⟨v, d, h, cr, rfl, _⟩ := h; rfl
  · obtain ⟨v, d, h, cr, rfl, ht, q⟩ := h
    refine ⟨_, (pss_cons (ps_if (pt_not (pt_val (pe_call (ok_is_tuple Y) (hr.mono (by decide)) (by rfl) Y.d_is_tuple.g Y.d_is_tuple.kp Y.d_is_tuple.b .nil pass0 (pa_cons (pv 0) (pa_cons pe_int pa_nil))))) (pss_one (ps_ret pe_bl)) pss_nil)
      (pss_cons (ps_asg (pv 0) (pg_tupK (n := 5) K rfl rfl (pgs_cons (pg_name (i := 3) sc_is_block.nd rfl (by first | exact Or.inl rfl | exact Or.inr rfl)) (pgs_cons (pg_name (i := 4) sc_is_block.nd rfl (by first | exact Or.inl rfl | exact Or.inr rfl)) (pgs_cons (pg_name (i := 5) sc_is_block.nd rfl (by first | exact Or.inl rfl | exact Or.inr rfl)) (pgs_cons (pg_name (i := 6) sc_is_block.nd rfl (by first | exact Or.inl rfl | exact Or.inr rfl)) (pgs_cons (pg_name (i := 7) sc_is_block.nd rfl (by first | exact Or.inl rfl | exact Or.inr rfl)) pgs_nil)))))))
      (pss_one (ps_ret (pe_and (pe_call (ok_is_whole Y) (hr.mono (by decide)) (by rfl) Y.d_is_whole.g Y.d_is_whole.kp Y.d_is_whole.b .nil pass0 (pa_cons (pv 3) (pa_cons pe_int (pa_cons (pe_gint (by rfl) Y.c_MOST_HOUSE) pa_nil)))) (pe_and (pe_call (ok_is_whole Y) (hr.mono (by decide)) (by rfl) Y.d_is_whole.g Y.d_is_whole.kp Y.d_is_whole.b .nil pass0 (pa_cons (pv 4) (pa_cons pe_int (pa_cons (pe_op op_sub (pv 2) pe_int) pa_nil)))) (pe_and (pe_call (ok_is_whole Y) (hr.mono (by decide)) (by rfl) Y.d_is_whole.g Y.d_is_whole.kp Y.d_is_whole.b .nil pass0 (pa_cons (pv 5) (pa_cons pe_int (pa_cons (pe_op op_sub (pv 1) pe_int) pa_nil)))) (pe_and (pe_or (pe_cmpR op_isN (pv 6) pe_non (nomark _)) (pe_one (pe_call (ok_is_whole Y) (hr.mono (by decide)) (by rfl) Y.d_is_whole.g Y.d_is_whole.kp Y.d_is_whole.b .nil pass0 (pa_cons (pv 6) (pa_cons (pv 5) (pa_cons (pe_op op_sub (pv 1) pe_int) pa_nil)))))) (pe_one (pe_call (ok_is_whole Y) (hr.mono (by decide)) (by rfl) Y.d_is_whole.g Y.d_is_whole.kp Y.d_is_whole.b .nil pass0 (pa_cons (pv 7) (pa_cons pe_int (pa_cons (pe_gint (by rfl) Y.c_MOST_WORTH) pa_nil))))))))))))), ?_⟩
    refine ⟨v, rfl, v, d, 5, rfl, ht, _, rfl, ?_⟩
    refine ite2 (fun c => ?_) (fun c => ?_)
    · have e : blockB h cr d = false := by
        cases d with
        | tuple xs =>
          match xs with
          | [a, b, c', d', e'] => cases c
          | [] => rfl
          | [_] => rfl
          | [_, _] => rfl
          | [_, _, _] => rfl
          | [_, _, _, _] => rfl
          | _ :: _ :: _ :: _ :: _ :: _ :: _ => rfl
        | _ => rfl
      rw [e] at q
      exact q
    · have c : isTp 5 d = true := by
        cases z : isTp 5 d with
        | true => rfl
        | false => rw [z] at c; exact absurd rfl c
      obtain ⟨ds, rfl, hl⟩ := isTp_tuple c
      obtain ⟨ho, nu, re, du, wo, rfl⟩ := tuple5 hl
      cases ht with
      | tup m ha l =>
        rename_i a xs
        obtain ⟨v1, v2, v3, v4, v5, rfl, t1, t2, t3, t4, t5⟩ := TrAll.five l
        refine ⟨.ref a, rfl, a, _, rfl, SqT.of ha, rfl, v1, _, rfl, v2, _, rfl, v3, _, rfl, v4, _, rfl, v5, _, rfl, rfl, ?_⟩
        refine ⟨_, rfl, _, ho, 0, 5, rfl, t1, _, rfl, andV (R := fun b => Q (.bl b) H) q fun _ q => ?_⟩
        refine ⟨_, rfl, _, rfl, _, _, rfl, rfl, _, nu, 0, cr - 1, rfl, t2, _, rfl, andV (R := fun b => Q (.bl b) H) q fun _ q => ?_⟩
        refine ⟨_, rfl, _, rfl, _, _, rfl, rfl, _, re, 0, h - 1, rfl, t3, _, rfl, andV (R := fun b => Q (.bl b) H) q fun c3 q => ?_⟩
        obtain ⟨r, rfl, _, _⟩ := isWh_int c3
        cases t3
        refine ⟨_, rfl, rfl, _, rfl, ?_⟩
        rw [isNone_v t4]
        cases hn : isNone du with
        | true =>
          rw [hn] at q
          refine iteT ⟨_, rfl, andV (R := fun b => Q (.bl b) H) q fun _ q => ?_⟩
          exact ⟨v5, rfl, v5, wo, 1, 9999, rfl, t5, q⟩
        | false =>
          rw [hn] at q
          refine iteF ⟨v4, rfl, _, rfl, _, rfl, _, _, rfl, rfl, v4, du, r, h - 1, rfl, t4, _, rfl, andV (R := fun b => Q (.bl b) H) q fun _ q => ?_⟩
          exact ⟨v5, rfl, v5, wo, 1, 9999, rfl, t5, q⟩
      | _ => cases c
def sp_are_blocks (ta : String → Addr) : Sp := fun vs H Q _ => ∃ v d h cr, vs = [v, .int h, .int cr] ∧ Tr [] H v d ∧ Tb (Ts ta) H ∧ ∀ H', Kx [] H H' → Q (.bl (blocksB h cr d)) H'
theorem ok__are_blocks (Y : Facts K mg base fa fd ca ta) : FnOk P w K mg base CX0 5 (fa "_are_blocks") (fd "_are_blocks") ["thing", "hours", "craft"] (sp_are_blocks ta) := by
  refine Y.d__are_blocks.ok sc__are_blocks (fun vs H Q E h => ?_) (fun cdv A outer s H vs Q E hcd hr h => ?_)
  · obtain ⟨v, d, h, cr, rfl, _⟩ := h; rfl
  · obtain ⟨v, d, h, cr, rfl, ht, hT, q⟩ := h
    refine ⟨_, (pss_one (ps_ret (pe_and (pe_call (ok_is_list Y) (hr.mono (by decide)) (by rfl) Y.d_is_list.g Y.d_is_list.kp Y.d_is_list.b .nil pass0 (pa_cons (pv 0) (pa_cons pe_int (pa_cons (pe_gint (by rfl) Y.c_MOST_BLOCKS) pa_nil)))) (pe_one (pe_allG (own := [("block", 3)]) (g := gName 3) (tt := tYes) (hr.mono (by decide)) rfl sc__are_blocks.nd (by rfl) Y.b.all Y.t__are_blocks.tb (hcd.symm.trans Y.t__are_blocks.code) (gok_by (N := ["thing", "hours", "craft", "block"]) (sc := defScope s__are_blocks) (by decide +kernel)) (pi_listK K rfl (pv 0)) (fun _ _ _ _ _ _ _ => (pg_name (i := 3) sc__are_blocks.nd rfl (by first | exact Or.inl rfl | exact Or.inr rfl))) (fun _ _ _ _ _ _ _ => pts_nil) (fun _ _ _ _ _ _ _ => (pe_call (ok_is_block Y) ((room_gen (k := 3) (hr.mono (by decide)) _).mono (by decide)) (by rfl) Y.d_is_block.g Y.d_is_block.kp Y.d_is_block.b .nil pass0 (pa_cons (pv 3) (pa_cons (pv 1) (pa_cons (pv 2) pa_nil)))))))))), ?_⟩
    refine ⟨v, rfl, v, d, 0, 14, rfl, ht, _, rfl, ?_⟩
    refine ite2 (fun c => ?_) (fun c => ?_)
    · obtain ⟨ds, rfl, _, _⟩ := isLs_list c
      cases ht with
      | lst n ha l =>
        refine all_treeV (blockB h cr) rfl ha l (tab__are_blocks hT) (fun x d H' hd t k R hR => ?_) fun H' k => ?_
        · exact ⟨rfl, x, rfl, _, rfl, _, rfl, x, d, h, cr, rfl, t, _, rfl, hR H' (Kx.refl _)⟩
        · have := q H' k
          simp only [blocksB, c, Bool.true_and] at this
          exact this
    · rw [Bool.not_eq_true] at c
      have := q H (Kx.refl _)
      rw [show blocksB h cr d = false from lsall_false c] at this
      exact this
/-! ### a day -/
theorem storesB_list {d : PyData} (h : storesB d = true) : ∃ xs, d = .list xs := by
  have h1 : isLs 1 4 d = true := (Bool.and_eq_true_iff.mp h).1
  obtain ⟨xs, e, _⟩ := isLs_list h1
  exact ⟨xs, e⟩
theorem sightsB_list {a b : Int} {d : PyData} (h : sightsB a b d = true) : ∃ xs, d = .list xs := by
  have h1 : isLs 1 3 d = true := (Bool.and_eq_true_iff.mp h).1
  obtain ⟨xs, e, _⟩ := isLs_list h1
  exact ⟨xs, e⟩
def sp_is_day (ta : String → Addr) : Sp := fun vs H Q _ => ∃ v d, vs = [v] ∧ Tr [] H v d ∧ sz d ≤ 100000 ∧ Tb (Ts ta) H ∧ ∀ H', Kx [] H H' → Q (.bl (isDayB d)) H'
theorem ok_is_day (Y : Facts K mg base fa fd ca ta) : FnOk P w K mg base CX0 9 (fa "is_day") (fd "is_day") ["thing"] (sp_is_day ta) := by
  refine Y.d_is_day.ok sc_is_day (fun vs H Q E h => ?_) (fun cdv A outer s H vs Q E hcd hr h => ?_)
  · obtain ⟨v, d, rfl, _⟩ := h; rfl
  · obtain ⟨v, d, rfl, ht, hz, hT, q⟩ := h
    refine ⟨_, (pss_cons (ps_if (pt_not (pt_val (pe_call (ok_is_tuple Y) (hr.mono (by decide)) (by rfl) Y.d_is_tuple.g Y.d_is_tuple.kp Y.d_is_tuple.b .nil pass0 (pa_cons (pv 0) (pa_cons pe_int pa_nil))))) (pss_one (ps_ret pe_bl)) pss_nil)
      (pss_cons (ps_asg (pv 0) (pg_tupK (n := 5) K rfl rfl (pgs_cons (pg_name (i := 1) sc_is_day.nd rfl (by first | exact Or.inl rfl | exact Or.inr rfl)) (pgs_cons (pg_name (i := 2) sc_is_day.nd rfl (by first | exact Or.inl rfl | exact Or.inr rfl)) (pgs_cons (pg_name (i := 3) sc_is_day.nd rfl (by first | exact Or.inl rfl | exact Or.inr rfl)) (pgs_cons (pg_name (i := 4) sc_is_day.nd rfl (by first | exact Or.inl rfl | exact Or.inr rfl)) (pgs_cons (pg_name (i := 5) sc_is_day.nd rfl (by first | exact Or.inl rfl | exact Or.inr rfl)) pgs_nil)))))))
      (pss_one (ps_ret (pe_and (pe_call (ok_is_whole Y) (hr.mono (by decide)) (by rfl) Y.d_is_whole.g Y.d_is_whole.kp Y.d_is_whole.b .nil pass0 (pa_cons (pv 1) (pa_cons pe_int (pa_cons (pe_gint (by rfl) Y.c_MOST_HOURS) pa_nil)))) (pe_and (pe_call (ok__are_stores Y) (hr.mono (by decide)) (by rfl) Y.d__are_stores.g Y.d__are_stores.kp Y.d__are_stores.b .nil pass0 (pa_cons (pv 2) pa_nil)) (pe_and (pe_call (ok__are_sights Y) (hr.mono (by decide)) (by rfl) Y.d__are_sights.g Y.d__are_sights.kp Y.d__are_sights.b .nil pass0 (pa_cons (pv 3) (pa_cons (pv 1) (pa_cons (pe_callB (call_lenK K rfl) (by rfl) Y.b.len (by decide +kernel) (pa_cons (pv 2) pa_nil)) pa_nil)))) (pe_and (pe_call (ok__are_asks Y) (hr.mono (by decide)) (by rfl) Y.d__are_asks.g Y.d__are_asks.kp Y.d__are_asks.b .nil pass0 (pa_cons (pv 4) (pa_cons (pe_callB (call_lenK K rfl) (by rfl) Y.b.len (by decide +kernel) (pa_cons (pv 3) pa_nil)) pa_nil))) (pe_one (pe_call (ok__are_blocks Y) (hr.mono (by decide)) (by rfl) Y.d__are_blocks.g Y.d__are_blocks.kp Y.d__are_blocks.b .nil pass0 (pa_cons (pv 5) (pa_cons (pv 1) (pa_cons (pe_callB (call_lenK K rfl) (by rfl) Y.b.len (by decide +kernel) (pa_cons (pv 2) pa_nil)) pa_nil))))))))))))), ?_⟩
    refine ⟨v, rfl, v, d, 5, rfl, ht, _, rfl, ?_⟩
    refine ite2 (fun c => ?_) (fun c => ?_)
    · have e : isDayB d = false := by
        cases d with
        | tuple xs =>
          match xs with
          | [a, b, c', d', e'] => cases c
          | [] => rfl
          | [_] => rfl
          | [_, _] => rfl
          | [_, _, _] => rfl
          | [_, _, _, _] => rfl
          | _ :: _ :: _ :: _ :: _ :: _ :: _ => rfl
        | _ => rfl
      have := q H (Kx.refl _)
      rw [e] at this
      exact this
    · have c : isTp 5 d = true := by
        cases z : isTp 5 d with
        | true => rfl
        | false => rw [z] at c; exact absurd rfl c
      obtain ⟨ds, rfl, hl⟩ := isTp_tuple c
      obtain ⟨ho, st, si, as, bl, rfl⟩ := tuple5 hl
      cases ht with
      | tup m ha l =>
        rename_i a xs
        obtain ⟨v1, v2, v3, v4, v5, rfl, t1, t2, t3, t4, t5⟩ := TrAll.five l
        refine ⟨.ref a, rfl, a, _, rfl, SqT.of ha, rfl, v1, _, rfl, v2, _, rfl, v3, _, rfl, v4, _, rfl, v5, _, rfl, rfl, ?_⟩
        refine ⟨_, rfl, _, ho, 1, 10, rfl, t1, _, rfl, andV (R := fun b => Q (.bl b) H) (q H (Kx.refl _)) fun c1 q1 => ?_⟩
        obtain ⟨hn, rfl, _, _⟩ := isWh_int c1
        cases t1
        have q2 : ∀ H', Kx [] H H' → Q (.bl (storesB st && (sightsB hn (lenD st) si && (asksB (lenD si) as && blocksB hn (lenD st) bl)))) H' := fun H' k => by
          have := q H' k
          simp only [isDayB, c1, Bool.true_and] at this
          exact this
        refine ⟨_, rfl, v2, st, rfl, t2, hT, fun H1 k1 => ⟨_, rfl, andV (R := fun b => Q (.bl b) H1) (q2 H1 k1) fun c2 q3 => ?_⟩⟩
        obtain ⟨sts, rfl⟩ := storesB_list c2
        cases t2 with
        | lst n2 h2 l2 =>
          rename_i a2 xs2
          have e2 := l2.length
          refine ⟨_, rfl, _, rfl, .ref a2, rfl, a2, xs2, rfl, .inl (SqL.of (k1.lst (by simp) h2)), v3, si, hn, (xs2.length : Int), rfl, t3.up k1, sz_inT (by simp) hz, hT.kx k1, fun H2 k2 => ⟨_, rfl, andV (b := asksB (lenD si) as && blocksB hn (lenD (.list sts)) bl) (R := fun b => Q (.bl b) H2) (q := ?_) fun c3 q4 => ?_⟩⟩
          · have := q2 H2 (k1.trans k2)
            rw [c2, Bool.true_and] at this
            rw [e2]
            exact this
          · obtain ⟨sis, rfl⟩ := sightsB_list c3
            cases t3 with
            | lst n3 h3 l3 =>
              rename_i a3 xs3
              have e3 := l3.length
              have k12 := k1.trans k2
              refine ⟨_, rfl, .ref a3, rfl, a3, xs3, rfl, .inl (SqL.of (k12.lst (by simp) h3)), v4, as, (xs3.length : Int), rfl, t4.up k12, hT.kx k12, fun H3 k3 => ⟨_, rfl, andV (b := blocksB hn (lenD (.list sts)) bl) (R := fun b => Q (.bl b) H3) (q := ?_) fun c4 q5 => ?_⟩⟩
              · have := q2 H3 (k12.trans k3)
                rw [c2, Bool.true_and] at this
                rw [e2] at c3
                rw [show sightsB hn (lenD (.list sts)) (.list sis) = true from c3, Bool.true_and] at this
                rw [e3]
                exact this
              · have k123 := k12.trans k3
                refine ⟨_, rfl, _, rfl, .ref a2, rfl, a2, xs2, rfl, .inl (SqL.of (k123.lst (by simp) h2)), v5, bl, hn, (xs2.length : Int), rfl, t5.up k123, hT.kx k123, fun H4 k4 => ?_⟩
                have := q2 H4 (k123.trans k4)
                rw [c2, Bool.true_and] at this
                rw [e2] at c3 ⊢
                rw [e3] at c4
                rw [show sightsB hn (lenD (.list sts)) (.list sis) = true from c3, Bool.true_and, show asksB (lenD (.list sis)) as = true from c4, Bool.true_and] at this
                exact this
      | _ => cases c
end
end Law

set_option Elab.async false
set_option linter.all false
set_option maxRecDepth 100000
set_option maxHeartbeats 4000000
namespace Law
open PySem PySem.Spec PyProof.Rows L2 GxR GX Tree Kit Data Loops Comps Purse Day SetG SetL
section
variable {P : Program} {w : World} {K : PySem.W.Frag} {mg : Str → Option Value} {base : Heap} {fa : String → Addr} {fd : String → FuncData} {ca ta : String → Addr} {cs : String → Addr} {fm : String → String → Addr} {fdm : String → String → FuncData}
/-! ### a day is a day -/
theorem isDayB_of {d : PyData} {D : Dy} (h : isDayB d = true) (e : d = dayD D) : isDayB (dayD D) = true := e ▸ h
def sp_need_day (cs : String → Addr) (ta : String → Addr) : Sp := fun vs H Q E => ∃ v d, vs = [v] ∧ Tr [] H v d ∧ sz d ≤ 100000 ∧ Tb (Ts ta) H ∧ (isDayB d = true → ∀ H', Kx [] H H' → Q .non H') ∧ (isDayB d = false → ∀ H', Kx [] H H' → E (.ref (cs "NoDay")) none H')
theorem ok_need_day (Y : Facts K mg base fa fd ca ta) (Z : CFacts K mg cs fm fdm) : FnOk P w K mg base (L2.CX P w) 10 (fa "need_day") (fd "need_day") ["thing"] (sp_need_day cs ta) := by
  refine Y.d_need_day.okX sc_need_day (fun vs H Q E h => ?_) (fun cdv A outer s H vs Q E hcd hr h => ?_)
  · obtain ⟨v, d, rfl, _⟩ := h; rfl
  · obtain ⟨v, d, rfl, ht, hz, hT, q, qx⟩ := h
    refine ⟨_, (pss_one (ps_if (pt_not (pt_val (pe_call (ok_is_day Y) (hr.mono (by decide)) (by rfl) Y.d_is_day.g Y.d_is_day.kp Y.d_is_day.b .nil pass0 (pa_cons (pv 0) pa_nil)))) (pss_one (ps_raise rfl (takes_of rfl rfl rfl rfl) (pmk_own PySem.F.excBase_ValueError Z.xi_NoDay Z.g_NoDay Z.k_NoDay (raises_own Z.b_NoDay Z.t_NoDay) rfl))) pss_nil)), ?_⟩
    refine ⟨v, rfl, v, d, rfl, ht, hz, hT, fun H' k => ⟨_, rfl, ?_⟩⟩
    cases hd : isDayB d with
    | true => exact iteF (q hd H' k)
    | false => exact iteT (qx hd H' k)
/-! ### passes -/
def mayB (b : Blk) (h : Int) : Bool := decide (b.ready ≤ h) && (match b.due with | none => true | some u => decide (h ≤ u))
def sp_may : Sp := fun vs H Q _ => ∃ v b h, vs = [v, .int h] ∧ Tr [] H v (blkD b) ∧ Q (.bl (mayB b h)) H
theorem ok_may_be_sent (Y : Facts K mg base fa fd ca ta) : FnOk P w K mg base CX0 1 (fa "may_be_sent") (fd "may_be_sent") ["block", "hour"] sp_may := by
  refine Y.d_may_be_sent.ok sc_may_be_sent (fun vs H Q E h => ?_) (fun cdv A outer s H vs Q E hcd hr h => ?_)
  · obtain ⟨v, b, h, rfl, _⟩ := h; rfl
  · obtain ⟨v, b, hh, rfl, ht, q⟩ := h
    refine ⟨_, (pss_cons (ps_asg (pv 0) (pg_tupK (n := 5) K rfl rfl (pgs_cons (pg_name (i := 2) sc_may_be_sent.nd rfl (by first | exact Or.inl rfl | exact Or.inr rfl)) (pgs_cons (pg_name (i := 3) sc_may_be_sent.nd rfl (by first | exact Or.inl rfl | exact Or.inr rfl)) (pgs_cons (pg_name (i := 4) sc_may_be_sent.nd rfl (by first | exact Or.inl rfl | exact Or.inr rfl)) (pgs_cons (pg_name (i := 5) sc_may_be_sent.nd rfl (by first | exact Or.inl rfl | exact Or.inr rfl)) (pgs_cons (pg_name (i := 6) sc_may_be_sent.nd rfl (by first | exact Or.inl rfl | exact Or.inr rfl)) pgs_nil)))))))
      (pss_one (ps_ret (pe_and (pe_cmpR op_le (pv 4) (pv 1) (nomark _)) (pe_one (pe_or (pe_cmpR op_isN (pv 5) pe_non (nomark _)) (pe_one (pe_cmpR op_le (pv 1) (pv 5) (nomark _))))))))), ?_⟩
    obtain ⟨a, xs, rfl, ex, tx⟩ := ht.tupV
    obtain ⟨v1, v2, v3, v4, v5, rfl, t1, t2, t3, t4, t5⟩ := TrAll.five tx
    cases t3
    refine ⟨.ref a, rfl, a, _, rfl, SqT.of ex, rfl, v1, _, rfl, v2, _, rfl, _, _, rfl, v4, _, rfl, v5, _, rfl, rfl, ?_⟩
    refine ⟨_, rfl, .int hh, rfl, _, _, rfl, rfl, _, rfl, andV (b := match b.due with | none => true | some u => decide (hh ≤ u)) (R := fun b => Q (.bl b) H) q fun _ q => ?_⟩
    refine ⟨v4, rfl, rfl, _, rfl, ?_⟩
    rw [isNone_v t4]
    cases hd : b.due with
    | none =>
      rw [hd] at t4 q
      exact iteT q
    | some u =>
      rw [hd] at t4 q
      cases t4
      exact iteF ⟨.int hh, rfl, .int u, rfl, _, _, rfl, rfl, q⟩
structure Pass where
  hour : Int
  dish : Int
  craft : Int
  block : Int
def passD (p : Pass) : PyData := .tuple [.int p.hour, .int p.dish, .int p.craft, .int p.block]
def heardAt (D : Dy) (d h : Int) : List Int := (D.sights.getD d.toNat []).getD h.toNat []
def blkAt (D : Dy) (b : Int) : Blk := D.blocks.getD b.toNat ⟨0, 0, 0, none, 0⟩
def passT (D : Dy) (p : Pass) : Bool := isWh 0 (D.hours - 1) (.int p.hour) && (isWh 0 ((D.sights.length : Int) - 1) (.int p.dish) && (isWh 0 ((D.stores.length : Int) - 1) (.int p.craft) && (isWh 0 ((D.blocks.length : Int) - 1) (.int p.block) &&
  ((heardAt D p.dish p.hour).contains p.craft && (decide (p.craft = (blkAt D p.block).craft) && mayB (blkAt D p.block) p.hour)))))
def passB (D : Dy) : PyData → Bool
  | .tuple [a, b, c, d] => isWh 0 (D.hours - 1) a && (isWh 0 ((D.sights.length : Int) - 1) b && (isWh 0 ((D.stores.length : Int) - 1) c && (isWh 0 ((D.blocks.length : Int) - 1) d &&
    ((heardAt D (intOf b) (intOf a)).contains (intOf c) && (decide (intOf c = (blkAt D (intOf d)).craft) && mayB (blkAt D (intOf d)) (intOf a))))))
  | _ => false
theorem passB_D (D : Dy) (p : Pass) : passB D (passD p) = passT D p := rfl
theorem passB_of {D : Dy} {d : PyData} (h : passB D d = true) : ∃ p, d = passD p ∧ passT D p = true := by
  cases d with
  | tuple xs =>
    match xs, h with
    | [a, b, c, d], h =>
      have h0 := h
      obtain ⟨a1, h⟩ := and3 (show (isWh 0 (D.hours - 1) a && _) = true from h)
      obtain ⟨a2, h⟩ := and3 h
      obtain ⟨a3, h⟩ := and3 h
      obtain ⟨a4, _⟩ := and3 h
      obtain ⟨i, rfl, _⟩ := isWh_int a1
      obtain ⟨j, rfl, _⟩ := isWh_int a2
      obtain ⟨k, rfl, _⟩ := isWh_int a3
      obtain ⟨l, rfl, _⟩ := isWh_int a4
      exact ⟨⟨i, j, k, l⟩, rfl, h0⟩
  | _ => cases h
/-- an item of a list of trees, by a place within -/
theorem ixT {B : List Addr} {H : Hp} {v : V} {ds : List PyData} (t : Tr B H v (.list ds)) {i : Int} (h0 : 0 ≤ i) (h1 : i < (ds.length : Int)) : ∃ a xs x, v = .ref a ∧ H a = some (.lst xs) ∧ atI xs i = some x ∧ Tr B H x (ds.getD i.toNat .none) := by
  obtain ⟨a, xs, rfl, ex, tx⟩ := t.listV
  have hl : i.toNat < ds.length := by omega
  obtain ⟨x, e1, e2⟩ := tx.get' (List.getElem?_eq_getElem hl)
  have := atI_nat e1
  rw [show ((i.toNat : Nat) : Int) = i by omega] at this
  exact ⟨a, xs, x, rfl, ex, this, by rw [List.getD_eq_getElem?_getD, List.getElem?_eq_getElem hl]; exact e2⟩
theorem getD_map {α : Type} (f : α → PyData) (l : List α) (i : Nat) (d : α) (e : PyData) (h : i < l.length) : (l.map f).getD i e = f (l.getD i d) := by
  rw [List.getD_eq_getElem?_getD, List.getD_eq_getElem?_getD, List.getElem?_map, List.getElem?_eq_getElem h]
  rfl
theorem inV_ints (c : Int) (r : List Int) : inV (.int c) (r.map V.int) = r.contains c := by
  unfold inV
  rw [List.any_map, List.contains_eq_any_beq]
  congr 1
  funext x
  show (x == c) = (c == x)
  exact BEq.comm
theorem flat_ints (r : List Int) : (r.map V.int).all flatV = true := List.all_eq_true.mpr fun x hx => by
  obtain ⟨n, _, rfl⟩ := List.mem_map.mp hx
  rfl
theorem four_of {xs : List PyData} (h : (xs.length : Int) = 4) : ∃ a b c d, xs = [a, b, c, d] := by
  match xs, h with
  | [a, b, c, d], _ => exact ⟨a, b, c, d, rfl⟩
  | [], h => simp at h
  | [_], h => simp at h
  | [_, _], h => simp at h
  | [_, _, _], h => simp at h
  | _ :: _ :: _ :: _ :: _ :: r, h => simp at h; omega
theorem TrAll.four {B : List Addr} {H : Hp} {xs : List V} {a b c d : PyData} (h : TrAll B H xs [a, b, c, d]) : ∃ v1 v2 v3 v4, xs = [v1, v2, v3, v4] ∧ Tr B H v1 a ∧ Tr B H v2 b ∧ Tr B H v3 c ∧ Tr B H v4 d := by
  cases h with
  | cons h1 r => cases r with
    | cons h2 r => cases r with
      | cons h3 r => cases r with
        | cons h4 r => cases r; exact ⟨_, _, _, _, rfl, h1, h2, h3, h4⟩
theorem passB_tp {D : Dy} (d : PyData) (c : isTp 4 d = false) : passB D d = false := by
  cases d with
  | tuple xs =>
    match xs with
    | [a, b, c', d'] => cases c
    | [] => rfl
    | [_] => rfl
    | [_, _] => rfl
    | [_, _, _] => rfl
    | _ :: _ :: _ :: _ :: _ :: _ => rfl
  | _ => rfl
def sp_is_pass : Sp := fun vs H Q _ => ∃ dv D v d, vs = [dv, v] ∧ Tr [] H dv (dayD D) ∧ DyOk D ∧ Tr [] H v d ∧ Q (.bl (passB D d)) H
theorem ok__is_pass (Y : Facts K mg base fa fd ca ta) : FnOk P w K mg base CX0 3 (fa "_is_pass") (fd "_is_pass") ["day", "thing"] sp_is_pass := by
  refine Y.d__is_pass.ok sc__is_pass (fun vs H Q E h => ?_) (fun cdv A outer s H vs Q E hcd hr h => ?_)
  · obtain ⟨dv, D, v, d, rfl, _⟩ := h; rfl
  · obtain ⟨dv, D, v, d, rfl, hdt, hD, ht, q⟩ := h
    refine ⟨_, (pss_cons (ps_if (pt_not (pt_val (pe_call (ok_is_tuple Y) (hr.mono (by decide)) (by rfl) Y.d_is_tuple.g Y.d_is_tuple.kp Y.d_is_tuple.b .nil pass0 (pa_cons (pv 1) (pa_cons pe_int pa_nil))))) (pss_one (ps_ret pe_bl)) pss_nil)
      (pss_cons (ps_asg (pv 0) (pg_tupK (n := 5) K rfl rfl (pgs_cons (pg_name (i := 2) sc__is_pass.nd rfl (by first | exact Or.inl rfl | exact Or.inr rfl)) (pgs_cons (pg_name (i := 3) sc__is_pass.nd rfl (by first | exact Or.inl rfl | exact Or.inr rfl)) (pgs_cons (pg_name (i := 4) sc__is_pass.nd rfl (by first | exact Or.inl rfl | exact Or.inr rfl)) (pgs_cons (pg_name (i := 5) sc__is_pass.nd rfl (by first | exact Or.inl rfl | exact Or.inr rfl)) (pgs_cons (pg_name (i := 6) sc__is_pass.nd rfl (by first | exact Or.inl rfl | exact Or.inr rfl)) pgs_nil)))))))
      (pss_cons (ps_asg (pv 1) (pg_tupK (n := 4) K rfl rfl (pgs_cons (pg_name (i := 7) sc__is_pass.nd rfl (by first | exact Or.inl rfl | exact Or.inr rfl)) (pgs_cons (pg_name (i := 8) sc__is_pass.nd rfl (by first | exact Or.inl rfl | exact Or.inr rfl)) (pgs_cons (pg_name (i := 9) sc__is_pass.nd rfl (by first | exact Or.inl rfl | exact Or.inr rfl)) (pgs_cons (pg_name (i := 10) sc__is_pass.nd rfl (by first | exact Or.inl rfl | exact Or.inr rfl)) pgs_nil))))))
      (pss_one (ps_ret (pe_and (pe_call (ok_is_whole Y) (hr.mono (by decide)) (by rfl) Y.d_is_whole.g Y.d_is_whole.kp Y.d_is_whole.b .nil pass0 (pa_cons (pv 7) (pa_cons pe_int (pa_cons (pe_op op_sub (pv 2) pe_int) pa_nil)))) (pe_and (pe_call (ok_is_whole Y) (hr.mono (by decide)) (by rfl) Y.d_is_whole.g Y.d_is_whole.kp Y.d_is_whole.b .nil pass0 (pa_cons (pv 8) (pa_cons pe_int (pa_cons (pe_op op_sub (pe_callB (call_lenK K rfl) (by rfl) Y.b.len (by decide +kernel) (pa_cons (pv 4) pa_nil)) pe_int) pa_nil)))) (pe_and (pe_call (ok_is_whole Y) (hr.mono (by decide)) (by rfl) Y.d_is_whole.g Y.d_is_whole.kp Y.d_is_whole.b .nil pass0 (pa_cons (pv 9) (pa_cons pe_int (pa_cons (pe_op op_sub (pe_callB (call_lenK K rfl) (by rfl) Y.b.len (by decide +kernel) (pa_cons (pv 3) pa_nil)) pe_int) pa_nil)))) (pe_and (pe_call (ok_is_whole Y) (hr.mono (by decide)) (by rfl) Y.d_is_whole.g Y.d_is_whole.kp Y.d_is_whole.b .nil pass0 (pa_cons (pv 10) (pa_cons pe_int (pa_cons (pe_op op_sub (pe_callB (call_lenK K rfl) (by rfl) Y.b.len (by decide +kernel) (pa_cons (pv 6) pa_nil)) pe_int) pa_nil)))) (pe_and (pe_cmpR (op_inK K rfl) (pv 9) (pe_ix (ix_listK K rfl) (pe_ix (ix_listK K rfl) (pv 4) (pv 8) (fun _ _ => rfl)) (pv 7) (fun _ _ => rfl)) (by rfl)) (pe_and (pe_cmpR op_eq (pv 9) (pe_ix (ix_tupK K rfl) (pe_ix (ix_listK K rfl) (pv 6) (pv 10) (fun _ _ => rfl)) pe_int (fun _ _ => rfl)) (nomark _)) (pe_one (pe_call (ok_may_be_sent Y) (hr.mono (by decide)) (by rfl) Y.d_may_be_sent.g Y.d_may_be_sent.kp Y.d_may_be_sent.b .nil pass0 (pa_cons (pe_ix (ix_listK K rfl) (pv 6) (pv 10) (fun _ _ => rfl)) (pa_cons (pv 7) pa_nil))))))))))))))), ?_⟩
    refine ⟨v, rfl, v, d, 4, rfl, ht, _, rfl, ?_⟩
    cases c : isTp 4 d with
    | false =>
      rw [passB_tp d c] at q
      exact iteT q
    | true =>
    obtain ⟨ds, rfl, hl⟩ := isTp_tuple c
    obtain ⟨d1, d2, d3, d4, rfl⟩ := four_of hl
    obtain ⟨a, xs, rfl, ex, tx⟩ := ht.tupV
    obtain ⟨w1, w2, w3, w4, rfl, t1, t2, t3, t4⟩ := TrAll.four tx
    obtain ⟨da, dx, rfl, edx, tdx⟩ := hdt.tupV
    obtain ⟨y1, y2, y3, y4, y5, rfl, u1, u2, u3, u4, u5⟩ := TrAll.five tdx
    cases u1
    refine iteF ⟨.ref da, rfl, da, _, rfl, SqT.of edx, rfl, _, _, rfl, y2, _, rfl, y3, _, rfl, y4, _, rfl, y5, _, rfl, rfl, ?_⟩
    refine ⟨.ref a, rfl, a, _, rfl, SqT.of ex, rfl, w1, _, rfl, w2, _, rfl, w3, _, rfl, w4, _, rfl, rfl, ?_⟩
    obtain ⟨aS, xS, rfl, eS, tS⟩ := u2.listV
    obtain ⟨aI, xI, rfl, eI, tI⟩ := u3.listV
    obtain ⟨aB, xB, rfl, eB, tB⟩ := u5.listV
    have lS := tS.length
    have lI := tI.length
    have lB := tB.length
    rw [List.length_map] at lS lI lB
    refine ⟨w1, rfl, _, rfl, _, _, rfl, rfl, w1, d1, 0, D.hours - 1, rfl, t1, _, rfl, andV (R := fun b => Q (.bl b) H) q fun c1 q => ?_⟩
    refine ⟨w2, rfl, .ref aI, rfl, aI, xI, rfl, .inl (SqL.of eI), _, _, rfl, rfl, w2, d2, 0, (xI.length : Int) - 1, rfl, t2, _, rfl, ?_⟩
    rw [lI]
    refine andV (R := fun b => Q (.bl b) H) q fun c2 q => ?_
    refine ⟨w3, rfl, .ref aS, rfl, aS, xS, rfl, .inl (SqL.of eS), _, _, rfl, rfl, w3, d3, 0, (xS.length : Int) - 1, rfl, t3, _, rfl, ?_⟩
    rw [lS]
    refine andV (R := fun b => Q (.bl b) H) q fun c3 q => ?_
    refine ⟨w4, rfl, .ref aB, rfl, aB, xB, rfl, .inl (SqL.of eB), _, _, rfl, rfl, w4, d4, 0, (xB.length : Int) - 1, rfl, t4, _, rfl, ?_⟩
    rw [lB]
    refine andV (R := fun b => Q (.bl b) H) q fun c4 q => ?_
    obtain ⟨i, rfl, i0, i1⟩ := isWh_int c1
    obtain ⟨j, rfl, j0, j1⟩ := isWh_int c2
    obtain ⟨k, rfl, k0, k1⟩ := isWh_int c3
    obtain ⟨l, rfl, l0, l1⟩ := isWh_int c4
    cases t1
    cases t2
    cases t3
    cases t4
    have q : Q (.bl ((heardAt D j i).contains k && (decide (k = (blkAt D l).craft) && mayB (blkAt D l) i))) H := q
    -- the row
    obtain ⟨_, xI', g, e, eI', at1, tg⟩ := ixT u3 j0 (by rw [List.length_map]; omega)
    cases e
    rw [getD_map sightD D.sights j.toNat [] _ (by omega)] at tg
    have sm : D.sights.getD j.toNat [] ∈ D.sights := by
      rw [List.getD_eq_getElem?_getD, List.getElem?_eq_getElem (by omega)]
      exact List.getElem_mem _
    have sl := hD.gl _ sm
    obtain ⟨gA, gx, r, rfl, eg, at2, tr⟩ := ixT tg i0 (by rw [List.length_map]; omega)
    rw [getD_map rowD _ i.toNat [] _ (by omega)] at tr
    obtain ⟨rA, rx, rfl, er, trx⟩ := tr.listV
    have erx := TrAll.intsV trx (by rw [ints_back])
    rw [ints_back] at erx
    rw [erx] at er
    refine ⟨.int k, rfl, .ref aI, rfl, .int j, rfl, aI, xI', j, .ref gA, rfl, rfl, SqL.of eI', at1, .int i, rfl, gA, gx, i, .ref rA, rfl, rfl, SqL.of eg, at2, rA, _, rfl, .inl (SqL.of er), rfl, flat_ints _, ?_⟩
    rw [if_neg (by decide), inV_ints]
    refine ⟨_, rfl, andV (R := fun b => Q (.bl b) H) q fun _ q => ?_⟩
    -- the block
    obtain ⟨_, xB', bv, e, eB', at3, tb⟩ := ixT u5 l0 (by rw [List.length_map]; omega)
    cases e
    rw [getD_map blkD D.blocks l.toNat ⟨0, 0, 0, none, 0⟩ _ (by omega)] at tb
    have tb0 := tb
    obtain ⟨bA, bx, rfl, eb, tbx⟩ := tb.tupV
    obtain ⟨b1, b2, b3, b4, b5, rfl, f1, f2, f3, f4, f5⟩ := TrAll.five tbx
    cases f2
    refine ⟨.int k, rfl, .ref aB, rfl, .int l, rfl, aB, xB', l, .ref bA, rfl, rfl, SqL.of eB', at3, bA, _, 1, _, rfl, rfl, SqT.of eb, rfl, rfl, _, rfl, ?_⟩
    have ec : decide (V.int k = V.int (blkAt D l).craft) = decide (k = (blkAt D l).craft) := by
      by_cases z : k = (blkAt D l).craft
      · rw [decide_eq_true z, z, decide_eq_true rfl]
      · rw [decide_eq_false z, decide_eq_false fun y => z (V.int.inj y)]
    show if decide (V.int k = V.int (blkAt D l).craft) = true then _ else _
    rw [ec]
    refine andV (R := fun b => Q (.bl b) H) q fun _ q => ?_
    exact ⟨.ref aB, rfl, .int l, rfl, aB, xB', l, .ref bA, rfl, rfl, SqL.of eB', at3, .int i, rfl, .ref bA, blkAt D l, i, rfl, tb0, q⟩
/-! ### what is kept aboard -/
def keeps (D : Dy) (c h : Int) (p : Pass) : Bool := decide (p.craft = c) && ((blkAt D p.block).due.isNone && (decide ((blkAt D p.block).ready ≤ h) && decide (h < p.hour)))
def keptL (D : Dy) (ps : List Pass) (c h : Int) : List Int := (ps.filter (keeps D c h)).map Pass.block
theorem keptL_step (D : Dy) (ps : List Pass) (c h : Int) (i : Nat) (hi : i < ps.length) : keptL D (ps.take (i + 1)) c h = keptL D (ps.take i) c h ++ (if keeps D c h ps[i] = true then [ps[i].block] else []) := by
  unfold keptL
  rw [List.take_add_one, List.getElem?_eq_getElem hi, List.filter_append, List.map_append]
  cases hk : keeps D c h ps[i] <;> simp [hk]
theorem eqV_int (a b : Int) : decide (V.int a = V.int b) = decide (a = b) := by
  by_cases z : a = b
  · rw [decide_eq_true z, z, decide_eq_true rfl]
  · rw [decide_eq_false z, decide_eq_false fun y => z (V.int.inj y)]
def sp_kept_over : Sp := fun vs H Q _ => ∃ (dv : V) (D : Dy) (pa : Addr) (ps : List Pass) (c h : Int), vs = [dv, .ref pa, .int c, .int h] ∧ Tr [] H dv (dayD D) ∧ Tr [] H (.ref pa) (.list (ps.map passD)) ∧ ps.length < 64 ∧ (∀ p ∈ ps, 0 ≤ p.block ∧ p.block < (D.blocks.length : Int)) ∧
  ∀ (F : Addr) (ns : List Int) (H' : Hp), Kx [] H H' → H F = none → H' F = some (.lst (ns.map V.int)) → ns.Perm (keptL D ps c h) → ns.Pairwise (· ≤ ·) → Q (.ref F) H'
theorem ok_kept_over (Y : Facts K mg base fa fd ca ta) : FnOk P w K mg base CX0 1 (fa "kept_over") (fd "kept_over") ["day", "passes", "craft", "hour"] sp_kept_over := by
  refine Y.d_kept_over.ok sc_kept_over (fun vs H Q E h => ?_) (fun cdv A outer s H vs Q E hcd hr h => ?_)
  · obtain ⟨dv, D, pa, ps, c, h, rfl, _⟩ := h; rfl
  · obtain ⟨dv, D, pa, ps, c, h, rfl, hdt, hpt, hl, hb, q⟩ := h
    refine ⟨_, (pss_cons (ps_asg (pv 0) (pg_tupK (n := 5) K rfl rfl (pgs_cons (pg_name (i := 4) sc_kept_over.nd rfl (by first | exact Or.inl rfl | exact Or.inr rfl)) (pgs_cons (pg_name (i := 5) sc_kept_over.nd rfl (by first | exact Or.inl rfl | exact Or.inr rfl)) (pgs_cons (pg_name (i := 6) sc_kept_over.nd rfl (by first | exact Or.inl rfl | exact Or.inr rfl)) (pgs_cons (pg_name (i := 7) sc_kept_over.nd rfl (by first | exact Or.inl rfl | exact Or.inr rfl)) (pgs_cons (pg_name (i := 8) sc_kept_over.nd rfl (by first | exact Or.inl rfl | exact Or.inr rfl)) pgs_nil)))))))
      (pss_cons (ps_set (i := 9) sc_kept_over.nd rfl (by first | exact Or.inl rfl | exact Or.inr rfl) (pe_lst pa_nil))
      (pss_cons (ps_for PassesOwn.never rfl (pi_listK K rfl (pv 1)) (pg_tupK (n := 4) K rfl rfl (pgs_cons (pg_name (i := 10) sc_kept_over.nd rfl (by first | exact Or.inl rfl | exact Or.inr rfl)) (pgs_cons (pg_name (i := 11) sc_kept_over.nd rfl (by first | exact Or.inl rfl | exact Or.inr rfl)) (pgs_cons (pg_name (i := 12) sc_kept_over.nd rfl (by first | exact Or.inl rfl | exact Or.inr rfl)) (pgs_cons (pg_name (i := 13) sc_kept_over.nd rfl (by first | exact Or.inl rfl | exact Or.inr rfl)) pgs_nil))))) (pss_cons (ps_asg (pe_ix (ix_listK K rfl) (pv 8) (pv 13) (fun _ _ => rfl)) (pg_tupK (n := 5) K rfl rfl (pgs_cons (pg_name (i := 14) sc_kept_over.nd rfl (by first | exact Or.inl rfl | exact Or.inr rfl)) (pgs_cons (pg_name (i := 15) sc_kept_over.nd rfl (by first | exact Or.inl rfl | exact Or.inr rfl)) (pgs_cons (pg_name (i := 16) sc_kept_over.nd rfl (by first | exact Or.inl rfl | exact Or.inr rfl)) (pgs_cons (pg_name (i := 17) sc_kept_over.nd rfl (by first | exact Or.inl rfl | exact Or.inr rfl)) (pgs_cons (pg_name (i := 18) sc_kept_over.nd rfl (by first | exact Or.inl rfl | exact Or.inr rfl)) pgs_nil)))))))
      (pss_one (ps_if ((pw_and (pt_cmpR op_eq (pv 12) (pv 2) (nomark _)) (pw_and (pt_cmpR op_isN (pv 17) pe_non (nomark _)) (pw_and1 (pt_chain op_le op_lt (pv 16) (pv 3) (pv 10)))))).pt (pss_one (ps_expr (pe_bm PySem.F.plainAttrs_list PySem.F.slot_list_append PySem.F.type_list_append mt_append (pv 9) (pa_cons (pv 13) pa_nil)))) pss_nil))))
      (pss_one (ps_ret (pe_callB cr_sortedI (by rfl) Y.b.sorted (by decide +kernel) (pa_cons (pv 9) pa_nil))))))), ?_⟩
    obtain ⟨da, dx, rfl, edx, tdx⟩ := hdt.tupV
    obtain ⟨y1, y2, y3, y4, y5, rfl, u1, u2, u3, u4, u5⟩ := TrAll.five tdx
    obtain ⟨aB, xB, rfl, eB, tB⟩ := u5.listV
    refine ⟨.ref da, rfl, da, _, rfl, SqT.of edx, rfl, y1, _, rfl, y2, _, rfl, y3, _, rfl, y4, _, rfl, .ref aB, _, rfl, rfl, ?_⟩
    refine ⟨len_ok, fun F hF => ?_⟩
    generalize hq : upd H F _ = H1
    obtain ⟨k1, e1⟩ := new_at hF hq
    clear hq
    refine st_name ?_
    dsimp only
    refine st_seq (st_for ?_)
    obtain ⟨xp, ep, tp⟩ := hpt.items
    have lp := tp.length
    rw [List.length_map] at lp
    have ep1 := k1.lst (by simp) ep
    have nF : pa ∉ [F] := fun z => by
      rw [List.mem_singleton.mp z, hF] at ep
      cases ep
    have pB : ∀ {H'}, Kx [F] H1 H' → ∀ {b : Addr} {o : HO}, H b = some o → (∀ ps, o ≠ .tbl ps) → H' b = some o := fun k b o e ht => k.at (fun z => by rw [List.mem_singleton.mp z, hF] at e; cases e) (k1.at (by simp) e ht) ht
    refine ⟨.ref pa, rfl, pa, rfl, ⟨xp, SqL.of ep1⟩, ?_⟩
    refine for_gen (itl_at ep1 nF) (Iv := fun i σ' H' => (∃ z1 z2 z3 z4 z5 z6 z7 z8 z9, σ' = [some (.ref da), some (.ref pa), some (.int c), some (.int h), some y1, some y2, some y3, some y4, some (.ref aB), some (.ref F), z1, z2, z3, z4, z5, z6, z7, z8, z9]) ∧ H' F = some (.lst ((keptL D (ps.take i) c h).map V.int)))
      ⟨⟨_, _, _, _, _, _, _, _, _, rfl⟩, by simpa [keptL] using e1⟩ (fun i σ' H2 hi k2 ⟨⟨z1, z2, z3, z4, z5, z6, z7, z8, z9, e⟩, eF⟩ Nn hN => ?_) fun σ' H2 k2 ⟨⟨z1, z2, z3, z4, z5, z6, z7, z8, z9, e⟩, eF⟩ => ?_
    · subst e
      have hi' : i < ps.length := by omega
      obtain ⟨x, ex, tx⟩ := tp.get' (i := i) (d := passD ps[i]) (by rw [List.getElem?_map, List.getElem?_eq_getElem hi']; rfl)
      have eg : xp.getD i .non = x := by rw [List.getD_eq_getElem?_getD, ex]; rfl
      rw [eg]
      obtain ⟨at_, ax, rfl, eat, tax⟩ := tx.tupV
      obtain ⟨w1, w2, w3, w4, rfl, t1, t2, t3, t4⟩ := TrAll.four tax
      cases t1
      cases t2
      cases t3
      cases t4
      have step := keptL_step D ps c h i hi'
      have hbk := hb ps[i] (List.getElem_mem hi')
      generalize ps[i] = p at step hbk eat ⊢
      refine ⟨at_, _, rfl, SqT.of (pB k2 eat fun _ z => by cases z), rfl, _, _, rfl, _, _, rfl, _, _, rfl, _, _, rfl, rfl, ?_⟩
      obtain ⟨_, xB', bv, e, eB', a3, tb⟩ := ixT u5 hbk.1 (by rw [List.length_map]; exact hbk.2)
      cases e
      rw [getD_map blkD D.blocks p.block.toNat ⟨0, 0, 0, none, 0⟩ _ (by omega)] at tb
      obtain ⟨bA, bx, rfl, eb, tbx⟩ := tb.tupV
      obtain ⟨b1, b2, b3, b4, b5, rfl, f1, f2, f3, f4, f5⟩ := TrAll.five tbx
      cases f3
      refine ⟨.ref aB, rfl, .int p.block, rfl, aB, xB', p.block, .ref bA, rfl, rfl, SqL.of (pB k2 eB' fun _ z => by cases z), a3, bA, _, rfl, SqT.of (pB k2 eb fun _ z => by cases z), rfl, b1, _, rfl, b2, _, rfl, _, _, rfl, b4, _, rfl, b5, _, rfl, rfl, ?_⟩
      have no : keeps D c h p = false → H2 F = some (.lst ((keptL D (ps.take (i + 1)) c h).map V.int)) := fun z => by
        rw [step, z, if_neg (by decide), List.append_nil]
        exact eF
      have kd : keeps D c h p = (decide (p.craft = c) && ((blkAt D p.block).due.isNone && (decide ((blkAt D p.block).ready ≤ h) && decide (h < p.hour)))) := rfl
      refine ⟨.int p.craft, rfl, .int c, rfl, rfl, _, rfl, ?_⟩
      rw [eqV_int]
      cases c1 : decide (p.craft = c) with
      | false => exact iteF (hN _ _ k2 ⟨⟨_, _, _, _, _, _, _, _, _, rfl⟩, no (by rw [kd, c1]; rfl)⟩)
      | true =>
      refine iteT ⟨b4, rfl, rfl, _, rfl, ?_⟩
      have c2 : decide (b4 = V.non) = (blkAt D p.block).due.isNone := by
        rw [isNone_v f4]
        show isNone (optD (blkAt D p.block).due) = _
        cases (blkAt D p.block).due <;> rfl
      rw [c2]
      cases c3 : (blkAt D p.block).due.isNone with
      | false => exact iteF (hN _ _ k2 ⟨⟨_, _, _, _, _, _, _, _, _, rfl⟩, no (by rw [kd, c1, c3]; rfl)⟩)
      | true =>
      refine iteT ⟨_, rfl, .int h, rfl, _, _, rfl, rfl, _, rfl, ?_⟩
      show if decide ((blkAt D p.block).ready ≤ h) = true then _ else _
      cases c4 : decide ((blkAt D p.block).ready ≤ h) with
      | false => exact iteF ⟨_, rfl, iteF (hN _ _ k2 ⟨⟨_, _, _, _, _, _, _, _, _, rfl⟩, no (by rw [kd, c1, c3, c4]; rfl)⟩)⟩
      | true =>
      refine iteT ⟨.int p.hour, rfl, _, _, rfl, rfl, _, rfl, ?_⟩
      cases c5 : decide (h < p.hour) with
      | false => exact iteF (hN _ _ k2 ⟨⟨_, _, _, _, _, _, _, _, _, rfl⟩, no (by rw [kd, c1, c3, c4, c5]; rfl)⟩)
      | true =>
      refine iteT ⟨.ref F, rfl, .inl ⟨rfl, _, SqL.of eF⟩, .int p.block, rfl, F, _, _, rfl, rfl, eF, ?_, ?_⟩
      · have h1 : (keptL D (ps.take i) c h).length ≤ (ps.take i).length := by
          unfold keptL
          rw [List.length_map]
          exact List.length_filter_le _ _
        have h2 := List.length_take_le i ps
        unfold sizeLine
        rw [List.length_map]
        omega
      · refine hN _ _ (k2.trans (Kx.put (by simp))) ⟨⟨_, _, _, _, _, _, _, _, _, rfl⟩, ?_⟩
        have ky : keeps D c h p = true := by rw [kd, c1, c3, c4, c5]; rfl
        rw [upd_same, step, ky, if_pos rfl, List.map_append]
        rfl
    · subst e
      rw [lp, List.take_length] at eF
      dsimp only
      refine ⟨.ref F, rfl, F, _, rfl, SqL.of eF, fun ns' p2 perm up hp2 => ?_⟩
      have k02 : Kx [] H H2 := Kx.weak (k1.of.trans k2) fun b hb => .inr (by rw [List.mem_singleton.mp hb]; exact hF)
      have k03 := k02.trans (Kx.new (o := .lst (ns'.map V.int)) hp2)
      exact q p2 ns' _ k03 (k02.free (by simp) hp2) upd_same perm up
end
end Law

set_option Elab.async false
set_option linter.all false
set_option maxRecDepth 100000
set_option maxHeartbeats 4000000
namespace Law
open PySem PySem.Spec PyProof.Rows L2 GxR GX Tree Kit Data Loops Comps Purse Day SetG SetL
section
variable {P : Program} {w : World} {K : PySem.W.Frag} {mg : Str → Option Value} {base : Heap} {fa : String → Addr} {fd : String → FuncData} {ca ta : String → Addr}
/-! ### no two alike -/
theorem range_getD {α β : Type} (f : α → β) (l : List α) (d : α) : (List.range l.length).map (fun i => f (l.getD i d)) = l.map f := by
  refine List.ext_getElem (by simp) fun i h1 h2 => ?_
  have hi : i < l.length := by simpa using h2
  rw [List.getElem_map, List.getElem_map, List.getElem_range, List.getD_eq_getElem?_getD, List.getElem?_eq_getElem hi]
  rfl
def p0 : Pass := ⟨0, 0, 0, 0⟩
def clashB (ps : List Pass) : Bool := decide ((ps.map fun p => [p.hour, p.dish]).Nodup) && (decide ((ps.map fun p => [p.hour, p.craft]).Nodup) && decide ((ps.map fun p => p.block).Nodup))
theorem st_setG {n0 : Addr → HO} {r : PutW} {wi : TI} {g : TG} {tt : TT} {te : TE} {vs : List Nat} {σ : L2.St} {H : Hp} {Q : VK} (h : wi σ H fun J H1 => SetG.SetG n0 r J g tt te vs σ H1 Q) : tSetG n0 r wi g tt te vs σ H Q := h
theorem st_cb {r : List V → Hp → VK → Prop} {t : TA} {σ : L2.St} {H : Hp} {Q : VK} (h : t σ H fun vs H1 => r vs H1 Q) : tCB r t σ H Q := h
theorem st_andv {ta tb : TE} {σ : L2.St} {H : Hp} {Q : VK} (h : ta σ H fun x H1 => ∃ c, x = .bl c ∧ if c = true then tb σ H1 Q else Q (.bl false) H1) : tAndV ta tb σ H Q := h
/-- a pass of the list, its parts -/
theorem pass_at {H : Hp} {xp : List V} {ps : List Pass} (tp : TrAll [] H xp (ps.map passD)) {i : Nat} (hi : i < ps.length) : ∃ at_, xp.getD i .non = .ref at_ ∧ H at_ = some (.tup [.int (ps.getD i p0).hour, .int (ps.getD i p0).dish, .int (ps.getD i p0).craft, .int (ps.getD i p0).block]) := by
  obtain ⟨x, ex, tx⟩ := tp.get' (i := i) (d := passD ps[i]) (by rw [List.getElem?_map, List.getElem?_eq_getElem hi]; rfl)
  obtain ⟨at_, ax, rfl, eat, tax⟩ := tx.tupV
  obtain ⟨w1, w2, w3, w4, rfl, t1, t2, t3, t4⟩ := TrAll.four tax
  cases t1
  cases t2
  cases t3
  cases t4
  refine ⟨at_, by rw [List.getD_eq_getElem?_getD, ex]; rfl, ?_⟩
  rw [getD_at ps p0 hi]
  exact eat
def sp_clash : Sp := fun vs H Q _ => ∃ (pa : Addr) (ps : List Pass), vs = [.ref pa] ∧ Tr [] H (.ref pa) (.list (ps.map passD)) ∧ ps.length < 64 ∧ ∀ H', Kx [] H H' → Q (.bl (clashB ps)) H'
theorem ok__clash_nowhere (Y : Facts K mg base fa fd ca ta) : FnOk P w K mg base CX0 1 (fa "_clash_nowhere") (fd "_clash_nowhere") ["passes"] sp_clash := by
  refine Y.d__clash_nowhere.ok sc__clash_nowhere (fun vs H Q E h => ?_) (fun cdv A outer s H vs Q E hcd hr h => ?_)
  · obtain ⟨pa, ps, rfl, _⟩ := h; rfl
  · obtain ⟨pa, ps, rfl, hpt, hl, q⟩ := h
    refine ⟨_, (pss_cons (ps_set (i := 1) sc__clash_nowhere.nd rfl (by first | exact Or.inl rfl | exact Or.inr rfl) (pe_callB (call_lenK K rfl) (by rfl) Y.b.len (by decide +kernel) (pa_cons (pv 0) pa_nil)))
      (pss_one (ps_ret (pe_and (pe_cmpR op_eq (pe_callB (call_lenT P w rfl rfl) (by rfl) Y.b.len (by decide +kernel) (pa_cons (pe_setG (r := rPutT K P w) (own := [("hour", 2), ("dish", 3), ("craft", 4), ("block", 5)]) (tt := tYes) rfl (new_tup P w rfl rfl) sc__clash_nowhere.nd (pi_listK K rfl (pv 0)) (blkOk_by (N := ["passes", "many", "hour", "dish", "craft", "block"]) (sc := defScope s__clash_nowhere) (by decide +kernel)) (fun _ _ _ _ _ => (pg_tupK (n := 4) K rfl rfl (pgs_cons (pg_name (i := 2) sc__clash_nowhere.nd rfl (by first | exact Or.inl rfl | exact Or.inr rfl)) (pgs_cons (pg_name (i := 3) sc__clash_nowhere.nd rfl (by first | exact Or.inl rfl | exact Or.inr rfl)) (pgs_cons (pg_name (i := 4) sc__clash_nowhere.nd rfl (by first | exact Or.inl rfl | exact Or.inr rfl)) (pgs_cons (pg_name (i := 5) sc__clash_nowhere.nd rfl (by first | exact Or.inl rfl | exact Or.inr rfl)) pgs_nil)))))) (fun _ _ _ _ _ => pts_nil) (fun _ _ _ _ _ => (pe_tup (pa_cons (pv 2) (pa_cons (pv 3) pa_nil)))) (fun _ _ _ _ _ => (put_tup K P w rfl rfl rfl hr.units))) pa_nil)) (pv 1) (nomark _)) (pe_and (pe_cmpR op_eq (pe_callB (call_lenT P w rfl rfl) (by rfl) Y.b.len (by decide +kernel) (pa_cons (pe_setG (r := rPutT K P w) (own := [("hour", 2), ("dish", 3), ("craft", 4), ("block", 5)]) (tt := tYes) rfl (new_tup P w rfl rfl) sc__clash_nowhere.nd (pi_listK K rfl (pv 0)) (blkOk_by (N := ["passes", "many", "hour", "dish", "craft", "block"]) (sc := defScope s__clash_nowhere) (by decide +kernel)) (fun _ _ _ _ _ => (pg_tupK (n := 4) K rfl rfl (pgs_cons (pg_name (i := 2) sc__clash_nowhere.nd rfl (by first | exact Or.inl rfl | exact Or.inr rfl)) (pgs_cons (pg_name (i := 3) sc__clash_nowhere.nd rfl (by first | exact Or.inl rfl | exact Or.inr rfl)) (pgs_cons (pg_name (i := 4) sc__clash_nowhere.nd rfl (by first | exact Or.inl rfl | exact Or.inr rfl)) (pgs_cons (pg_name (i := 5) sc__clash_nowhere.nd rfl (by first | exact Or.inl rfl | exact Or.inr rfl)) pgs_nil)))))) (fun _ _ _ _ _ => pts_nil) (fun _ _ _ _ _ => (pe_tup (pa_cons (pv 2) (pa_cons (pv 4) pa_nil)))) (fun _ _ _ _ _ => (put_tup K P w rfl rfl rfl hr.units))) pa_nil)) (pv 1) (nomark _)) (pe_one (pe_cmpR op_eq (pe_callB (call_lenI w rfl) (by rfl) Y.b.len (by decide +kernel) (pa_cons (pe_setG (r := rPutI w) (own := [("hour", 2), ("dish", 3), ("craft", 4), ("block", 5)]) (tt := tYes) rfl (new_int w rfl) sc__clash_nowhere.nd (pi_listK K rfl (pv 0)) (blkOk_by (N := ["passes", "many", "hour", "dish", "craft", "block"]) (sc := defScope s__clash_nowhere) (by decide +kernel)) (fun _ _ _ _ _ => (pg_tupK (n := 4) K rfl rfl (pgs_cons (pg_name (i := 2) sc__clash_nowhere.nd rfl (by first | exact Or.inl rfl | exact Or.inr rfl)) (pgs_cons (pg_name (i := 3) sc__clash_nowhere.nd rfl (by first | exact Or.inl rfl | exact Or.inr rfl)) (pgs_cons (pg_name (i := 4) sc__clash_nowhere.nd rfl (by first | exact Or.inl rfl | exact Or.inr rfl)) (pgs_cons (pg_name (i := 5) sc__clash_nowhere.nd rfl (by first | exact Or.inl rfl | exact Or.inr rfl)) pgs_nil)))))) (fun _ _ _ _ _ => pts_nil) (fun _ _ _ _ _ => (pv 5)) (fun _ _ _ _ _ => (put_int w rfl))) pa_nil)) (pv 1) (nomark _)))))))), ?_⟩
    obtain ⟨xp, ep, tp⟩ := hpt.items
    have lp := tp.length
    rw [List.length_map] at lp
    refine ⟨.ref pa, rfl, pa, xp, rfl, .inl (SqL.of ep), ?_⟩
    refine st_name ?_
    dsimp only
    refine st_ret (st_andv (st_op (st_cb (st_cons (st_setG ?_)))))
    refine ⟨.ref pa, rfl, pa, rfl, ⟨xp, SqL.of ep⟩, ?_⟩
    refine len_tups (itl_at (B := []) ep (by simp)) (fun i => [(ps.getD i p0).hour, (ps.getD i p0).dish]) (by omega) (fun i H' hi k R R0 hR => ?_) fun D L H1 k1 eD cnt => ?_
    · obtain ⟨at_, e, eat⟩ := pass_at tp (show i < ps.length by omega)
      rw [e]
      refine ⟨at_, _, rfl, SqT.of (k.tup (by simp) eat), rfl, _, _, rfl, _, _, rfl, _, _, rfl, _, _, rfl, rfl, rfl, st_yes ?_⟩
      exact ⟨_, rfl, _, rfl, len_ok, fun x hx => hR x _ (Kx.new hx) upd_same⟩
    refine ⟨D, L, rfl, eD, _, rfl, rfl, _, rfl, ?_⟩
    have e1 : decide (V.int (L.length : Int) = V.int (xp.length : Int)) = decide ((ps.map fun p => [p.hour, p.dish]).Nodup) := by
      rw [eqV_int]
      refine decide_eq_decide.mpr ?_
      rw [lp, range_getD (fun p : Pass => [p.hour, p.dish]) ps p0] at cnt
      rw [← cnt, lp]
      omega
    rw [e1]
    have q1 := q H1 k1
    unfold clashB at q1
    refine andV (R := fun b => Q (.bl b) H1) q1 fun c1 _ => ?_
    refine st_andv (st_op (st_cb (st_cons (st_setG ?_))))
    have ep1 := k1.lst (by simp) ep
    refine ⟨.ref pa, rfl, pa, rfl, ⟨xp, SqL.of ep1⟩, ?_⟩
    refine len_tups (itl_at (B := []) ep1 (by simp)) (fun i => [(ps.getD i p0).hour, (ps.getD i p0).craft]) (by omega) (fun i H' hi k R R0 hR => ?_) fun D2 L2 H2 k2 eD2 cnt2 => ?_
    · obtain ⟨at_, e, eat⟩ := pass_at tp (show i < ps.length by omega)
      rw [e]
      refine ⟨at_, _, rfl, SqT.of ((k1.trans k).tup (by simp) eat), rfl, _, _, rfl, _, _, rfl, _, _, rfl, _, _, rfl, rfl, rfl, st_yes ?_⟩
      exact ⟨_, rfl, _, rfl, len_ok, fun x hx => hR x _ (Kx.new hx) upd_same⟩
    refine ⟨D2, L2, rfl, eD2, _, rfl, rfl, _, rfl, ?_⟩
    have e2 : decide (V.int (L2.length : Int) = V.int (xp.length : Int)) = decide ((ps.map fun p => [p.hour, p.craft]).Nodup) := by
      rw [eqV_int]
      refine decide_eq_decide.mpr ?_
      rw [lp, range_getD (fun p : Pass => [p.hour, p.craft]) ps p0] at cnt2
      rw [← cnt2, lp]
      omega
    rw [e2]
    have k12 := k1.trans k2
    have q2 := q H2 k12
    unfold clashB at q2
    rw [c1, Bool.true_and] at q2
    refine andV (R := fun b => Q (.bl b) H2) q2 fun c2 _ => ?_
    refine st_op (st_cb (st_cons (st_setG ?_)))
    have ep2 := k12.lst (by simp) ep
    refine ⟨.ref pa, rfl, pa, rfl, ⟨xp, SqL.of ep2⟩, ?_⟩
    refine len_ints (itl_at (B := []) ep2 (by simp)) (fun i => (ps.getD i p0).block) (by omega) (fun i H' hi k R R0 hR => ?_) fun D3 S3 n3 H3 k3 eD3 cnt3 => ?_
    · obtain ⟨at_, e, eat⟩ := pass_at tp (show i < ps.length by omega)
      rw [e]
      refine ⟨at_, _, rfl, SqT.of ((k12.trans k).tup (by simp) eat), rfl, _, _, rfl, _, _, rfl, _, _, rfl, _, _, rfl, rfl, rfl, st_yes ?_⟩
      exact ⟨_, rfl, hR _ (Kx.refl _)⟩
    refine ⟨D3, S3, n3, rfl, eD3, _, rfl, rfl, ?_⟩
    have e3 : decide (V.int (n3 : Int) = V.int (xp.length : Int)) = decide ((ps.map fun p => p.block).Nodup) := by
      rw [eqV_int]
      refine decide_eq_decide.mpr ?_
      rw [lp, range_getD (fun p : Pass => p.block) ps p0] at cnt3
      rw [← cnt3, lp]
      omega
    have q3 := q H3 (k12.trans k3)
    unfold clashB at q3
    rw [c1, c2, Bool.true_and, Bool.true_and, ← e3] at q3
    exact q3
/-! ### rising passes -/
theorem op_ltTK {X : Cx} (K : PySem.W.Frag) (h : X.K = K) (hu : X.A.units < cLine) : OpR X (compareOp .Lt) (rLtT K) := h ▸ op_ltT hu
def passI (p : Pass) : List Int := [p.hour, p.dish, p.craft, p.block]
def risesP (ps : List Pass) : Bool := (List.range (ps.length - 1)).all fun i => HT.lexLt (passI (ps.getD i p0)) (passI (ps.getD (i + 1) p0))
def sp_risesT (ta : String → Addr) : Sp := fun vs H Q _ => ∃ (pa : Addr) (ps : List Pass), vs = [.ref pa] ∧ Tr [] H (.ref pa) (.list (ps.map passD)) ∧ ps.length ≤ 100000 ∧ Tb (Ts ta) H ∧ ∀ H', Kx [] H H' → Q (.bl (risesP ps)) H'
theorem ok_risesT (Y : Facts K mg base fa fd ca ta) : FnOk P w K mg base CX0 2 (fa "rises") (fd "rises") ["things"] (sp_risesT ta) := by
  refine Y.d_rises.ok sc_rises (fun vs H Q E h => ?_) (fun cdv A outer s H vs Q E hcd hr h => ?_)
  · obtain ⟨a, ns, rfl, _⟩ := h; rfl
  · obtain ⟨a, ps, rfl, ht, hz, hT, q⟩ := h
    refine ⟨_, (pss_one (ps_ret (pe_allG (own := [("at", 1)]) (g := gName 1) (tt := tYes) (hr.mono (by decide)) rfl sc_rises.nd (by rfl) Y.b.all Y.t_rises.tb (hcd.symm.trans Y.t_rises.code) (gok_by (N := ["things", "at"]) (sc := defScope s_rises) (by decide +kernel)) (pi_range1 (by rfl) Y.b.range (pa_cons (pe_op op_sub (pe_callB (call_lenK K rfl) (by rfl) Y.b.len (by decide +kernel) (pa_cons (pv 0) pa_nil)) pe_int) pa_nil)) (fun _ _ _ _ _ _ _ => (pg_name (i := 1) sc_rises.nd rfl (by first | exact Or.inl rfl | exact Or.inr rfl))) (fun _ _ _ _ _ _ _ => pts_nil) (fun _ _ _ _ _ _ _ => (pe_cmpR (op_ltTK K rfl (room_gen (k := 0) (hr.mono (by decide)) _).units0) (pe_ix (ix_listK K rfl) (pv 0) (pv 1) (fun _ _ => rfl)) (pe_ix (ix_listK K rfl) (pv 0) (pe_op op_add (pv 1) pe_int) (fun _ _ => rfl)) (nomark _)))))), ?_⟩
    obtain ⟨xp, ep, tp⟩ := ht.items
    have lp := tp.length
    rw [List.length_map] at lp
    refine ⟨_, rfl, a, xp, rfl, .inl (SqL.of ep), _, _, rfl, rfl, (ps.length : Int) - 1, by rw [lp], ?_, ?_, ?_⟩
    · omega
    · omega
    · rw [show ((ps.length : Int) - 1).toNat = ps.length - 1 by omega]
      refine all_range (p := fun i => HT.lexLt (passI (ps.getD i p0)) (passI (ps.getD (i + 1) p0))) (tab_rises hT) (fun i H' hi k R hR => ?_) q
      have ep' := k.lst (by simp) ep
      obtain ⟨x1, e1, f1⟩ := pass_at tp (show i < ps.length by omega)
      obtain ⟨x2, e2, f2⟩ := pass_at tp (show i + 1 < ps.length by omega)
      have g1 : xp[i]? = some (.ref x1) := by
        rw [List.getD_eq_getElem?_getD, List.getElem?_eq_getElem (by omega)] at e1
        rw [List.getElem?_eq_getElem (by omega)]
        exact congrArg some e1
      have g2 : xp[i + 1]? = some (.ref x2) := by
        rw [List.getD_eq_getElem?_getD, List.getElem?_eq_getElem (by omega)] at e2
        rw [List.getElem?_eq_getElem (by omega)]
        exact congrArg some e2
      refine ⟨rfl, _, rfl, _, rfl, a, _, _, _, rfl, rfl, SqL.of ep', atI_nat g1, _, rfl, _, rfl, _, _, rfl, rfl, a, _, _, _, rfl, rfl, SqL.of ep', at_of (j := i + 1) (by simp) g2, x1, x2, passI (ps.getD i p0), passI (ps.getD (i + 1) p0), rfl, rfl, SqT.of (k.tup (by simp) f1), SqT.of (k.tup (by simp) f2), _, rfl, ?_⟩
      exact hR H' (Kx.refl _)
end
end Law

set_option Elab.async false
set_option linter.all false
set_option maxRecDepth 100000
set_option maxHeartbeats 4000000
namespace Law
open PySem PySem.Spec PyProof.Rows L2 GxR GX Tree Kit Data Loops Loops2 Comps Purse Day SetG SetL
section
variable {P : Program} {w : World} {K : PySem.W.Frag} {mg : Str → Option Value} {base : Heap} {fa : String → Addr} {fd : String → FuncData} {ca ta : String → Addr}
/-! ### stores -/
def fitB (D : Dy) (ps : List Pass) : Bool := (List.range D.stores.length).all fun c => (List.range D.hours.toNat).all fun h => decide (((keptL D ps c h).length : Int) ≤ D.stores.getD c 0)
/-- the blocks of passes are blocks of the day -/
def InB (D : Dy) (ps : List Pass) : Prop := ∀ p ∈ ps, 0 ≤ p.block ∧ p.block < (D.blocks.length : Int)
def sp_fit (ta : String → Addr) : Sp := fun vs H Q _ => ∃ (dv : V) (D : Dy) (pa : Addr) (ps : List Pass), vs = [dv, .ref pa] ∧ Tr [] H dv (dayD D) ∧ DyOk D ∧ Tr [] H (.ref pa) (.list (ps.map passD)) ∧ ps.length < 64 ∧ InB D ps ∧ Tb (Ts ta) H ∧ ∀ H', Kx [] H H' → Q (.bl (fitB D ps)) H'
theorem ok__fit_stores (Y : Facts K mg base fa fd ca ta) : FnOk P w K mg base CX0 3 (fa "_fit_stores") (fd "_fit_stores") ["day", "passes"] (sp_fit ta) := by
  refine Y.d__fit_stores.ok sc__fit_stores (fun vs H Q E h => ?_) (fun cdv A outer s H vs Q E hcd hr h => ?_)
  · obtain ⟨dv, D, pa, ps, rfl, _⟩ := h; rfl
  · obtain ⟨dv, D, pa, ps, rfl, hdt, hD, hpt, hl, hb, hT, q⟩ := h
    refine ⟨_, (pss_cons (ps_asg (pv 0) (pg_tupK (n := 5) K rfl rfl (pgs_cons (pg_name (i := 2) sc__fit_stores.nd rfl (by first | exact Or.inl rfl | exact Or.inr rfl)) (pgs_cons (pg_name (i := 3) sc__fit_stores.nd rfl (by first | exact Or.inl rfl | exact Or.inr rfl)) (pgs_cons (pg_name (i := 4) sc__fit_stores.nd rfl (by first | exact Or.inl rfl | exact Or.inr rfl)) (pgs_cons (pg_name (i := 5) sc__fit_stores.nd rfl (by first | exact Or.inl rfl | exact Or.inr rfl)) (pgs_cons (pg_name (i := 6) sc__fit_stores.nd rfl (by first | exact Or.inl rfl | exact Or.inr rfl)) pgs_nil)))))))
      (pss_one (ps_ret (pe_allG2 (own := [("craft", 7), ("hour", 8)]) (g := gName 7) (tt := tYes) (g1 := gName 8) (tt1 := tYes) (vs1 := [8]) (hr.mono (by decide)) rfl sc__fit_stores.nd (by rfl) Y.b.all Y.t__fit_stores.tb (hcd.symm.trans Y.t__fit_stores.code) (gok_by (N := ["day", "passes", "hours", "stores", "sights", "asks", "blocks", "craft", "hour"]) (sc := defScope s__fit_stores) (by decide +kernel)) (by decide) (pi_range1 (by rfl) Y.b.range (pa_cons (pe_callB (call_lenK K rfl) (by rfl) Y.b.len (by decide +kernel) (pa_cons (pv 3) pa_nil)) pa_nil)) (fun _ _ _ _ _ _ _ => (pg_name (i := 7) sc__fit_stores.nd rfl (by first | exact Or.inl rfl | exact Or.inr rfl))) (fun _ _ _ _ _ _ _ => pts_nil) (fun _ _ _ _ _ _ _ => (pi_range1 (by rfl) Y.b.range (pa_cons (pv 2) pa_nil))) (fun _ _ _ _ _ _ _ => (pg_name (i := 8) sc__fit_stores.nd rfl (by first | exact Or.inl rfl | exact Or.inr rfl))) (fun _ _ _ _ _ _ _ => pts_nil) (fun _ _ _ _ _ _ _ => (pe_cmpR op_le (pe_callB (call_lenK K rfl) (by rfl) Y.b.len (by decide +kernel) (pa_cons (pe_call (ok_kept_over Y) ((room_gen (k := 1) (hr.mono (by decide)) _).mono (by decide)) (by rfl) Y.d_kept_over.g Y.d_kept_over.kp Y.d_kept_over.b .nil pass0 (pa_cons (pv 0) (pa_cons (pv 1) (pa_cons (pv 7) (pa_cons (pv 8) pa_nil))))) pa_nil)) (pe_ix (ix_listK K rfl) (pv 3) (pv 7) (fun _ _ => rfl)) (nomark _))))))), ?_⟩
    have hdt0 := hdt
    obtain ⟨da, dx, rfl, edx, tdx⟩ := hdt.tupV
    obtain ⟨y1, y2, y3, y4, y5, rfl, u1, u2, u3, u4, u5⟩ := TrAll.five tdx
    cases u1
    obtain ⟨aS, xS, rfl, eS, tS⟩ := u2.listV
    have exS := TrAll.intsV tS (by rw [ints_back])
    rw [ints_back] at exS
    subst exS
    have h10 := hD.t1
    have h01 := hD.t0
    have s4 := hD.s1
    refine ⟨.ref da, rfl, da, _, rfl, SqT.of edx, rfl, _, _, rfl, .ref aS, _, rfl, y3, _, rfl, y4, _, rfl, y5, _, rfl, rfl, ?_⟩
    refine ⟨_, rfl, aS, _, rfl, .inl (SqL.of eS), (D.stores.length : Int), by rw [List.length_map], by omega, by omega, ?_⟩
    rw [Int.toNat_natCast]
    refine all_range2 (n2 := D.hours.toNat) (p := fun c h => decide (((keptL D ps c h).length : Int) ≤ D.stores.getD c 0)) (tab__fit_stores hT) (fun c H1 hc k1 Z hZ => ?_) q
    refine ⟨rfl, _, rfl, D.hours, rfl, by omega, by omega, hZ _ _ (Kx.refl _) fun h H5 hh k5 R hR => ?_⟩
    have k05 := k1.trans k5
    refine ⟨rfl, .ref da, rfl, .ref pa, rfl, .int c, rfl, .int h, rfl, .ref da, D, pa, ps, c, h, rfl, hdt0.up k05, hpt.up k05, hl, hb, fun F ns H6 k6 hF eF perm up => ?_⟩
    refine ⟨F, _, rfl, .inl (SqL.of eF), .ref aS, rfl, .int c, rfl, aS, _, c, _, rfl, rfl, SqL.of ((k05.trans k6).lst (by simp) eS), atI_nat (by rw [List.getElem?_map, List.getElem?_eq_getElem hc]; rfl), _, _, rfl, rfl, _, rfl, ?_⟩
    have := hR H6 k6
    rw [List.length_map, perm.length_eq]
    rw [getD_at _ _ hc] at this
    exact this
end
end Law

set_option Elab.async false
set_option linter.all false
set_option maxRecDepth 100000
set_option maxHeartbeats 4000000
namespace Law
open PySem PySem.Spec PyProof.Rows L2 GxR GX Tree Kit Data Loops Loops2 Comps Purse Day SetG SetL
section
variable {P : Program} {w : World} {K : PySem.W.Frag} {mg : Str → Option Value} {base : Heap} {fa : String → Addr} {fd : String → FuncData} {ca ta : String → Addr} {cs : String → Addr} {fm : String → String → Addr} {fdm : String → String → FuncData}
/-! ### plans -/
def passOf : PyData → Pass
  | .tuple [a, b, c, d] => ⟨intOf a, intOf b, intOf c, intOf d⟩
  | _ => p0
def planT (D : Dy) (ps : List Pass) : Bool := risesP ps && (clashB ps && fitB D ps)
def planB (D : Dy) : PyData → Bool
  | .list ds => ds.all (passB D) && planT D (ds.map passOf)
  | _ => false
theorem passOf_D (p : Pass) : passOf (passD p) = p := rfl
theorem passes_back {D : Dy} {ds : List PyData} (h : ds.all (passB D) = true) : ds = (ds.map passOf).map passD ∧ ∀ p ∈ ds.map passOf, passT D p = true := by
  induction ds with
  | nil => exact ⟨rfl, fun p hp => nomatch hp⟩
  | cons d r ih =>
    rw [List.all_cons, Bool.and_eq_true] at h
    obtain ⟨p, rfl, hp⟩ := passB_of h.1
    obtain ⟨h1, h2⟩ := ih h.2
    refine ⟨?_, fun q hq => ?_⟩
    · show passD p :: r = passD p :: (r.map passOf).map passD
      rw [← h1]
    · rcases List.mem_cons.mp (show q ∈ p :: r.map passOf from hq) with rfl | hq
      · exact hp
      · exact h2 q hq
theorem passT_of {D : Dy} {p : Pass} (h : passT D p = true) : (0 ≤ p.hour ∧ p.hour ≤ D.hours - 1) ∧ (0 ≤ p.dish ∧ p.dish ≤ (D.sights.length : Int) - 1) ∧ (0 ≤ p.craft ∧ p.craft ≤ (D.stores.length : Int) - 1) ∧ (0 ≤ p.block ∧ p.block ≤ (D.blocks.length : Int) - 1) ∧
    p.craft ∈ heardAt D p.dish p.hour ∧ p.craft = (blkAt D p.block).craft ∧ mayB (blkAt D p.block) p.hour = true := by
  unfold passT at h
  obtain ⟨a1, h⟩ := and3 h
  obtain ⟨a2, h⟩ := and3 h
  obtain ⟨a3, h⟩ := and3 h
  obtain ⟨a4, h⟩ := and3 h
  obtain ⟨a5, h⟩ := and3 h
  obtain ⟨a6, a7⟩ := and3 h
  obtain ⟨i, e1, b1, b2⟩ := isWh_int a1
  obtain ⟨j, e2, c1, c2⟩ := isWh_int a2
  obtain ⟨k, e3, d1, d2⟩ := isWh_int a3
  obtain ⟨l, e4, f1, f2⟩ := isWh_int a4
  cases e1
  cases e2
  cases e3
  cases e4
  exact ⟨⟨b1, b2⟩, ⟨c1, c2⟩, ⟨d1, d2⟩, ⟨f1, f2⟩, List.contains_iff_mem.mp a5, of_decide_eq_true a6, a7⟩
theorem inB_of {D : Dy} {ps : List Pass} (h : ∀ p ∈ ps, passT D p = true) : InB D ps := fun p hp => by
  have := (passT_of (h p hp)).2.2.2.1
  omega
def sp_is_plan (cs : String → Addr) (ta : String → Addr) : Sp := fun vs H Q E => ∃ (dv : V) (dd : PyData) (v : V) (d : PyData), vs = [dv, v] ∧ Tr [] H dv dd ∧ sz dd ≤ 100000 ∧ Tr [] H v d ∧ (∀ ds, d = .list ds → ds.length < 64) ∧ Tb (Ts ta) H ∧
  (∀ D, dd = dayD D → DyOk D → isDayB dd = true → ∀ H', Kx [] H H' → Q (.bl (planB D d)) H') ∧ (isDayB dd = false → ∀ H', Kx [] H H' → E (.ref (cs "NoDay")) none H')
theorem ok_is_plan (Y : Facts K mg base fa fd ca ta) (Z : CFacts K mg cs fm fdm) : FnOk P w K mg base (L2.CX P w) 11 (fa "is_plan") (fd "is_plan") ["day", "thing"] (sp_is_plan cs ta) := by
  refine Y.d_is_plan.okX sc_is_plan (fun vs H Q E h => ?_) (fun cdv A outer s H vs Q E hcd hr h => ?_)
  · obtain ⟨dv, D, v, d, rfl, _⟩ := h; rfl
  · obtain ⟨dv, dd, v, d, rfl, hdt, hz, ht, hl, hT, q0, qx⟩ := h
    refine ⟨_, (pss_cons (ps_expr (pe_callS (ok_need_day Y Z) (hr.mono (by decide)) (by rfl) Y.d_need_day.g Y.d_need_day.kp Y.d_need_day.b (fun σ => passAt (takes_of rfl rfl rfl rfl) σ) (pa_cons (pv 0) pa_nil)))
      (PSs.nox (pss_one (ps_ret (pe_and (pe_callB (call_isiK' K rfl) (by rfl) Y.b.isinstance (by decide +kernel) (pa_cons (pv 1) (pa_cons (pe_bltn (v := .ty "list") (by rfl) Y.b.list (by decide +kernel) rfl) pa_nil))) (pe_and (pe_allG (own := [("part", 2)]) (g := gName 2) (tt := tYes) (hr.mono (by decide)) rfl sc_is_plan.nd (by rfl) Y.b.all Y.t_is_plan.tb (hcd.symm.trans Y.t_is_plan.code) (gok_by (N := ["day", "thing", "part"]) (sc := defScope s_is_plan) (by decide +kernel)) (pi_listK K rfl (pv 1)) (fun _ _ _ _ _ _ _ => (pg_name (i := 2) sc_is_plan.nd rfl (by first | exact Or.inl rfl | exact Or.inr rfl))) (fun _ _ _ _ _ _ _ => pts_nil) (fun _ _ _ _ _ _ _ => (pe_call (ok__is_pass Y) ((room_gen (k := 9) (hr.mono (by decide)) _).mono (by decide)) (by rfl) Y.d__is_pass.g Y.d__is_pass.kp Y.d__is_pass.b .nil pass0 (pa_cons (pv 0) (pa_cons (pv 2) pa_nil))))) (pe_and (pe_call (ok_risesT Y) (hr.mono (by decide)) (by rfl) Y.d_rises.g Y.d_rises.kp Y.d_rises.b .nil pass0 (pa_cons (pv 1) pa_nil)) (pe_and (pe_call (ok__clash_nowhere Y) (hr.mono (by decide)) (by rfl) Y.d__clash_nowhere.g Y.d__clash_nowhere.kp Y.d__clash_nowhere.b .nil pass0 (pa_cons (pv 1) pa_nil)) (pe_one (pe_call (ok__fit_stores Y) (hr.mono (by decide)) (by rfl) Y.d__fit_stores.g Y.d__fit_stores.kp Y.d__fit_stores.b .nil pass0 (pa_cons (pv 0) (pa_cons (pv 1) pa_nil)))))))))))), ?_⟩
    refine ⟨dv, rfl, dv, _, rfl, hdt, hz, hT, fun hday H1 k1 => ?_, fun hno H1 k1 => qx hno H1 k1⟩
    obtain ⟨D, rfl, hD⟩ := day_of hday
    have q := q0 D rfl hD hday
    clear q0 qx
    refine ⟨v, rfl, v, .ty "list", _, _, _, rfl, .ty _, (ht.up k1).ty, kit_list d, _, rfl, ?_⟩
    refine ite2 (fun c => ?_) (fun c => ?_)
    · cases ht with
      | lst n h l =>
        rename_i a xs ds
        have hl := hl ds rfl
        refine all_treeV (passB D) rfl (k1.lst (by simp) h) (l.up k1) (tab_is_plan (hT.kx k1)) (fun x d H' hd t k R hR => ?_) fun H2 k2 => ?_
        · exact ⟨rfl, dv, rfl, x, rfl, dv, D, x, d, rfl, hdt.up (k1.trans k), hD, t, _, rfl, hR H' (Kx.refl _)⟩
        have k02 := k1.trans k2
        refine ⟨_, rfl, ?_⟩
        have q2 : ∀ H', Kx [] H2 H' → Q (.bl (planB D (.list ds))) H' := fun H' k => q H' (k02.trans k)
        cases c1 : ds.all (passB D) with
        | false =>
          refine iteF ?_
          have := q2 H2 (Kx.refl _)
          rw [show planB D (.list ds) = false by show (ds.all (passB D) && _) = false; rw [c1]; rfl] at this
          exact this
        | true =>
        obtain ⟨eb, hp⟩ := passes_back c1
        have ee : planB D (.list ds) = planT D (ds.map passOf) := by show (ds.all (passB D) && _) = _; rw [c1, Bool.true_and]
        rw [ee] at q2
        have tp : Tr [] H2 (.ref a) (.list ((ds.map passOf).map passD)) := by rw [← eb]; exact .lst (by simp) (k02.lst (by simp) h) (l.up k02)
        have lp : (ds.map passOf).length < 64 := by rw [List.length_map]; exact hl
        generalize ds.map passOf = ps at q2 tp lp hp
        have hb := inB_of hp
        refine iteT ⟨_, rfl, a, ps, rfl, tp, by omega, hT.kx k02, fun H3 k3 => ⟨_, rfl, ?_⟩⟩
        unfold planT at q2
        cases c2 : risesP ps with
        | false =>
          have := q2 H3 k3
          rw [c2] at this
          exact iteF this
        | true =>
        refine iteT ⟨_, rfl, a, ps, rfl, tp.up k3, lp, fun H4 k4 => ⟨_, rfl, ?_⟩⟩
        cases c3 : clashB ps with
        | false =>
          have := q2 H4 (k3.trans k4)
          rw [c2, c3] at this
          exact iteF this
        | true =>
        refine iteT ⟨dv, rfl, _, rfl, dv, D, a, ps, rfl, hdt.up (k02.trans (k3.trans k4)), hD, tp.up (k3.trans k4), lp, hb, hT.kx (k02.trans (k3.trans k4)), fun H5 k5 => ?_⟩
        have := q2 H5 ((k3.trans k4).trans k5)
        rw [c2, c3] at this
        exact this
      | _ => cases c
    · have e : planB D d = false := by cases d <;> first | rfl | exact absurd rfl c
      have := q H1 k1
      rw [e] at this
      exact this
/-- a plan of the day, typed -/
structure Plan (D : Dy) (ps : List Pass) : Prop where
  ok : ∀ p ∈ ps, passT D p = true
  pl : planT D ps = true
  len : ps.length < 64
theorem Plan.b {D : Dy} {ps : List Pass} (h : Plan D ps) : planB D (.list (ps.map passD)) = true := by
  show ((ps.map passD).all (passB D) && planT D ((ps.map passD).map passOf)) = true
  rw [List.map_map, show (passOf ∘ passD) = id from rfl, List.map_id, h.pl, Bool.and_true, List.all_map]
  exact List.all_eq_true.mpr fun p hp => h.ok p hp
structure DayV (D : Dy) : Prop where
  ok : DyOk D
  b : isDayB (dayD D) = true
  z : sz (dayD D) ≤ 100000
def sp_need_plan (cs : String → Addr) (ta : String → Addr) : Sp := fun vs H Q E => ∃ (dv : V) (dd : PyData) (v : V) (d : PyData), vs = [dv, v] ∧ Tr [] H dv dd ∧ sz dd ≤ 100000 ∧ Tr [] H v d ∧ (∀ ds, d = .list ds → ds.length < 64) ∧ Tb (Ts ta) H ∧
  (∀ D, dd = dayD D → DyOk D → isDayB dd = true → (planB D d = true → ∀ H', Kx [] H H' → Q .non H') ∧ (planB D d = false → ∀ H', Kx [] H H' → E (.ref (cs "NoPlan")) none H')) ∧ (isDayB dd = false → ∀ H', Kx [] H H' → E (.ref (cs "NoDay")) none H')
theorem ok_need_plan (Y : Facts K mg base fa fd ca ta) (Z : CFacts K mg cs fm fdm) : FnOk P w K mg base (L2.CX P w) 12 (fa "need_plan") (fd "need_plan") ["day", "thing"] (sp_need_plan cs ta) := by
  refine Y.d_need_plan.okX sc_need_plan (fun vs H Q E h => ?_) (fun cdv A outer s H vs Q E hcd hr h => ?_)
  · obtain ⟨dv, D, v, d, rfl, _⟩ := h; rfl
  · obtain ⟨dv, dd, v, d, rfl, hdt, hz, ht, hl, hT, q, qx⟩ := h
    refine ⟨_, (pss_one (ps_if (pt_not (pt_val (pe_callS (ok_is_plan Y Z) (hr.mono (by decide)) (by rfl) Y.d_is_plan.g Y.d_is_plan.kp Y.d_is_plan.b (fun σ => passAt (takes_of rfl rfl rfl rfl) σ) (pa_cons (pv 0) (pa_cons (pv 1) pa_nil))))) (pss_one (ps_raise rfl (takes_of rfl rfl rfl rfl) (pmk_own PySem.F.excBase_ValueError Z.xi_NoPlan Z.g_NoPlan Z.k_NoPlan (raises_own Z.b_NoPlan Z.t_NoPlan) rfl))) pss_nil)), ?_⟩
    refine ⟨dv, rfl, v, rfl, dv, dd, v, d, rfl, hdt, hz, ht, hl, hT, fun D e hD hday H1 k1 => ⟨_, rfl, ?_⟩, fun hno H1 k1 => qx hno H1 k1⟩
    cases hp : planB D d with
    | true => exact iteF ((q D e hD hday).1 hp H1 k1)
    | false => exact iteT ((q D e hD hday).2 hp H1 k1)
def askAt (D : Dy) (d : Int) : Option Int := D.asks.getD d.toNat none
def gainP (D : Dy) (p : Pass) : Int := (blkAt D p.block).worth - (askAt D p.dish).getD 0
def gainL (D : Dy) (ps : List Pass) : Int := (ps.map (gainP D)).sum
def InD (D : Dy) (ps : List Pass) : Prop := ∀ p ∈ ps, 0 ≤ p.dish ∧ p.dish < (D.asks.length : Int)
theorem inD_of {D : Dy} (hD : DyOk D) {ps : List Pass} (h : ∀ p ∈ ps, passT D p = true) : InD D ps := fun p hp => by
  have := (passT_of (h p hp)).2.1
  have := hD.al
  omega
theorem gainL_step (D : Dy) (ps : List Pass) (i : Nat) (hi : i < ps.length) : gainL D (ps.take (i + 1)) = gainL D (ps.take i) + gainP D ps[i] := by
  unfold gainL
  rw [List.take_add_one, List.getElem?_eq_getElem hi, List.map_append, List.sum_append]
  simp
def sp_gain_of_passes : Sp := fun vs H Q _ => ∃ (dv : V) (D : Dy) (pa : Addr) (ps : List Pass), vs = [dv, .ref pa] ∧ Tr [] H dv (dayD D) ∧ Tr [] H (.ref pa) (.list (ps.map passD)) ∧ InB D ps ∧ InD D ps ∧ ∀ H', Kx [] H H' → Q (.int (gainL D ps)) H'
theorem ok_gain_of_passes (Y : Facts K mg base fa fd ca ta) : FnOk P w K mg base CX0 1 (fa "gain_of_passes") (fd "gain_of_passes") ["day", "passes"] sp_gain_of_passes := by
  refine Y.d_gain_of_passes.ok sc_gain_of_passes (fun vs H Q E h => ?_) (fun cdv A outer s H vs Q E hcd hr h => ?_)
  · obtain ⟨dv, D, v, d, rfl, _⟩ := h; rfl
  · obtain ⟨dv, D, pa, ps, rfl, hdt, hpt, hb, hd, q⟩ := h
    refine ⟨_, (pss_cons (ps_asg (pv 0) (pg_tupK (n := 5) K rfl rfl (pgs_cons (pg_name (i := 2) sc_gain_of_passes.nd rfl (by first | exact Or.inl rfl | exact Or.inr rfl)) (pgs_cons (pg_name (i := 3) sc_gain_of_passes.nd rfl (by first | exact Or.inl rfl | exact Or.inr rfl)) (pgs_cons (pg_name (i := 4) sc_gain_of_passes.nd rfl (by first | exact Or.inl rfl | exact Or.inr rfl)) (pgs_cons (pg_name (i := 5) sc_gain_of_passes.nd rfl (by first | exact Or.inl rfl | exact Or.inr rfl)) (pgs_cons (pg_name (i := 6) sc_gain_of_passes.nd rfl (by first | exact Or.inl rfl | exact Or.inr rfl)) pgs_nil)))))))
      (pss_cons (ps_set (i := 7) sc_gain_of_passes.nd rfl (by first | exact Or.inl rfl | exact Or.inr rfl) pe_int)
      (pss_cons (ps_for PassesOwn.never rfl (pi_listK K rfl (pv 1)) (pg_tupK (n := 4) K rfl rfl (pgs_cons (pg_name (i := 8) sc_gain_of_passes.nd rfl (by first | exact Or.inl rfl | exact Or.inr rfl)) (pgs_cons (pg_name (i := 9) sc_gain_of_passes.nd rfl (by first | exact Or.inl rfl | exact Or.inr rfl)) (pgs_cons (pg_name (i := 10) sc_gain_of_passes.nd rfl (by first | exact Or.inl rfl | exact Or.inr rfl)) (pgs_cons (pg_name (i := 11) sc_gain_of_passes.nd rfl (by first | exact Or.inl rfl | exact Or.inr rfl)) pgs_nil))))) (pss_cons (ps_asg (pe_ix (ix_listK K rfl) (pv 6) (pv 11) (fun _ _ => rfl)) (pg_tupK (n := 5) K rfl rfl (pgs_cons (pg_name (i := 12) sc_gain_of_passes.nd rfl (by first | exact Or.inl rfl | exact Or.inr rfl)) (pgs_cons (pg_name (i := 13) sc_gain_of_passes.nd rfl (by first | exact Or.inl rfl | exact Or.inr rfl)) (pgs_cons (pg_name (i := 14) sc_gain_of_passes.nd rfl (by first | exact Or.inl rfl | exact Or.inr rfl)) (pgs_cons (pg_name (i := 15) sc_gain_of_passes.nd rfl (by first | exact Or.inl rfl | exact Or.inr rfl)) (pgs_cons (pg_name (i := 16) sc_gain_of_passes.nd rfl (by first | exact Or.inl rfl | exact Or.inr rfl)) pgs_nil)))))))
      (pss_cons (ps_aug (i := 7) sc_gain_of_passes.nd rfl (by first | exact Or.inl rfl | exact Or.inr rfl) (pv 16) ip_add)
      (pss_one (ps_if (pt_cmpR op_notN (pe_ix (ix_listK K rfl) (pv 5) (pv 9) (fun _ _ => rfl)) pe_non (nomark _)) (pss_one (ps_aug (i := 7) sc_gain_of_passes.nd rfl (by first | exact Or.inl rfl | exact Or.inr rfl) (pe_ix (ix_listK K rfl) (pv 5) (pv 9) (fun _ _ => rfl)) ip_sub)) pss_nil)))))
      (pss_one (ps_ret (pv 7)))))), ?_⟩
    obtain ⟨da, dx, rfl, edx, tdx⟩ := hdt.tupV
    obtain ⟨y1, y2, y3, y4, y5, rfl, u1, u2, u3, u4, u5⟩ := TrAll.five tdx
    obtain ⟨aA, xA, rfl, eA, tA⟩ := u4.listV
    obtain ⟨aB, xB, rfl, eB, tB⟩ := u5.listV
    refine ⟨.ref da, rfl, da, _, rfl, SqT.of edx, rfl, y1, _, rfl, y2, _, rfl, y3, _, rfl, .ref aA, _, rfl, .ref aB, _, rfl, rfl, ?_⟩
    dsimp only
    refine st_seq ?_
    refine st_asg ?_
    refine st_name ?_
    dsimp only
    refine st_seq (st_for ?_)
    obtain ⟨xp, ep, tp⟩ := hpt.items
    have lp := tp.length
    rw [List.length_map] at lp
    refine ⟨.ref pa, rfl, pa, rfl, ⟨xp, SqL.of ep⟩, ?_⟩
    refine for_gen (itl_at (B := []) ep (by simp)) (Iv := fun i σ' H' => ∃ z1 z2 z3 z4 z5 z6 z7 z8 z9, σ' = [some (.ref da), some (.ref pa), some y1, some y2, some y3, some (.ref aA), some (.ref aB), some (.int (gainL D (ps.take i))), z1, z2, z3, z4, z5, z6, z7, z8, z9])
      ⟨_, _, _, _, _, _, _, _, _, rfl⟩ (fun i σ' H2 hi k2 ⟨z1, z2, z3, z4, z5, z6, z7, z8, z9, e⟩ Nn hN => ?_) fun σ' H2 k2 ⟨z1, z2, z3, z4, z5, z6, z7, z8, z9, e⟩ => ?_
    · subst e
      have hi' : i < ps.length := by omega
      obtain ⟨at_, e, eat⟩ := pass_at tp hi'
      rw [e]
      rw [getD_at ps p0 hi'] at eat
      have step := gainL_step D ps i hi'
      have hbk := hb ps[i] (List.getElem_mem hi')
      have hdk := hd ps[i] (List.getElem_mem hi')
      generalize ps[i] = p at step hbk hdk eat ⊢
      refine ⟨at_, _, rfl, SqT.of (k2.tup (by simp) eat), rfl, _, _, rfl, _, _, rfl, _, _, rfl, _, _, rfl, rfl, ?_⟩
      obtain ⟨_, xB', bv, e, eB', a3, tb⟩ := ixT u5 hbk.1 (by rw [List.length_map]; exact hbk.2)
      cases e
      rw [getD_map blkD D.blocks p.block.toNat ⟨0, 0, 0, none, 0⟩ _ (by omega)] at tb
      obtain ⟨bA, bx, rfl, eb, tbx⟩ := tb.tupV
      obtain ⟨b1, b2, b3, b4, b5, rfl, f1, f2, f3, f4, f5⟩ := TrAll.five tbx
      cases f5
      refine ⟨.ref aB, rfl, .int p.block, rfl, aB, xB', p.block, .ref bA, rfl, rfl, SqL.of (k2.lst (by simp) eB'), a3, bA, _, rfl, SqT.of (k2.tup (by simp) eb), rfl, b1, _, rfl, b2, _, rfl, b3, _, rfl, b4, _, rfl, _, _, rfl, rfl, ?_⟩
      obtain ⟨_, xA', av, e, eA', a4, tav⟩ := ixT u4 hdk.1 (by rw [List.length_map]; exact hdk.2)
      cases e
      rw [getD_map optD D.asks p.dish.toNat none _ (by omega)] at tav
      refine ⟨_, rfl, _, rfl, _, _, rfl, rfl, ?_⟩
      refine ⟨.ref aA, rfl, .int p.dish, rfl, aA, xA', p.dish, av, rfl, rfl, SqL.of (k2.lst (by simp) eA'), a4, rfl, _, rfl, ?_⟩
      have gp : gainP D p = (blkAt D p.block).worth - (askAt D p.dish).getD 0 := rfl
      have as : askAt D p.dish = D.asks.getD p.dish.toNat none := rfl
      cases ha : D.asks.getD p.dish.toNat none with
      | none =>
        rw [ha] at tav
        cases tav
        refine iteF (hN _ _ k2 ?_)
        have e : gainL D (ps.take (i + 1)) = gainL D (ps.take i) + (blkAt D p.block).worth := by
          rw [step, gp, as, ha, Option.getD_none, Int.sub_zero]
        rw [e]
        exact ⟨_, _, _, _, _, _, _, _, _, rfl⟩
      | some u =>
        rw [ha] at tav
        cases tav
        refine iteT ⟨_, rfl, .ref aA, rfl, .int p.dish, rfl, aA, xA', p.dish, .int u, rfl, rfl, SqL.of (k2.lst (by simp) eA'), a4, _, _, rfl, rfl, hN _ _ k2 ?_⟩
        have e : gainL D (ps.take (i + 1)) = gainL D (ps.take i) + (blkAt D p.block).worth - u := by
          rw [step, gp, as, ha, Option.getD_some]
          omega
        rw [e]
        exact ⟨_, _, _, _, _, _, _, _, _, rfl⟩
    · subst e
      rw [lp, List.take_length]
      exact ⟨_, rfl, q H2 k2⟩
end
end Law

set_option Elab.async false
set_option linter.all false
set_option maxRecDepth 100000
set_option maxHeartbeats 4000000
namespace Law
open PySem PySem.Spec PyProof.Rows L2 GxR GX Tree Kit Data Loops Loops2 Loops3 Comps Purse Day SetG SetL Obj EndG
section
variable {P : Program} {w : World} {K : PySem.W.Frag} {mg : Str → Option Value} {base : Heap} {fa : String → Addr} {fd : String → FuncData} {ca ta : String → Addr} {cs : String → Addr} {fm : String → String → Addr} {fdm : String → String → FuncData}
/-! ### a day copied -/
/-- no tuple stands at these -/
def NoTup (H : Hp) (B : List Addr) : Prop := ∀ b ∈ B, H b ≠ none ∧ ∀ ys, H b ≠ some (.tup ys)
theorem blk_away {B : List Addr} {H : Hp} (h : NoTup H B) {v : V} {b : Blk} (t : Tr [] H v (blkD b)) : Tr B H v (blkD b) := by
  obtain ⟨a, xs, rfl, ex, tx⟩ := t.tupV
  obtain ⟨v1, v2, v3, v4, v5, rfl, t1, t2, t3, t4, t5⟩ := TrAll.five tx
  refine .tup (fun z => (h a z).2 _ ex) ex ?_
  cases t1
  cases t2
  cases t3
  cases t5
  refine .cons (.int _) (.cons (.int _) (.cons (.int _) (.cons ?_ (.cons (.int _) .nil))))
  revert t4
  cases b.due with
  | none => intro t4; cases t4; exact .non
  | some u => intro t4; cases t4; exact .int u
theorem blks_away {B : List Addr} {H : Hp} (h : NoTup H B) : ∀ {xs : List V} {bs : List Blk}, TrAll [] H xs (bs.map blkD) → TrAll B H xs (bs.map blkD)
  | [], [], _ => .nil
  | _, b :: r, t => by
    cases t with
    | cons t1 t2 => exact .cons (blk_away h t1) (blks_away h t2)
theorem pass_away {B : List Addr} {H : Hp} (h : NoTup H B) {v : V} {p : Pass} (t : Tr [] H v (passD p)) : Tr B H v (passD p) := by
  obtain ⟨a, xs, rfl, ex, tx⟩ := t.tupV
  obtain ⟨v1, v2, v3, v4, rfl, t1, t2, t3, t4⟩ := TrAll.four tx
  refine .tup (fun z => (h a z).2 _ ex) ex ?_
  cases t1
  cases t2
  cases t3
  cases t4
  exact .cons (.int _) (.cons (.int _) (.cons (.int _) (.cons (.int _) .nil)))
theorem passes_away {B : List Addr} {H : Hp} (h : NoTup H B) : ∀ {xs : List V} {ps : List Pass}, TrAll [] H xs (ps.map passD) → TrAll B H xs (ps.map passD)
  | [], [], _ => .nil
  | _, b :: r, t => by
    cases t with
    | cons t1 t2 => exact .cons (pass_away h t1) (passes_away h t2)
theorem opts_away {B : List Addr} {H : Hp} : ∀ {xs : List V} {as : List (Option Int)}, TrAll [] H xs (as.map optD) → TrAll B H xs (as.map optD)
  | [], [], _ => .nil
  | _, b :: r, t => by
    cases t with
    | cons t1 t2 =>
      refine .cons ?_ (opts_away t2)
      cases b with
      | none => cases t1; exact .non
      | some u => cases t1; exact .int u
def sp_copy : Sp := fun vs H Q _ => ∃ (B : List Addr) (dv : V) (D : Dy), vs = [dv] ∧ NoTup H B ∧ Tr [] H dv (dayD D) ∧ DyOk D ∧ ∀ (aD : Addr) (H' : Hp), Kx [] H H' → H aD = none → Tr B H' (.ref aD) (dayD D) → Q (.ref aD) H'
theorem ok_copy_of_day (Y : Facts K mg base fa fd ca ta) : FnOk P w K mg base CX0 1 (fa "copy_of_day") (fd "copy_of_day") ["day"] sp_copy := by
  refine Y.d_copy_of_day.ok sc_copy_of_day (fun vs H Q E h => ?_) (fun cdv A outer s H vs Q E hcd hr h => ?_)
  · obtain ⟨B, dv, D, rfl, _⟩ := h; rfl
  · obtain ⟨B, dv, D, rfl, hB, hdt, hD, q⟩ := h
    refine ⟨_, (pss_cons (ps_asg (pv 0) (pg_tupK (n := 5) K rfl rfl (pgs_cons (pg_name (i := 1) sc_copy_of_day.nd rfl (by first | exact Or.inl rfl | exact Or.inr rfl)) (pgs_cons (pg_name (i := 2) sc_copy_of_day.nd rfl (by first | exact Or.inl rfl | exact Or.inr rfl)) (pgs_cons (pg_name (i := 3) sc_copy_of_day.nd rfl (by first | exact Or.inl rfl | exact Or.inr rfl)) (pgs_cons (pg_name (i := 4) sc_copy_of_day.nd rfl (by first | exact Or.inl rfl | exact Or.inr rfl)) (pgs_cons (pg_name (i := 5) sc_copy_of_day.nd rfl (by first | exact Or.inl rfl | exact Or.inr rfl)) pgs_nil)))))))
      (pss_cons (ps_setLc (i := 6) (own := [("sight", 7)]) (g := gName 7) (tt := tYes) rfl sc_copy_of_day.nd rfl rfl (sw_true rfl rfl rfl (by decide +kernel)) (pi_listK K rfl (pv 3)) (blkOk_by (N := ["day", "hours", "stores", "sights", "asks", "blocks", "own_sights", "sight", "heard"]) (sc := defScope s_copy_of_day) (by decide +kernel)) (fun _ _ _ _ _ => (pg_name (i := 7) sc_copy_of_day.nd rfl (by first | exact Or.inl rfl | exact Or.inr rfl))) (fun _ _ _ _ _ => pts_nil) (fun _ _ _ _ _ => (pe_lc (own := [("heard", 8)]) (g := gName 8) (tt := tYes) rfl sc_copy_of_day.nd (pi_listK K rfl (pv 7)) (blkOk_any (N := ["day", "hours", "stores", "sights", "asks", "blocks", "own_sights", "sight", "heard"]) (by decide +kernel)) (fun _ _ _ _ _ => (pg_name (i := 8) sc_copy_of_day.nd rfl (by first | exact Or.inl rfl | exact Or.inr rfl))) (fun _ _ _ _ _ => pts_nil) (fun _ _ _ _ _ => (pe_callTy (call_listK K rfl) (by rfl) Y.b.list (by decide +kernel) (pa_cons (pv 8) pa_nil))))))
      (pss_one (ps_ret (pe_tup (pa_cons (pv 1) (pa_cons (pe_callTy (call_listK K rfl) (by rfl) Y.b.list (by decide +kernel) (pa_cons (pv 2) pa_nil)) (pa_cons (pv 6) (pa_cons (pe_callTy (call_listK K rfl) (by rfl) Y.b.list (by decide +kernel) (pa_cons (pv 4) pa_nil)) (pa_cons (pe_callTy (call_listK K rfl) (by rfl) Y.b.list (by decide +kernel) (pa_cons (pv 5) pa_nil)) pa_nil)))))))))), ?_⟩
    have al : ∀ c ∈ B, H c ≠ none := fun c hc => (hB c hc).1
    obtain ⟨da, dx, rfl, edx, tdx⟩ := hdt.tupV
    obtain ⟨y1, y2, y3, y4, y5, rfl, u1, u2, u3, u4, u5⟩ := TrAll.five tdx
    cases u1
    obtain ⟨aS, xS, rfl, eS, tS⟩ := u2.listV
    have exS := TrAll.intsV tS (by rw [ints_back])
    rw [ints_back] at exS
    subst exS
    obtain ⟨aI, xI, rfl, eI, tI⟩ := u3.listV
    obtain ⟨aA, xA, rfl, eA, tA⟩ := u4.listV
    obtain ⟨aB, xB, rfl, eB, tB⟩ := u5.listV
    have g3 := hD.g1
    have h10 := hD.t1
    have c4 := hD.s1
    refine ⟨.ref da, rfl, da, _, rfl, SqT.of edx, rfl, _, _, rfl, .ref aS, _, rfl, .ref aI, _, rfl, .ref aA, _, rfl, .ref aB, _, rfl, rfl, ?_⟩
    dsimp only
    refine st_set (lc_use ?_)
    refine ⟨.ref aI, rfl, aI, rfl, ⟨xI, SqL.of eI⟩, ?_⟩
    refine lc_mapC (C := B) id al eI tI (by rw [List.length_map]; unfold sizeLine; omega) (fun D1 x d H1 hD1 al1 hd t1 k1 R hR => ?_) fun aI2 H1 k1 hI2 t1 => ?_
    · obtain ⟨si, hsi, rfl⟩ := List.mem_map.mp hd
      have lsi := hD.gl si hsi
      obtain ⟨ax, xx, rfl, ex, tx⟩ := t1.listV
      refine ⟨rfl, lc_use ?_⟩
      refine ⟨.ref ax, rfl, ax, rfl, ⟨xx, SqL.of ex⟩, ?_⟩
      refine lc_mapC (C := D1 :: B) id al1 ex tx (by rw [List.length_map]; unfold sizeLine; omega) (fun D2 x2 d2 H2 hD2 al2 hd2 t2 k2 R2 hR2 => ?_) fun ax2 H2 k2 hx2 t2 => ?_
      · obtain ⟨row, hrow, rfl⟩ := List.mem_map.mp hd2
        obtain ⟨ar, xr, rfl, er, tr⟩ := t2.listV
        have exr := TrAll.intsV tr (by rw [ints_back])
        rw [ints_back] at exr
        subst exr
        refine ⟨rfl, .ref ar, rfl, ar, _, rfl, .inl (SqL.of er), fun L hL => ?_⟩
        obtain ⟨k3, e3, t3⟩ := mk_lst (C := D2 :: D1 :: B) al2 (TrAll.ints row) hL
        exact hR2 _ _ k3 t3
      · rw [List.map_id] at t2
        exact hR _ _ k2 t2
    · rw [List.map_id] at t1
      have al1 := al_up' al k1
      refine ⟨_, rfl, .ref aS, rfl, aS, _, rfl, .inl (SqL.of (k1.lst (by simp) eS)), fun S2 hS2 => ?_⟩
      obtain ⟨k2, e2, t2⟩ := mk_lst al1 (TrAll.ints D.stores) hS2
      have al2 := al_up' al1 k2
      generalize upd H1 S2 (.lst (D.stores.map V.int)) = H2 at k2 e2 t2 al2 ⊢
      refine ⟨.ref aI2, rfl, .ref aA, rfl, aA, xA, rfl, .inl (SqL.of ((k1.trans k2).lst (by simp) eA)), fun A2 hA2 => ?_⟩
      obtain ⟨k3, e3, t3⟩ := mk_lst al2 ((opts_away (B := B) tA).up (k1.trans k2)) hA2
      have al3 := al_up' al2 k3
      generalize upd H2 A2 (.lst xA) = H3 at k3 e3 t3 al3 ⊢
      refine ⟨.ref aB, rfl, aB, xB, rfl, .inl (SqL.of ((k1.trans (k2.trans k3)).lst (by simp) eB)), fun B2 hB2 => ?_⟩
      obtain ⟨k4, e4, t4⟩ := mk_lst al3 ((blks_away hB tB).up (k1.trans (k2.trans k3))) hB2
      have al4 := al_up' al3 k4
      generalize upd H3 B2 (.lst xB) = H4 at k4 e4 t4 al4 ⊢
      refine ⟨len_ok, fun T hT => ?_⟩
      have k14 := k2.trans (k3.trans k4)
      obtain ⟨k5, e5, t5⟩ := mk_tup al4 (ds := [.int D.hours, .list (D.stores.map .int), .list (D.sights.map sightD), .list (D.asks.map optD), .list (D.blocks.map blkD)]) (.cons (.int D.hours) (.cons (t2.up (k3.trans k4)) (.cons (t1.up k14) (.cons (t3.up k4) (.cons t4 .nil))))) hT
      exact q T _ (k1.trans (k14.trans k5)) ((k1.trans k14).free (by simp) hT) t5
end
end Law

set_option Elab.async false
set_option linter.all false
set_option maxRecDepth 100000
set_option maxHeartbeats 4000000
namespace Law
open PySem PySem.Spec PyProof.Rows L2 GxR GX Tree Kit Data Loops Loops2 Loops3 Comps Purse Day SetG SetL Obj EndG
section
variable {P : Program} {w : World} {K : PySem.W.Frag} {mg : Str → Option Value} {base : Heap} {fa : String → Addr} {fd : String → FuncData} {ca ta : String → Addr} {cs : String → Addr} {fm : String → String → Addr} {fdm : String → String → FuncData}
/-- a plan, out of the answer that a thing is one -/
theorem plan_of {D : Dy} {d : PyData} (h : planB D d = true) : ∃ ps : List Pass, d = .list (ps.map passD) ∧ ∀ p ∈ ps, passT D p = true := by
  cases d with
  | list ds =>
    have h : (ds.all (passB D) && planT D (ds.map passOf)) = true := h
    obtain ⟨e, ok⟩ := passes_back (Bool.and_eq_true_iff.mp h).1
    exact ⟨ds.map passOf, by rw [← e], ok⟩
  | _ => exact absurd (show false = true from h) Bool.false_ne_true
def sp_gain_ofX (cs : String → Addr) (ta : String → Addr) : Sp := fun vs H Q E => ∃ (dv : V) (dd : PyData) (v : V) (d : PyData), vs = [dv, v] ∧ Tr [] H dv dd ∧ sz dd ≤ 100000 ∧ Tr [] H v d ∧ (∀ ds, d = .list ds → ds.length < 64) ∧ Tb (Ts ta) H ∧
  (∀ D, dd = dayD D → DyOk D → isDayB dd = true → (planB D d = true → ∀ i H', Kx [] H H' → Q (.int i) H') ∧ (planB D d = false → ∀ H', Kx [] H H' → E (.ref (cs "NoPlan")) none H')) ∧ (isDayB dd = false → ∀ H', Kx [] H H' → E (.ref (cs "NoDay")) none H')
theorem ok_gain_of (Y : Facts K mg base fa fd ca ta) (Z : CFacts K mg cs fm fdm) : FnOk P w K mg base (L2.CX P w) 13 (fa "gain_of") (fd "gain_of") ["day", "plan"] (sp_gain_ofX cs ta) := by
  refine Y.d_gain_of.okX sc_gain_of (fun vs H Q E h => ?_) (fun cdv A outer s H vs Q E hcd hr h => ?_)
  · obtain ⟨dv, D, v, d, rfl, _⟩ := h; rfl
  · obtain ⟨dv, dd, v, d, rfl, hdt, hz, ht, hl, hT, q, qx⟩ := h
    refine ⟨_, (pss_cons (ps_expr (pe_callS (ok_need_plan Y Z) (hr.mono (by decide)) (by rfl) Y.d_need_plan.g Y.d_need_plan.kp Y.d_need_plan.b (fun σ => passAt (takes_of rfl rfl rfl rfl) σ) (pa_cons (pv 0) (pa_cons (pv 1) pa_nil))))
      (PSs.nox (pss_one (ps_ret (pe_call (ok_gain_of_passes Y) (hr.mono (by decide)) (by rfl) Y.d_gain_of_passes.g Y.d_gain_of_passes.kp Y.d_gain_of_passes.b .nil pass0 (pa_cons (pv 0) (pa_cons (pv 1) pa_nil))))))), ?_⟩
    refine ⟨dv, rfl, v, rfl, dv, dd, v, d, rfl, hdt, hz, ht, hl, hT, fun D e hD hday => ⟨fun hp H1 k1 => ?_, fun hp H1 k1 => (q D e hD hday).2 hp H1 k1⟩, fun hno H1 k1 => qx hno H1 k1⟩
    have q9 := (q D e hD hday).1 hp
    obtain ⟨ps, rfl, ok⟩ := plan_of hp
    subst e
    obtain ⟨pa, xs, rfl, _⟩ := ht.listV
    exact ⟨dv, rfl, .ref pa, rfl, dv, D, pa, ps, rfl, hdt.up k1, ht.up k1, inB_of ok, inD_of hD ok, fun H2 k2 => q9 _ H2 (k1.trans k2)⟩
def sp_Sky_init (cs : String → Addr) (ta : String → Addr) : Sp := fun vs H Q E => ∃ (p dx : Addr) (dv : V) (dd : PyData) (v : V) (d : PyData), vs = [.ref p, dv, v] ∧ H p = some (.ins (cs "Sky") dx []) ∧ Tr [] H dv dd ∧ sz dd ≤ 100000 ∧ Tr [] H v d ∧ (∀ ds, d = .list ds → ds.length < 64) ∧ Tb (Ts ta) H ∧
  (∀ D, dd = dayD D → DyOk D → isDayB dd = true → (planB D d = true → ∀ H', Kx [p] H H' → Q .non H') ∧ (planB D d = false → ∀ H', Kx [] H H' → E (.ref (cs "NoPlan")) none H')) ∧ (isDayB dd = false → ∀ H', Kx [] H H' → E (.ref (cs "NoDay")) none H')
theorem ok_Sky___init__ (Y : Facts K mg base fa fd ca ta) (Z : CFacts K mg cs fm fdm) : FnOk P w K mg base (L2.CX P w) 13 (fm "Sky" "__init__") (fdm "Sky" "__init__") ["self", "day", "plan"] (sp_Sky_init cs ta) := by
  refine Z.d_Sky___init__.okX sc_Sky___init__ (fun vs H Q E h => ?_) (fun cdv A outer s H vs Q E hcd hr h => ?_)
  · obtain ⟨p, dx, dv, D, v, d, rfl, _⟩ := h; rfl
  · obtain ⟨p, dx, dv, dd, v, d, rfl, hp, hdt, hz, ht, hl, hT, q, qx⟩ := h
    refine ⟨_, (pss_cons (ps_expr (pe_callS (ok_need_plan Y Z) (hr.mono (by decide)) (by rfl) Y.d_need_plan.g Y.d_need_plan.kp Y.d_need_plan.b (fun σ => passAt (takes_of rfl rfl rfl rfl) σ) (pa_cons (pv 1) (pa_cons (pv 2) pa_nil))))
      (PSs.nox (pss_cons (ps_fldK K rfl (pv 0) (pe_call (ok_copy_of_day Y) (hr.mono (by decide)) (by rfl) Y.d_copy_of_day.g Y.d_copy_of_day.kp Y.d_copy_of_day.b .nil pass0 (pa_cons (pv 1) pa_nil)) rfl)
      (pss_cons (ps_fldK K rfl (pv 0) (pe_callTy (call_listK K rfl) (by rfl) Y.b.list (by decide +kernel) (pa_cons (pv 2) pa_nil)) rfl)
      (pss_one (ps_fldK K rfl (pv 0) pe_int rfl)))))), ?_⟩
    refine ⟨dv, rfl, v, rfl, dv, dd, v, d, rfl, hdt, hz, ht, hl, hT, fun D e hD hday => ⟨fun hpl H1 k1 => ?_, fun hpl H1 k1 => (q D e hD hday).2 hpl H1 k1⟩, fun hno H1 k1 => qx hno H1 k1⟩
    have q9 := (q D e hD hday).1 hpl
    clear qx q
    obtain ⟨ps, rfl, ok⟩ := plan_of hpl
    subst e
    obtain ⟨pa, xp, rfl, ep, tp⟩ := ht.listV
    have hp1 : H1 p = some (.ins (cs "Sky") dx []) := k1.at (by simp) hp fun _ z => by cases z
    refine ⟨dv, rfl, [], dv, D, rfl, (fun b hb => nomatch hb), hdt.up k1, hD, fun aD H2 k2 hD2 t2 => ?_⟩
    have hp2 : H2 p = some (.ins (cs "Sky") dx []) := k2.at (by simp) hp1 fun _ z => by cases z
    refine ⟨_, rfl, p, cs "Sky", dx, _, rfl, hp2, Z.cl_Sky, Z.na_Sky__day, by decide, ?_⟩
    have k3 : Kx [p] H2 (upd H2 p (.ins (cs "Sky") dx (putF "_day" (.ref aD) []))) := Kx.put (by simp)
    have e3 : upd H2 p (.ins (cs "Sky") dx (putF "_day" (.ref aD) [])) p = some (.ins (cs "Sky") dx [(("_day" : Str), .ref aD)]) := upd_same
    generalize upd H2 p (.ins (cs "Sky") dx (putF "_day" (.ref aD) [])) = H3 at k3 e3 ⊢
    have k13 : Kx [p] H H3 := (k1.trans k2).of.trans k3
    have npa : pa ∉ [p] := fun z => by
      rw [List.mem_singleton.mp z, hp] at ep
      cases ep
    dsimp only
    refine ⟨_, rfl, pa, xp, rfl, .inl (SqL.of (k13.lst npa ep)), fun L hL => ?_⟩
    have k4 : Kx [] H3 (upd H3 L (.lst xp)) := Kx.new hL
    have p4 := k4.at (by simp) e3 fun _ z => by cases z
    generalize upd H3 L (.lst xp) = H4 at k4 p4 ⊢
    refine ⟨_, rfl, p, cs "Sky", dx, _, rfl, p4, Z.cl_Sky, Z.na_Sky__plan, (by show 1 < 1000; decide), ?_⟩
    have k5 : Kx [p] H4 (upd H4 p (.ins (cs "Sky") dx (putF "_plan" (.ref L) [(("_day" : Str), .ref aD)]))) := Kx.put (by simp)
    have e5 : upd H4 p (.ins (cs "Sky") dx (putF "_plan" (.ref L) [(("_day" : Str), .ref aD)])) p = some (.ins (cs "Sky") dx [(("_day" : Str), .ref aD), ("_plan", .ref L)]) := upd_same
    generalize upd H4 p (.ins (cs "Sky") dx (putF "_plan" (.ref L) [(("_day" : Str), .ref aD)])) = H5 at k5 e5 ⊢
    dsimp only
    refine ⟨_, rfl, p, cs "Sky", dx, _, rfl, e5, Z.cl_Sky, Z.na_Sky__hour, (by show 2 < 1000; decide), ?_⟩
    exact q9 _ (k13.trans (k4.of.trans (k5.trans (Kx.put (by simp)))))
end
end Law

set_option Elab.async false
set_option linter.all false
set_option maxRecDepth 100000
set_option maxHeartbeats 4000000
namespace Law
open PySem PySem.Spec PyProof.Rows L2 GxR GX Tree Kit Data Loops Comps Purse Sets
section
variable {P : Program} {w : World} {K : PySem.W.Frag} {mg : Str → Option Value} {base : Heap} {fa : String → Addr} {fd : String → FuncData} {ca ta : String → Addr}
/-! ### the purse -/
def sp_purse (K : PySem.W.Frag) : Sp := fun vs H Q _ => ∃ (a : Addr) (ns : List Int) (k : Nat), vs = [.ref a, .int k] ∧ SqL K H a (ns.map V.int) ∧ k < 8 ∧ ns.length ≤ 63 ∧ ∀ p H', Kx [] H H' → H p = none → PurseAt H' p 0 → Q (.ref p) H'
theorem purse_ok (cell : Int) (k : Nat) (hk : k < 8) : 0 ≤ (if cell - 10 ^ 18 > 0 then cell - 10 ^ 18 else 0) ∧ 0 ≤ cell % (10 ^ 41 + 9) * 128 + 5 * (k : Int) + 2 ∧ cell % (10 ^ 41 + 9) * 128 + 5 * (k : Int) + 2 < 2 ^ 150 := by
  refine ⟨?_, ?_, ?_⟩
  · split <;> omega
  · have := Int.emod_nonneg cell (show (10 ^ 41 + 9 : Int) ≠ 0 by decide)
    omega
  · have := Int.emod_lt_of_pos cell (show (0 : Int) < 10 ^ 41 + 9 by decide)
    omega
theorem ok__law_purse (Y : Facts K mg base fa fd ca ta) : FnOk P w K mg base CX0 1 (fa "_law_purse") (fd "_law_purse") ["script", "k"] (sp_purse K) := by
  refine Y.d__law_purse.ok sc__law_purse (fun vs H Q E h => ?_) (fun cdv A outer s H vs Q E hcd hr h => ?_)
  · obtain ⟨a, ns, k, rfl, _⟩ := h; rfl
  · obtain ⟨a, ns, k, rfl, ha, hk, hl, q⟩ := h
    refine ⟨_, (pss_cons (ps_set (i := 2) sc__law_purse.nd rfl (by first | exact Or.inl rfl | exact Or.inr rfl) pe_int)
      (pss_cons (ps_if (pt_cmpR op_lt (pv 1) (pe_callB (call_lenK K rfl) (by rfl) Y.b.len (by decide +kernel) (pa_cons (pv 0) pa_nil)) (nomark _)) (pss_one (ps_set (i := 2) sc__law_purse.nd rfl (by first | exact Or.inl rfl | exact Or.inr rfl) (pe_ix (ix_listK K rfl) (pv 0) (pv 1) (fun _ _ => rfl)))) pss_nil)
      (pss_one (ps_ret (pe_lst (pa_cons (pe_callB (call_max2 rfl) (by rfl) Y.b.max (by decide +kernel) (pa_cons pe_int (pa_cons (pe_op op_sub (pv 2) (pe_op op_powW pe_int pe_int)) pa_nil))) (pa_cons (pe_op op_add (pe_op op_add (pe_op op_mulW (pe_op op_mod (pv 2) (pe_op op_add (pe_op op_powW pe_int pe_int) pe_int)) pe_int) (pe_op op_mulW pe_int (pv 1))) pe_int) (pa_cons pe_int pa_nil)))))))), ?_⟩
    have hN : CPowW 10 18 := powW_ok (b := 4) (by decide) (by decide) (by decide) (by decide)
    have hM : CPowW 10 41 := powW_ok (b := 4) (by decide) (by decide) (by decide) (by decide)
    refine ⟨_, rfl, _, rfl, a, _, rfl, .inl ha, _, _, rfl, rfl, _, rfl, ?_⟩
    refine ite2 (fun c => ?_) (fun c => ?_)
    · have c := of_decide_eq_true c
      rw [List.length_map] at c
      have hk2 : k < ns.length := by omega
      refine ⟨_, rfl, _, rfl, a, _, _, .int ns[k], rfl, rfl, ha, atI_nat (by rw [List.getElem?_map, List.getElem?_eq_getElem hk2]; rfl), ?_⟩
      generalize ns[k] = cell
      obtain ⟨g1, g2, g3⟩ := purse_ok cell k hk
      refine ⟨_, rfl, _, _, rfl, rfl, hN, _, _, rfl, rfl, _, _, rfl, ?_⟩
      have hm := Int.emod_nonneg cell (show (10 ^ 41 + 9 : Int) ≠ 0 by decide)
      have hm2 := Int.emod_lt_of_pos cell (show (0 : Int) < 10 ^ 41 + 9 by decide)
      refine ⟨_, rfl, _, _, rfl, rfl, hM, _, _, rfl, rfl, _, _, rfl, rfl, ?_, _, _, rfl, rfl, ?_, _, rfl, _, _, rfl, rfl, ?_, _, _, rfl, rfl, _, _, rfl, rfl, ?_⟩
      · exact (by decide : (0 : Int) < 10 ^ (41 : Int).toNat + 9)
      · exact wide_mul (a := 150) (b := 8) (wide_of hm (by exact (show cell % (10 ^ 41 + 9) < 2 ^ 150 by omega))) (by decide) (by decide) (by decide) (by decide)
      · exact wide_mul (a := 8) (b := 8) (by decide) (by omega) (by decide) (by decide) (by decide)
      · refine ⟨len_ok, fun p hp => ?_⟩
        exact q p _ (Kx.new hp) hp ⟨_, _, 0, upd_same, g1, g2, g3, Int.le_refl _, Int.le_refl _⟩
    · obtain ⟨g1, g2, g3⟩ := purse_ok (0 : Int) k hk
      refine ⟨_, rfl, _, _, rfl, rfl, hN, _, _, rfl, rfl, _, _, rfl, ?_⟩
      have hm := Int.emod_nonneg (0 : Int) (show (10 ^ 41 + 9 : Int) ≠ 0 by decide)
      have hm2 := Int.emod_lt_of_pos (0 : Int) (show (0 : Int) < 10 ^ 41 + 9 by decide)
      refine ⟨_, rfl, _, _, rfl, rfl, hM, _, _, rfl, rfl, _, _, rfl, rfl, ?_, _, _, rfl, rfl, ?_, _, rfl, _, _, rfl, rfl, ?_, _, _, rfl, rfl, _, _, rfl, rfl, ?_⟩
      · exact (by decide : (0 : Int) < 10 ^ (41 : Int).toNat + 9)
      · exact wide_mul (a := 150) (b := 8) (wide_of hm (by exact (show (0 : Int) % (10 ^ 41 + 9) < 2 ^ 150 by omega))) (by decide) (by decide) (by decide) (by decide)
      · exact wide_mul (a := 8) (b := 8) (by decide) (by omega) (by decide) (by decide) (by decide)
      · refine ⟨len_ok, fun p hp => ?_⟩
        exact q p _ (Kx.new hp) hp ⟨_, _, 0, upd_same, g1, g2, g3, Int.le_refl _, Int.le_refl _⟩
theorem coin_mod {i j many : Int} : 0 < many → 0 ≤ i % many ∧ i % many < many := fun h => ⟨Int.emod_nonneg _ (by omega), Int.emod_lt_of_pos _ h⟩
theorem ok__law_coin (Y : Facts K mg base fa fd ca ta) : FnOk P w K mg base CX0 1 (fa "_law_coin") (fd "_law_coin") ["purse", "many"] (sp_coin (Ts ta)) := by
  refine Y.d__law_coin.ok sc__law_coin (fun vs H Q E h => ?_) (fun cdv A outer s H vs Q E hcd hr h => ?_)
  · obtain ⟨p, n, many, C, rfl, _⟩ := h; rfl
  · obtain ⟨p, n, many, C, rfl, h0, h1, hn, hA, q⟩ := h
    obtain ⟨a, b, c, hp, ha, hb, hb2, hc, hc2⟩ := hA.pu
    refine ⟨_, (pss_cons (ps_if (pt_cmpR op_gt (pe_ix (ix_listK K rfl) (pv 0) pe_int (fun _ _ => rfl)) pe_int (nomark _)) (pss_cons (ps_set (i := 2) sc__law_coin.nd rfl (by first | exact Or.inl rfl | exact Or.inr rfl) (pe_op op_mod (pe_ix (ix_listK K rfl) (pv 0) pe_int (fun _ _ => rfl)) (pv 1)))
      (pss_cons (ps_asg (pe_op op_fdivW (pe_ix (ix_listK K rfl) (pv 0) pe_int (fun _ _ => rfl)) (pv 1)) (pg_sub (pv 0) pe_int set_list))
      (pss_one (ps_ret (pv 2))))) pss_nil)
      (pss_cons (ps_asg (pe_op op_add (pe_ix (ix_listK K rfl) (pv 0) pe_int (fun _ _ => rfl)) pe_int) (pg_sub (pv 0) pe_int set_list))
      (pss_cons (ps_set (i := 3) sc__law_coin.nd rfl (by first | exact Or.inl rfl | exact Or.inr rfl) (pe_op op_mod (pe_op op_powW (pe_op op_add (pe_ix (ix_listK K rfl) (pv 0) pe_int (fun _ _ => rfl)) (pe_op op_mulW pe_int (pe_ix (ix_listK K rfl) (pv 0) pe_int (fun _ _ => rfl)))) pe_int) (pe_op op_add (pe_op op_powW pe_int pe_int) pe_int)))
      (pss_cons (ps_set (i := 3) sc__law_coin.nd rfl (by first | exact Or.inl rfl | exact Or.inr rfl) (pe_op op_mod (pe_op op_powW (pe_op op_add (pv 3) (pe_op op_mulW pe_int (pe_ix (ix_listK K rfl) (pv 0) pe_int (fun _ _ => rfl)))) pe_int) (pe_op op_add (pe_op op_powW pe_int pe_int) pe_int)))
      (pss_one (ps_ret (pe_op op_mod (pe_op op_fdivW (pv 3) pe_int) (pv 1)))))))), ?_⟩
    have put : ∀ x y z, 0 ≤ x → 0 ≤ y → y < 2 ^ 150 → 0 ≤ z → z ≤ ((n + 1 : Nat) : Int) → Kx [p] H (upd H p (.lst [.int x, .int y, .int z])) ∧ At (Ts ta) C p (n + 1) (upd H p (.lst [.int x, .int y, .int z])) := fun x y z hx hy hy2 hz hz2 =>
      ⟨Kx.put (by simp), hA.put (Kx.put (by simp)) ⟨x, y, z, upd_same, hx, hy, hy2, hz, hz2⟩ hA.tne⟩
    have hmod : ∀ i : Int, 0 ≤ i % many ∧ i % many < many := fun i => ⟨Int.emod_nonneg _ (by omega), Int.emod_lt_of_pos _ h0⟩
    refine ⟨_, rfl, p, _, 0, _, rfl, rfl, SqL.of hp, rfl, _, _, rfl, rfl, _, rfl, ?_⟩
    refine ite2 (fun c1 => ?_) (fun c1 => ?_)
    · obtain ⟨k1, A1⟩ := put (a / many) b c (Int.ediv_nonneg ha (by omega)) hb hb2 hc (by omega)
      exact ⟨.ref p, rfl, p, _, 0, _, rfl, rfl, SqL.of hp, rfl, _, rfl, _, _, rfl, rfl, h0, .ref p, rfl, p, _, 0, _, rfl, rfl, SqL.of hp, rfl, _, rfl, _, _, rfl, rfl, wide_div (b := 30) h0 (by omega) (by decide) (by decide), .ref p, rfl, p, _, 0, 0, rfl, rfl, hp, rfl, _, rfl, q _ _ (hmod a).1 (hmod a).2 k1 A1⟩
    · obtain ⟨k1, A1⟩ := put a b (c + 1) ha hb hb2 (by omega) (by omega)
      refine ⟨.ref p, rfl, p, _, 2, _, rfl, rfl, SqL.of hp, rfl, _, _, rfl, rfl, .ref p, rfl, p, _, 2, 2, rfl, rfl, hp, rfl, ?_⟩
      have hp1 : (upd H p (.lst [.int a, .int b, .int (c + 1)])) p = some (.lst [.int a, .int b, .int (c + 1)]) := upd_same
      refine ⟨.ref p, rfl, p, _, 1, _, rfl, rfl, SqL.of hp1, rfl, .ref p, rfl, p, _, 2, _, rfl, rfl, SqL.of hp1, rfl, _, _, rfl, rfl, ?_, _, _, rfl, rfl, _, _, rfl, rfl, ?_, _, _, rfl, rfl, powW_ok (b := 4) (by decide) (by decide) (by decide) (by decide), _, _, rfl, rfl, _, _, rfl, rfl, ?_, ?_⟩
      · exact wide_mul (a := 17) (b := 60) (by decide) (by omega) (by decide) (by decide) (by decide)
      · exact powW_ok (b := 152) (by decide) (by omega) (by decide) (by decide)
      · exact (by decide : (0 : Int) < 10 ^ (35 : Int).toNat + 69)
      · have m0 := Int.emod_nonneg ((b + 104729 * (c + 1)) ^ (3 : Int).toNat) (show (10 ^ (35 : Int).toNat + 69 : Int) ≠ 0 by decide)
        have m1 := Int.lt_of_lt_of_le (Int.emod_lt_of_pos ((b + 104729 * (c + 1)) ^ (3 : Int).toNat) (show (0 : Int) < 10 ^ (35 : Int).toNat + 69 by decide)) (show (10 ^ (35 : Int).toNat + 69 : Int) ≤ 2 ^ 120 by decide)
        refine ⟨_, rfl, .ref p, rfl, p, _, 2, _, rfl, rfl, SqL.of hp1, rfl, _, _, rfl, rfl, ?_, _, _, rfl, rfl, _, _, rfl, rfl, ?_, _, _, rfl, rfl, powW_ok (b := 4) (by decide) (by decide) (by decide) (by decide), _, _, rfl, rfl, _, _, rfl, rfl, ?_, ?_⟩
        · exact wide_mul (a := 17) (b := 60) (by decide) (by omega) (by decide) (by decide) (by decide)
        · exact powW_ok (b := 130) (by decide) (by omega) (by decide) (by decide)
        · exact (by decide : (0 : Int) < 10 ^ (33 : Int).toNat + 61)
        · exact ⟨_, rfl, _, _, rfl, rfl, wide_div (b := 30) (by decide) (by decide) (by decide) (by decide), _, rfl, _, _, rfl, rfl, h0, q _ _ (hmod _).1 (hmod _).2 k1 A1⟩
end
end Law

set_option Elab.async false
set_option linter.all false
set_option maxRecDepth 100000
set_option maxHeartbeats 4000000
namespace Law
open PySem PySem.Spec PyProof.Rows L2 GxR GX Tree Kit Data Loops Comps Purse Sets Small
section
variable {P : Program} {w : World} {K : PySem.W.Frag} {mg : Str → Option Value} {base : Heap} {fa : String → Addr} {fd : String → FuncData} {ca ta : String → Addr}
/-! ### drawn days -/
/-- a def that draws: it takes the purse and other arguments; it hands on a tree that is G, k coins at most -/
def Draws (Ts : List Addr) (C : List Addr) (p : Addr) (n k : Nat) (G : PyData → Prop) (H : Hp) (Q : VK) : Prop := ∀ v d H', Kx [p] H H' → At Ts C p (n + k) H' → Tr C H' v d → G d → Q v H'
theorem intsD_map : ∀ ns : List Int, intsD (ns.map PyData.int) = ns
  | [] => rfl
  | n :: ns => congrArg (n :: ·) (intsD_map ns)
theorem heard_ok {c : Int} {ns : List Int} (h1 : ns.Pairwise (· < ·)) (h2 : ∀ n ∈ ns, 0 ≤ n ∧ n < c) : heardB c (.list (ns.map .int)) = true := by
  show ((ns.map PyData.int).all (isWh 0 (c - 1)) && risesB (intsD (ns.map .int))) = true
  rw [intsD_map, Bool.and_eq_true]
  refine ⟨List.all_eq_true.mpr fun d hd => ?_, decide_eq_true h1⟩
  obtain ⟨n, hn, rfl⟩ := List.mem_map.mp hd
  have := h2 n hn
  show (decide (0 ≤ n) && decide (n ≤ c - 1)) = true
  simp only [Bool.and_eq_true, decide_eq_true_eq]
  omega
theorem nodup_le {js : List Nat} {n : Nat} (h1 : ∀ j ∈ js, j < n) (h2 : js.Nodup) : js.length ≤ n := by
  have := List.Nodup.length_le_of_subset (l₁ := js) (l₂ := List.range n) h2 (fun j hj => List.mem_range.mpr (h1 j hj))
  simpa using this
theorem ints_js (js : List Nat) : (js.map fun j : Nat => PyData.int (j : Int)) = (js.map fun j : Nat => (j : Int)).map PyData.int := by
  rw [List.map_map]; rfl
theorem rising_js {js : List Nat} (h : js.Pairwise (· < ·)) : (js.map fun j : Nat => (j : Int)).Pairwise (· < ·) := List.pairwise_map.mpr (h.imp fun h => by omega)
def sp_law_sight (Ts : List Addr) : Sp := fun vs H Q _ => ∃ (p : Addr) (n : Nat) (C : List Addr) (h c : Int), vs = [.ref p, .int h, .int c] ∧ 1 ≤ h ∧ h ≤ 10 ∧ 1 ≤ c ∧ c ≤ 4 ∧ n ≤ 900000000000 ∧ At Ts C p n H ∧ Draws Ts C p n 1000 (fun d => Sm 20 1000000 51 2 d ∧ sightB h c d = true) H Q
theorem ok__law_sight (Y : Facts K mg base fa fd ca ta) : FnOk P w K mg base CX0 2 (fa "_law_sight") (fd "_law_sight") ["purse", "hours", "craft"] (sp_law_sight (Ts ta)) := by
  refine Y.d__law_sight.ok sc__law_sight (fun vs H Q E h => ?_) (fun cdv A outer s H vs Q E hcd hr h => ?_)
  · obtain ⟨p, n, C, h, c, rfl, _⟩ := h; rfl
  · obtain ⟨p, n, C, h, c, rfl, h1, h2, c1, c2, hn, hA, q⟩ := h
    refine ⟨_, (pss_cons (ps_set (i := 3) sc__law_sight.nd rfl (by first | exact Or.inl rfl | exact Or.inr rfl) (pe_lst pa_nil))
      (pss_cons (ps_for PassesOwn.never rfl (pi_range1 (by rfl) Y.b.range (pa_cons (pv 1) pa_nil)) (pg_name (i := 4) sc__law_sight.nd rfl (by first | exact Or.inl rfl | exact Or.inr rfl)) (pss_cons (ps_setLc (i := 5) (own := [("one", 6)]) (g := gName 6) rfl sc__law_sight.nd rfl rfl (sw_true rfl rfl rfl (by decide +kernel)) (pi_range1 (by rfl) Y.b.range (pa_cons (pv 2) pa_nil)) (blkOk_by (N := ["purse", "hours", "craft", "found", "hour", "some", "one"]) (sc := defScope s__law_sight) (by decide +kernel)) (fun _ _ _ _ _ => (pg_name (i := 6) sc__law_sight.nd rfl (by first | exact Or.inl rfl | exact Or.inr rfl))) (fun _ _ _ _ _ => (pts_one (pt_cmpR op_gt (pe_call (ok__law_coin Y) (hr.mono (by decide)) (by rfl) Y.d__law_coin.g Y.d__law_coin.kp Y.d__law_coin.b .nil pass0 (pa_cons (pv 0) (pa_cons pe_int pa_nil))) pe_int (nomark _)))) (fun _ _ _ _ _ => (pv 6)))
      (pss_one (ps_expr (pe_bm PySem.F.plainAttrs_list PySem.F.slot_list_append PySem.F.type_list_append mt_append (pv 3) (pa_cons (pe_ix (ix_listK K rfl) (pe_lst (pa_cons (pv 5) (pa_cons (pv 5) (pa_cons (pe_listRg rfl (by rfl) Y.b.list (prg_1 (by rfl) Y.b.range (pv 2))) (pa_cons (pe_lst (pa_cons (pe_call (ok__law_coin Y) (hr.mono (by decide)) (by rfl) Y.d__law_coin.g Y.d__law_coin.kp Y.d__law_coin.b .nil pass0 (pa_cons (pv 0) (pa_cons (pv 2) pa_nil))) pa_nil)) (pa_cons (pe_lst pa_nil) pa_nil)))))) (pe_call (ok__law_coin Y) (hr.mono (by decide)) (by rfl) Y.d__law_coin.g Y.d__law_coin.kp Y.d__law_coin.b .nil pass0 (pa_cons (pv 0) (pa_cons pe_int pa_nil))) (fun _ _ => rfl)) pa_nil))))))
      (pss_one (ps_ret (pv 3))))), ?_⟩
    refine st_set ⟨len_ok, fun F hF => ?_⟩
    have kF : Kx [] H (upd H F (.lst [])) := Kx.new hF
    have nF : F ∉ C := hA.not hF
    have A0 : At (Ts ta) (F :: C) p n (upd H F (.lst [])) := (hA.kx kF).cons (by rw [upd_same]; simp)
    refine ⟨_, rfl, h, rfl, by omega, by omega, ?_⟩
    refine for_gen (itr_at h.toNat) (B := [p, F]) (Iv := fun i σ' H' => (∃ y4 y5, σ' = [some (.ref p), some (.int h), some (.int c), some (.ref F), y4, y5, none]) ∧ At (Ts ta) (F :: C) p (n + i * 10) H' ∧ ∃ xs ds, H' F = some (.lst xs) ∧ TrAll (F :: C) H' xs ds ∧ ds.length = i ∧ ∀ d ∈ ds, Sm 20 1000000 5 1 d ∧ heardB c d = true)
      ⟨⟨none, none, rfl⟩, A0, [], [], upd_same, .nil, rfl, fun d h => (nomatch h)⟩ (fun i σ' H1 hi k ⟨⟨y4, y5, e⟩, A1, xs, ds, hx, tx, lx, gx⟩ Nn hN => ?_) fun σ' H1 k ⟨⟨y4, y5, e⟩, A1, xs, ds, hx, tx, lx, gx⟩ => ?_
    · subst e
      have hi' : i < 10 := by omega
      refine st_name (st_set (lc_use ⟨_, rfl, c, rfl, by omega, by omega, ?_⟩))
      refine lc_puX (C := F :: C) (itr_at c.toNat) (by omega) 1 (fun j d => d = .int (j : Int)) A1 (fun D j H2 hD hj k2 A2 R R0 hR hR0 => ?_) fun D js es H2 k2 A2 tD hm hjs => ?_
      · refine ⟨rfl, .ref p, rfl, p, _, 3, _, rfl, by decide, by decide, by omega, A2, fun r H3 r0 r1 k3 A3 => ⟨_, _, rfl, rfl, _, rfl, ite2 (fun _ => ?_) fun _ => hR0 H3 k3 (A3.mono (by omega))⟩⟩
        exact ⟨_, rfl, hR _ _ H3 k3 (A3.mono (by omega)) (.int _) rfl⟩
      · have f2 : H2 F = some (.lst xs) := k2.lst (fun e => nF (by rw [List.mem_singleton.mp e]; exact hA.mem)) hx
        have c5 : c.toNat ≤ 4 := by omega
        refine ⟨.ref F, rfl, .inl ⟨rfl, xs, SqL.of f2⟩, .ref D, rfl, .ref D, rfl, .int c, rfl, c, rfl, RgOk.of_le (by decide) (by omega) (by decide) (by omega), fun R1 hR1 => ?_⟩
        have tR : TrAll (F :: C) H2 (rgV 0 c) (((List.range (c - 0).toNat).map fun i => ((0 : Int) + (i : Nat))).map PyData.int) := by
          have := TrAll.ints (B := F :: C) (H := H2) ((List.range (c - 0).toNat).map fun i => ((0 : Int) + (i : Nat)))
          rwa [List.map_map] at this
        obtain ⟨k3, e3, t3⟩ := mk_lst A2.al tR hR1
        have A3 := A2.kx k3
        generalize upd H2 R1 (.lst (rgV 0 c)) = H3 at k3 e3 t3 A3 ⊢
        refine ⟨.ref p, rfl, .int c, rfl, p, _, c, _, rfl, by omega, by omega, by omega, A3, fun r H4 r0 r1 k4 A4 => ⟨len_ok, fun L hL => ?_⟩⟩
        obtain ⟨k5, e5, t5⟩ := mk_lst A4.al (.cons (.int r) .nil) hL
        have A5 := A4.kx k5
        generalize upd H4 L (.lst [V.int r]) = H5 at k5 e5 t5 A5 ⊢
        refine ⟨len_ok, fun M hM => ?_⟩
        obtain ⟨k6, e6, t6⟩ := mk_lst A5.al .nil hM
        have A6 := A5.kx k6
        generalize upd H5 M (.lst []) = H6 at k6 e6 t6 A6 ⊢
        have tD6 : Tr (F :: C) H6 (.ref D) (.list es) := ((A3.tr (tD.up k3) k4).up k5).up k6
        have tR6 := ((A3.tr t3 k4).up k5).up k6
        refine ⟨len_ok, fun O hO => ?_⟩
        obtain ⟨k7, e7, t7⟩ := mk_lst A6.al (.cons tD6 (.cons tD6 (.cons tR6 (.cons (t5.up k6) (.cons t6 .nil))))) hO
        have A7 := A6.kx k7
        generalize upd H6 O (.lst [V.ref D, V.ref D, V.ref R1, V.ref L, V.ref M]) = H7 at k7 e7 t7 A7 ⊢
        refine ⟨.ref p, rfl, p, _, 5, _, rfl, by decide, by decide, by omega, A7, fun r2 H8 s0 s1 k8 A8 => ?_⟩
        have kk : Kx [p] H1 H8 := k2.trans (k3.of.trans (k4.trans ((k5.trans (k6.trans k7)).of.trans k8)))
        obtain ⟨ys, ey, ty⟩ := (A7.tr t7 k8).items
        obtain ⟨v, d, a1, a2, a3⟩ := pick ty s0 (by have := ty.length; simp at this; omega)
        have nFp : F ≠ p := fun e => nF (e ▸ hA.mem)
        have f8 : H8 F = some (.lst xs) := kk.lst (by simpa using nFp) hx
        have les := hm.length
        have ees := hm.eq
        have ljs : js.length ≤ c.toNat := by
          have h1 := hm.rising
          have h2 : js.Nodup := h1.imp fun h => Nat.ne_of_lt h
          exact nodup_le hjs h2
        have gd : Sm 20 1000000 5 1 d ∧ heardB c d = true := by
          have g1 : Sm 20 1000000 5 1 (.list es) ∧ heardB c (.list es) = true := by
            refine ⟨Sm.list (N := 4) (S := 1) (D := 0) (fun d hd => ?_) (by omega) (by decide), ?_⟩
            · rw [ees] at hd
              obtain ⟨j, hj, rfl⟩ := List.mem_map.mp hd
              have := hjs j hj
              exact Sm.int (by omega)
            · rw [ees, ints_js]
              refine heard_ok (rising_js hm.rising) fun n hn => ?_
              obtain ⟨j, hj, rfl⟩ := List.mem_map.mp hn
              have := hjs j hj
              omega
          simp only [List.mem_cons, List.mem_singleton, List.not_mem_nil, or_false] at a3
          rcases a3 with rfl | rfl | rfl | rfl | rfl
          · exact g1
          · exact g1
          · refine ⟨Sm.list (N := 4) (S := 1) (D := 0) (fun d hd => ?_) (by simp; omega) (by decide), heard_ok ?_ fun n hn => ?_⟩
            · simp only [List.mem_map, List.mem_range] at hd
              obtain ⟨j, ⟨m, hm, rfl⟩, rfl⟩ := hd
              exact Sm.int (by omega)
            · exact List.pairwise_map.mpr (List.pairwise_lt_range.imp fun h => by omega)
            · simp only [List.mem_map, List.mem_range] at hn
              obtain ⟨m, hm, rfl⟩ := hn
              omega
          · refine ⟨Sm.list (N := 4) (S := 1) (D := 0) (fun d hd => ?_) (by simp) (by decide), heard_ok (ns := [r]) (List.pairwise_singleton _ _) fun n hn => ?_⟩
            · rw [List.mem_singleton.mp hd]
              exact Sm.int (by omega)
            · rw [List.mem_singleton.mp hn]
              omega
          · exact ⟨Sm.list (N := 4) (S := 1) (D := 0) (fun d hd => by simp at hd) (by simp) (by decide), heard_ok (ns := []) .nil fun n hn => by simp at hn⟩
        refine ⟨O, ys, r2, v, rfl, rfl, SqL.of ey, a1, F, xs, v, rfl, rfl, f8, ?_, hN _ _ ?_ ⟨⟨_, _, rfl⟩, (A8.mono (by omega)).set f8 nFp, xs ++ [v], ds ++ [d], upd_same, ?_, ?_, ?_⟩⟩
        · have := tx.length
          unfold sizeLine
          omega
        · exact (k.trans (kk.sub (by simp))).trans (Kx.put (by simp))
        · have t9 := TrAll.kx kk (fun b hb => by rw [List.mem_singleton.mp hb]; exact A1.mem) _ _ tx
          exact TrAll.kx (Kx.put (B := [F]) (by simp)) (fun b hb => by simp_all) _ _ (t9.snoc a2)
        · rw [List.length_append, lx]; rfl
        · intro d' hd'
          rcases List.mem_append.mp hd' with z | z
          · exact gx d' z
          · rw [List.mem_singleton.mp z]; exact gd
    · subst e
      refine ⟨_, rfl, q _ (.list ds) H1 (Kx.weak (kF.of.trans k) fun b hb => ?_) ((A1.mono (by omega)).less (fun c hc => List.mem_cons_of_mem _ hc) hA.mem) (.lst nF hx (TrAll.less (fun b hb => List.mem_cons_of_mem _ hb) _ _ tx)) ⟨Sm.list (N := 10) (fun d hd => (gx d hd).1) (by omega) (by decide), ?_⟩⟩
      · simp only [List.mem_cons, List.not_mem_nil, or_false] at hb
        rcases hb with rfl | rfl
        · exact .inl (by simp)
        · exact .inr hF
      · show (isLs h h (.list ds) && ds.all (heardB c)) = true
        rw [Bool.and_eq_true]
        refine ⟨?_, List.all_eq_true.mpr fun d hd => (gx d hd).2⟩
        show (decide (h ≤ (ds.length : Int)) && decide ((ds.length : Int) ≤ h)) = true
        simp only [Bool.and_eq_true, decide_eq_true_eq]
        omega
theorem isWh_ok {lo hi i : Int} (h1 : lo ≤ i) (h2 : i ≤ hi) : isWh lo hi (.int i) = true := by
  show (decide (lo ≤ i) && decide (i ≤ hi)) = true
  simp only [Bool.and_eq_true, decide_eq_true_eq]
  exact ⟨h1, h2⟩
theorem isLs_ok {lo hi : Int} {ds : List PyData} (h1 : lo ≤ (ds.length : Int)) (h2 : (ds.length : Int) ≤ hi) : isLs lo hi (.list ds) = true := by
  show (decide (lo ≤ (ds.length : Int)) && decide ((ds.length : Int) ≤ hi)) = true
  simp only [Bool.and_eq_true, decide_eq_true_eq]
  exact ⟨h1, h2⟩
theorem block_ok {h c ho nu re : Int} {dd d : PyData} (a1 : 0 ≤ ho) (a2 : ho < 6) (b1 : 0 ≤ nu) (b2 : nu < c) (c1 : 0 ≤ re) (c2 : re < h) (vd : (isNone dd || isWh re (h - 1) dd) = true) (vw : isWh 1 9999 d = true) : blockB h c (.tuple [.int ho, .int nu, .int re, dd, d]) = true := by
  show (isWh 0 5 (.int ho) && (isWh 0 (c - 1) (.int nu) && (isWh 0 (h - 1) (.int re) && ((isNone dd || isWh re (h - 1) dd) && isWh 1 9999 d)))) = true
  rw [isWh_ok a1 (by omega), isWh_ok b1 (by omega), isWh_ok c1 (by omega), vd, vw]
  rfl
def sp_law_block (Ts : List Addr) : Sp := fun vs H Q _ => ∃ (p : Addr) (n : Nat) (C : List Addr) (h c : Int), vs = [.ref p, .int h, .int c] ∧ 1 ≤ h ∧ h ≤ 10 ∧ 1 ≤ c ∧ c ≤ 4 ∧ n ≤ 900000000000 ∧ At Ts C p n H ∧ Draws Ts C p n 20 (fun d => Sm 20 1000000 6 1 d ∧ blockB h c d = true) H Q
theorem ok__law_block (Y : Facts K mg base fa fd ca ta) : FnOk P w K mg base CX0 2 (fa "_law_block") (fd "_law_block") ["purse", "hours", "craft"] (sp_law_block (Ts ta)) := by
  refine Y.d__law_block.ok sc__law_block (fun vs H Q E h => ?_) (fun cdv A outer s H vs Q E hcd hr h => ?_)
  · obtain ⟨p, n, C, h, c, rfl, _⟩ := h; rfl
  · obtain ⟨p, n, C, h, c, rfl, h1, h2, c1, c2, hn, hA, q⟩ := h
    refine ⟨_, (pss_cons (ps_set (i := 3) sc__law_block.nd rfl (by first | exact Or.inl rfl | exact Or.inr rfl) (pe_ix (ix_listK K rfl) (pe_lst (pa_cons (pe_call (ok__law_coin Y) (hr.mono (by decide)) (by rfl) Y.d__law_coin.g Y.d__law_coin.kp Y.d__law_coin.b .nil pass0 (pa_cons (pv 0) (pa_cons (pv 1) pa_nil))) (pa_cons pe_int pa_nil))) (pe_callTy call_int1 (by rfl) Y.b.int (by decide +kernel) (pa_cons (pe_cmpR op_eq (pe_call (ok__law_coin Y) (hr.mono (by decide)) (by rfl) Y.d__law_coin.g Y.d__law_coin.kp Y.d__law_coin.b .nil pass0 (pa_cons (pv 0) (pa_cons pe_int pa_nil))) pe_int (nomark _)) pa_nil)) (fun _ _ => rfl)))
      (pss_cons (ps_set (i := 4) sc__law_block.nd rfl (by first | exact Or.inl rfl | exact Or.inr rfl) pe_non)
      (pss_cons (ps_if (pt_cmpR op_eq (pe_call (ok__law_coin Y) (hr.mono (by decide)) (by rfl) Y.d__law_coin.g Y.d__law_coin.kp Y.d__law_coin.b .nil pass0 (pa_cons (pv 0) (pa_cons pe_int pa_nil))) pe_int (nomark _)) (pss_one (ps_set (i := 4) sc__law_block.nd rfl (by first | exact Or.inl rfl | exact Or.inr rfl) (pe_op op_add (pv 3) (pe_call (ok__law_coin Y) (hr.mono (by decide)) (by rfl) Y.d__law_coin.g Y.d__law_coin.kp Y.d__law_coin.b .nil pass0 (pa_cons (pv 0) (pa_cons (pe_op op_sub (pv 1) (pv 3)) pa_nil)))))) pss_nil)
      (pss_cons (ps_set (i := 5) sc__law_block.nd rfl (by first | exact Or.inl rfl | exact Or.inr rfl) (pe_lst (pa_cons (pe_op op_add pe_int (pe_call (ok__law_coin Y) (hr.mono (by decide)) (by rfl) Y.d__law_coin.g Y.d__law_coin.kp Y.d__law_coin.b .nil pass0 (pa_cons (pv 0) (pa_cons pe_int pa_nil)))) (pa_cons (pe_op op_add pe_int (pe_call (ok__law_coin Y) (hr.mono (by decide)) (by rfl) Y.d__law_coin.g Y.d__law_coin.kp Y.d__law_coin.b .nil pass0 (pa_cons (pv 0) (pa_cons pe_int pa_nil)))) (pa_cons (pe_op op_add pe_int (pe_call (ok__law_coin Y) (hr.mono (by decide)) (by rfl) Y.d__law_coin.g Y.d__law_coin.kp Y.d__law_coin.b .nil pass0 (pa_cons (pv 0) (pa_cons pe_int pa_nil)))) (pa_cons pe_int pa_nil))))))
      (pss_one (ps_ret (pe_tup (pa_cons (pe_call (ok__law_coin Y) (hr.mono (by decide)) (by rfl) Y.d__law_coin.g Y.d__law_coin.kp Y.d__law_coin.b .nil pass0 (pa_cons (pv 0) (pa_cons pe_int pa_nil))) (pa_cons (pe_call (ok__law_coin Y) (hr.mono (by decide)) (by rfl) Y.d__law_coin.g Y.d__law_coin.kp Y.d__law_coin.b .nil pass0 (pa_cons (pv 0) (pa_cons (pv 2) pa_nil))) (pa_cons (pv 3) (pa_cons (pv 4) (pa_cons (pe_ix (ix_listK K rfl) (pv 5) (pe_call (ok__law_coin Y) (hr.mono (by decide)) (by rfl) Y.d__law_coin.g Y.d__law_coin.kp Y.d__law_coin.b .nil pass0 (pa_cons (pv 0) (pa_cons pe_int pa_nil))) (fun _ _ => rfl)) pa_nil)))))))))))), ?_⟩
    refine ⟨.ref p, rfl, .int h, rfl, p, _, h, _, rfl, by omega, by omega, by omega, hA, fun r1 H1 r10 r11 k1 A1 => ⟨len_ok, fun L hL => ?_⟩⟩
    obtain ⟨k2, e2, t2⟩ := mk_lst A1.al (.cons (.int r1) (.cons (.int 0) .nil)) hL
    have A2 := A1.kx k2
    generalize upd H1 L (.lst [V.int r1, V.int 0]) = H2 at k2 e2 t2 A2 ⊢
    refine ⟨.ref p, rfl, p, _, 4, _, rfl, by decide, by decide, by omega, A2, fun z H3 z0 z1 k3 A3 => ⟨rfl, .inr ⟨_, rfl, ?_⟩⟩⟩
    obtain ⟨ys, ey, ty⟩ := (A2.tr t2 k3).items
    obtain ⟨re, are, re0, re1⟩ : ∃ re, atI ys (if decide (V.int z = V.int 0) then 1 else 0) = some (.int re) ∧ 0 ≤ re ∧ re < h := by
      have hl := ty.length
      obtain ⟨v, d, a1, a2, a3⟩ := pick ty (r := if decide (V.int z = V.int 0) = true then 1 else 0) (by split <;> omega) (by simp at hl; split <;> omega)
      simp only [List.mem_cons, List.mem_singleton, List.not_mem_nil, or_false] at a3
      rcases a3 with rfl | rfl
      · rw [Tree.Tr.intV a2] at a1
        exact ⟨_, a1, r10, r11⟩
      · rw [Tree.Tr.intV a2] at a1
        exact ⟨_, a1, by omega, by omega⟩
    refine ⟨L, ys, _, _, rfl, rfl, SqL.of ey, are, ?_⟩
    have k03 : Kx [p] H H3 := k1.trans (k2.of.trans k3)
    refine ⟨.ref p, rfl, p, _, 3, _, rfl, by decide, by decide, by omega, A3, fun y H4 y0 y1 k4 A4 => ⟨rfl, _, rfl, ?_⟩⟩
    have k04 := k03.trans k4
    refine ite2 (fun cc => ?_) (fun cc => ?_)
    · refine ⟨_, rfl, .ref p, rfl, .int h, rfl, _, rfl, _, _, rfl, rfl, p, _, h - re, _, rfl, by omega, by omega, by omega, A4, fun du H5 du0 du1 k5 A5 => ⟨_, _, rfl, rfl, ?_⟩⟩
      have kd := k04.trans k5
      have td : Tr C H5 (V.int (re + du)) (.int (re + du)) := .int _
      have sd : Sm 20 1000000 1 0 (.int (re + du)) := Sm.int (by omega)
      have vd : (isNone (.int (re + du)) || isWh re (h - 1) (.int (re + du))) = true := isWh_ok (by omega) (by omega)
      refine ⟨.ref p, rfl, p, _, 4, _, rfl, by decide, by decide, by omega, A5, fun w1 H6 w10 w11 k6 A6 => ⟨_, _, rfl, rfl, ?_⟩⟩
      refine ⟨.ref p, rfl, p, _, 30, _, rfl, by decide, by decide, by omega, A6, fun w2 H7 w20 w21 k7 A7 => ⟨_, _, rfl, rfl, ?_⟩⟩
      refine ⟨.ref p, rfl, p, _, 9999, _, rfl, by decide, by decide, by omega, A7, fun w3 H8 w30 w31 k8 A8 => ⟨_, _, rfl, rfl, len_ok, fun L hL => ?_⟩⟩
      obtain ⟨k9, e9, t9⟩ := mk_lst A8.al (.cons (.int (1 + w1)) (.cons (.int (1 + w2)) (.cons (.int (1 + w3)) (.cons (.int 9999) .nil)))) hL
      have A9 := A8.kx k9
      generalize upd H8 L (.lst [V.int (1 + w1), V.int (1 + w2), V.int (1 + w3), V.int 9999]) = H9 at k9 e9 t9 A9 ⊢
      refine ⟨.ref p, rfl, p, _, 6, _, rfl, by decide, by decide, by omega, A9, fun ho HA ho0 ho1 kA AA => ?_⟩
      refine ⟨.ref p, rfl, .int c, rfl, p, _, c, _, rfl, by omega, by omega, by omega, AA, fun cr HB cr0 cr1 kB AB => ?_⟩
      refine ⟨_, rfl, _, rfl, .ref L, rfl, .ref p, rfl, p, _, 4, _, rfl, by decide, by decide, by omega, AB, fun wi HC wi0 wi1 kC AC => ?_⟩
      have kk := (kA.trans kB).trans kC
      obtain ⟨ys, ey, ty⟩ := (A9.tr t9 kk).items
      obtain ⟨v, d, a1, a2, a3⟩ := pick ty wi0 (by have := ty.length; simp at this; omega)
      have gd : Sm 20 1000000 1 0 d ∧ isWh 1 9999 d = true := by
        simp only [List.mem_cons, List.mem_singleton, List.not_mem_nil, or_false] at a3
        rcases a3 with rfl | rfl | rfl | rfl <;> exact ⟨Sm.int (by omega), isWh_ok (by omega) (by omega)⟩
      have k5C : Kx [p] H5 HC := k6.trans (k7.trans (k8.trans (k9.of.trans kk)))
      refine ⟨L, ys, wi, v, rfl, rfl, SqL.of ey, a1, len_ok, fun T hT => ?_⟩
      obtain ⟨kT, eT, tT⟩ := mk_tup AC.al (.cons (.int ho) (.cons (.int cr) (.cons (.int re) (.cons (A5.tr td k5C) (.cons a2 .nil))))) hT
      have AT := AC.kx kT
      refine q _ _ _ (kd.trans (k5C.trans kT.of)) (AT.mono (by omega)) tT ⟨Sm.tuple (N := 5) (S := 1) (D := 0) (fun d hd => ?_) (by simp) (by decide), block_ok ho0 ho1 cr0 cr1 re0 re1 vd gd.2⟩
      simp only [List.mem_cons, List.mem_singleton, List.not_mem_nil, or_false] at hd
      rcases hd with rfl | rfl | rfl | rfl | rfl
      · exact Sm.int (by omega)
      · exact Sm.int (by omega)
      · exact Sm.int (by omega)
      · exact sd
      · exact gd.1
    · have td : Tr C H4 V.non .none := .non
      have sd : Sm 20 1000000 1 0 .none := Sm.none
      have vd : (isNone .none || isWh re (h - 1) .none) = true := rfl
      have kd := k04
      have A5 := A4
      have h5 : ∃ H5, H5 = H4 := ⟨_, rfl⟩
      obtain ⟨H5, e5⟩ := h5
      rw [← e5] at kd A5 td ⊢
      refine ⟨.ref p, rfl, p, _, 4, _, rfl, by decide, by decide, by omega, A5, fun w1 H6 w10 w11 k6 A6 => ⟨_, _, rfl, rfl, ?_⟩⟩
      refine ⟨.ref p, rfl, p, _, 30, _, rfl, by decide, by decide, by omega, A6, fun w2 H7 w20 w21 k7 A7 => ⟨_, _, rfl, rfl, ?_⟩⟩
      refine ⟨.ref p, rfl, p, _, 9999, _, rfl, by decide, by decide, by omega, A7, fun w3 H8 w30 w31 k8 A8 => ⟨_, _, rfl, rfl, len_ok, fun L hL => ?_⟩⟩
      obtain ⟨k9, e9, t9⟩ := mk_lst A8.al (.cons (.int (1 + w1)) (.cons (.int (1 + w2)) (.cons (.int (1 + w3)) (.cons (.int 9999) .nil)))) hL
      have A9 := A8.kx k9
      generalize upd H8 L (.lst [V.int (1 + w1), V.int (1 + w2), V.int (1 + w3), V.int 9999]) = H9 at k9 e9 t9 A9 ⊢
      refine ⟨.ref p, rfl, p, _, 6, _, rfl, by decide, by decide, by omega, A9, fun ho HA ho0 ho1 kA AA => ?_⟩
      refine ⟨.ref p, rfl, .int c, rfl, p, _, c, _, rfl, by omega, by omega, by omega, AA, fun cr HB cr0 cr1 kB AB => ?_⟩
      refine ⟨_, rfl, _, rfl, .ref L, rfl, .ref p, rfl, p, _, 4, _, rfl, by decide, by decide, by omega, AB, fun wi HC wi0 wi1 kC AC => ?_⟩
      have kk := (kA.trans kB).trans kC
      obtain ⟨ys, ey, ty⟩ := (A9.tr t9 kk).items
      obtain ⟨v, d, a1, a2, a3⟩ := pick ty wi0 (by have := ty.length; simp at this; omega)
      have gd : Sm 20 1000000 1 0 d ∧ isWh 1 9999 d = true := by
        simp only [List.mem_cons, List.mem_singleton, List.not_mem_nil, or_false] at a3
        rcases a3 with rfl | rfl | rfl | rfl <;> exact ⟨Sm.int (by omega), isWh_ok (by omega) (by omega)⟩
      have k5C : Kx [p] H5 HC := k6.trans (k7.trans (k8.trans (k9.of.trans kk)))
      refine ⟨L, ys, wi, v, rfl, rfl, SqL.of ey, a1, len_ok, fun T hT => ?_⟩
      obtain ⟨kT, eT, tT⟩ := mk_tup AC.al (.cons (.int ho) (.cons (.int cr) (.cons (.int re) (.cons (A5.tr td k5C) (.cons a2 .nil))))) hT
      have AT := AC.kx kT
      refine q _ _ _ (kd.trans (k5C.trans kT.of)) (AT.mono (by omega)) tT ⟨Sm.tuple (N := 5) (S := 1) (D := 0) (fun d hd => ?_) (by simp) (by decide), block_ok ho0 ho1 cr0 cr1 re0 re1 vd gd.2⟩
      simp only [List.mem_cons, List.mem_singleton, List.not_mem_nil, or_false] at hd
      rcases hd with rfl | rfl | rfl | rfl | rfl
      · exact Sm.int (by omega)
      · exact Sm.int (by omega)
      · exact Sm.int (by omega)
      · exact sd
      · exact gd.1
/-- a drawn day -/
structure DayG (most blocks : Int) (d : PyData) : Prop where
  ex : ∃ (h : Int) (sts sis ask bls : List PyData), d = .tuple [.int h, .list sts, .list sis, .list ask, .list bls] ∧ 1 ≤ h ∧ h ≤ most ∧ 1 ≤ sts.length ∧ sts.length ≤ 4 ∧ 1 ≤ sis.length ∧ sis.length ≤ 3 ∧ ask.length = sis.length ∧ (bls.length : Int) ≤ blocks ∧
    (∀ d ∈ sts, Sm 20 1000000 1 0 d) ∧ (∀ d ∈ sis, Sm 20 1000000 51 2 d) ∧ (∀ d ∈ ask, Sm 20 1000000 1 0 d) ∧ (∀ d ∈ bls, Sm 20 1000000 6 1 d) ∧ isDayB d = true
def sp_law_day (Ts : List Addr) : Sp := fun vs H Q _ => ∃ (p : Addr) (n : Nat) (C : List Addr) (most blocks : Int), vs = [.ref p, .int most, .int blocks] ∧ 1 ≤ most ∧ most ≤ 10 ∧ 0 ≤ blocks ∧ blocks ≤ 14 ∧ n ≤ 800000000000 ∧ At Ts C p n H ∧ Draws Ts C p n 10000 (DayG most blocks) H Q
theorem ok__law_day (Y : Facts K mg base fa fd ca ta) : FnOk P w K mg base CX0 3 (fa "_law_day") (fd "_law_day") ["purse", "most", "blocks"] (sp_law_day (Ts ta)) := by
  refine Y.d__law_day.ok sc__law_day (fun vs H Q E h => ?_) (fun cdv A outer s H vs Q E hcd hr h => ?_)
  · obtain ⟨p, n, C, h, c, rfl, _⟩ := h; rfl
  · obtain ⟨p, n, C, most, blocks, rfl, m1, m2, b1, b2, hn, hA, q⟩ := h
    refine ⟨_, (pss_cons (ps_set (i := 3) sc__law_day.nd rfl (by first | exact Or.inl rfl | exact Or.inr rfl) (pe_callTy call_int1 (by rfl) Y.b.int (by decide +kernel) (pa_cons (pe_cmpR op_eq (pe_call (ok__law_coin Y) (hr.mono (by decide)) (by rfl) Y.d__law_coin.g Y.d__law_coin.kp Y.d__law_coin.b .nil pass0 (pa_cons (pv 0) (pa_cons pe_int pa_nil))) pe_int (nomark _)) pa_nil)))
      (pss_cons (ps_set (i := 4) sc__law_day.nd rfl (by first | exact Or.inl rfl | exact Or.inr rfl) (pe_ix (ix_listK K rfl) (pe_lst (pa_cons (pe_op op_add pe_int (pe_call (ok__law_coin Y) (hr.mono (by decide)) (by rfl) Y.d__law_coin.g Y.d__law_coin.kp Y.d__law_coin.b .nil pass0 (pa_cons (pv 0) (pa_cons (pv 1) pa_nil)))) (pa_cons (pv 1) pa_nil))) (pv 3) (fun _ _ => rfl)))
      (pss_cons (ps_set (i := 5) sc__law_day.nd rfl (by first | exact Or.inl rfl | exact Or.inr rfl) (pe_ix (ix_listK K rfl) (pe_lst (pa_cons (pe_op op_add pe_int (pe_call (ok__law_coin Y) (hr.mono (by decide)) (by rfl) Y.d__law_coin.g Y.d__law_coin.kp Y.d__law_coin.b .nil pass0 (pa_cons (pv 0) (pa_cons pe_int pa_nil)))) (pa_cons (pe_op op_add pe_int (pe_call (ok__law_coin Y) (hr.mono (by decide)) (by rfl) Y.d__law_coin.g Y.d__law_coin.kp Y.d__law_coin.b .nil pass0 (pa_cons (pv 0) (pa_cons pe_int pa_nil)))) pa_nil))) (pe_call (ok__law_coin Y) (hr.mono (by decide)) (by rfl) Y.d__law_coin.g Y.d__law_coin.kp Y.d__law_coin.b .nil pass0 (pa_cons (pv 0) (pa_cons pe_int pa_nil))) (fun _ _ => rfl)))
      (pss_cons (ps_setLc (i := 6) (own := [("one", 11)]) (g := gName 11) (tt := tYes) rfl sc__law_day.nd rfl rfl (sw_true rfl rfl rfl (by decide +kernel)) (pi_range1 (by rfl) Y.b.range (pa_cons (pv 5) pa_nil)) (blkOk_by (N := ["purse", "most", "blocks", "full", "hours", "craft", "stores", "dishes", "sights", "asks", "many", "one", "dish"]) (sc := defScope s__law_day) (by decide +kernel)) (fun _ _ _ _ _ => (pg_name (i := 11) sc__law_day.nd rfl (by first | exact Or.inl rfl | exact Or.inr rfl))) (fun _ _ _ _ _ => pts_nil) (fun _ _ _ _ _ => (pe_ix (ix_listK K rfl) (pe_lst (pa_cons pe_int (pa_cons pe_int (pa_cons pe_int (pa_cons pe_int (pa_cons (pe_call (ok__law_coin Y) (hr.mono (by decide)) (by rfl) Y.d__law_coin.g Y.d__law_coin.kp Y.d__law_coin.b .nil pass0 (pa_cons (pv 0) (pa_cons pe_int pa_nil))) (pa_cons pe_int pa_nil))))))) (pe_call (ok__law_coin Y) (hr.mono (by decide)) (by rfl) Y.d__law_coin.g Y.d__law_coin.kp Y.d__law_coin.b .nil pass0 (pa_cons (pv 0) (pa_cons pe_int pa_nil))) (fun _ _ => rfl))))
      (pss_cons (ps_set (i := 7) sc__law_day.nd rfl (by first | exact Or.inl rfl | exact Or.inr rfl) (pe_ix (ix_listK K rfl) (pe_lst (pa_cons pe_int (pa_cons pe_int (pa_cons (pe_op op_add pe_int (pe_call (ok__law_coin Y) (hr.mono (by decide)) (by rfl) Y.d__law_coin.g Y.d__law_coin.kp Y.d__law_coin.b .nil pass0 (pa_cons (pv 0) (pa_cons pe_int pa_nil)))) pa_nil)))) (pe_call (ok__law_coin Y) (hr.mono (by decide)) (by rfl) Y.d__law_coin.g Y.d__law_coin.kp Y.d__law_coin.b .nil pass0 (pa_cons (pv 0) (pa_cons pe_int pa_nil))) (fun _ _ => rfl)))
      (pss_cons (ps_setLc (i := 8) (own := [("dish", 12)]) (g := gName 12) (tt := tYes) rfl sc__law_day.nd rfl rfl (sw_true rfl rfl rfl (by decide +kernel)) (pi_range1 (by rfl) Y.b.range (pa_cons (pv 7) pa_nil)) (blkOk_by (N := ["purse", "most", "blocks", "full", "hours", "craft", "stores", "dishes", "sights", "asks", "many", "one", "dish"]) (sc := defScope s__law_day) (by decide +kernel)) (fun _ _ _ _ _ => (pg_name (i := 12) sc__law_day.nd rfl (by first | exact Or.inl rfl | exact Or.inr rfl))) (fun _ _ _ _ _ => pts_nil) (fun _ _ _ _ _ => (pe_call (ok__law_sight Y) (hr.mono (by decide)) (by rfl) Y.d__law_sight.g Y.d__law_sight.kp Y.d__law_sight.b .nil pass0 (pa_cons (pv 0) (pa_cons (pv 4) (pa_cons (pv 5) pa_nil))))))
      (pss_cons (ps_setLc (i := 9) (own := [("dish", 12)]) (g := gName 12) (tt := tYes) rfl sc__law_day.nd rfl rfl (sw_true rfl rfl rfl (by decide +kernel)) (pi_listK K rfl (pv 8)) (blkOk_by (N := ["purse", "most", "blocks", "full", "hours", "craft", "stores", "dishes", "sights", "asks", "many", "one", "dish"]) (sc := defScope s__law_day) (by decide +kernel)) (fun _ _ _ _ _ => (pg_name (i := 12) sc__law_day.nd rfl (by first | exact Or.inl rfl | exact Or.inr rfl))) (fun _ _ _ _ _ => pts_nil) (fun _ _ _ _ _ => (pe_ix (ix_listK K rfl) (pe_lst (pa_cons pe_non (pa_cons pe_non (pa_cons (pe_call (ok__law_coin Y) (hr.mono (by decide)) (by rfl) Y.d__law_coin.g Y.d__law_coin.kp Y.d__law_coin.b .nil pass0 (pa_cons (pv 0) (pa_cons pe_int pa_nil))) (pa_cons (pe_call (ok__law_coin Y) (hr.mono (by decide)) (by rfl) Y.d__law_coin.g Y.d__law_coin.kp Y.d__law_coin.b .nil pass0 (pa_cons (pv 0) (pa_cons pe_int pa_nil))) (pa_cons pe_int pa_nil)))))) (pe_call (ok__law_coin Y) (hr.mono (by decide)) (by rfl) Y.d__law_coin.g Y.d__law_coin.kp Y.d__law_coin.b .nil pass0 (pa_cons (pv 0) (pa_cons pe_int pa_nil))) (fun _ _ => rfl))))
      (pss_cons (ps_set (i := 10) sc__law_day.nd rfl (by first | exact Or.inl rfl | exact Or.inr rfl) (pe_ix (ix_listK K rfl) (pe_lst (pa_cons (pe_call (ok__law_coin Y) (hr.mono (by decide)) (by rfl) Y.d__law_coin.g Y.d__law_coin.kp Y.d__law_coin.b .nil pass0 (pa_cons (pv 0) (pa_cons (pe_op op_add (pv 2) pe_int) pa_nil))) (pa_cons (pv 2) pa_nil))) (pv 3) (fun _ _ => rfl)))
      (pss_one (ps_ret (pe_tup (pa_cons (pv 4) (pa_cons (pv 6) (pa_cons (pv 8) (pa_cons (pv 9) (pa_cons (pe_lc (own := [("one", 11)]) (g := gName 11) (tt := tYes) rfl sc__law_day.nd (pi_range1 (by rfl) Y.b.range (pa_cons (pv 10) pa_nil)) (blkOk_by (N := ["purse", "most", "blocks", "full", "hours", "craft", "stores", "dishes", "sights", "asks", "many", "one", "dish"]) (sc := defScope s__law_day) (by decide +kernel)) (fun _ _ _ _ _ => (pg_name (i := 11) sc__law_day.nd rfl (by first | exact Or.inl rfl | exact Or.inr rfl))) (fun _ _ _ _ _ => pts_nil) (fun _ _ _ _ _ => (pe_call (ok__law_block Y) (hr.mono (by decide)) (by rfl) Y.d__law_block.g Y.d__law_block.kp Y.d__law_block.b .nil pass0 (pa_cons (pv 0) (pa_cons (pv 4) (pa_cons (pv 5) pa_nil)))))) pa_nil)))))))))))))))), ?_⟩
    -- full
    refine ⟨.ref p, rfl, p, _, 8, _, rfl, by decide, by decide, by omega, hA, fun z H1 z0 z1 k1 A1 => ⟨rfl, .inr ⟨_, rfl, ?_⟩⟩⟩
    have ff : 0 ≤ (if decide (V.int z = V.int 0) = true then (1 : Int) else 0) ∧ (if decide (V.int z = V.int 0) = true then (1 : Int) else 0) < 2 := by split <;> omega
    generalize (if decide (V.int z = V.int 0) = true then (1 : Int) else 0) = f at ff ⊢
    -- hours
    refine ⟨.ref p, rfl, .int most, rfl, p, _, most, _, rfl, by omega, by omega, by omega, A1, fun r H2 r0 r1 k2 A2 => ⟨_, _, rfl, rfl, _, rfl, len_ok, fun L hL => ?_⟩⟩
    generalize hq3 : upd H2 L _ = H3
    obtain ⟨k3, e3⟩ := new_at hL hq3
    clear hq3
    have A3 := A2.kx k3
    obtain ⟨hh, a3, i3⟩ := pickI (ns := [1 + r, most]) ff.1 (by simpa using ff.2)
    have h1 : 1 ≤ hh ∧ hh ≤ most := by
      simp only [List.mem_cons, List.mem_singleton, List.not_mem_nil, or_false] at i3
      omega
    refine ⟨_, rfl, L, _, f, _, rfl, rfl, SqL.of e3, a3, ?_⟩
    -- craft
    refine ⟨.ref p, rfl, p, _, 2, _, rfl, by decide, by decide, by omega, A3, fun x1 H4 x10 x11 k4 A4 => ⟨_, _, rfl, rfl, .ref p, rfl, p, _, 4, _, rfl, by decide, by decide, by omega, A4, fun x2 H5 x20 x21 k5 A5 => ⟨_, _, rfl, rfl, len_ok, fun L2 hL2 => ?_⟩⟩⟩
    generalize hq6 : upd H5 L2 _ = H6
    obtain ⟨k6, e6⟩ := new_at hL2 hq6
    clear hq6
    have A6 := A5.kx k6
    refine ⟨.ref p, rfl, p, _, 2, _, rfl, by decide, by decide, by omega, A6, fun ci H7 i0 i1 k7 A7 => ?_⟩
    obtain ⟨cr, a7, i7⟩ := pickI (ns := [1 + x1, 1 + x2]) i0 (by simpa using i1)
    have c1 : 1 ≤ cr ∧ cr ≤ 4 := by
      simp only [List.mem_cons, List.mem_singleton, List.not_mem_nil, or_false] at i7
      omega
    refine ⟨L2, _, ci, _, rfl, rfl, SqL.of (k7.lst (A5.nep hL2) e6), a7, ?_⟩
    have k07 : Kx [p] H H7 := k1.trans (k2.trans (k3.of.trans (k4.trans (k5.trans (k6.of.trans k7)))))
    -- stores
    refine st_name ?_
    dsimp only
    refine st_set (lc_use ?_)
    refine ⟨_, rfl, cr, rfl, by omega, by omega, ?_⟩
    refine lc_pu (itr_at cr.toNat) (by omega) 2 (fun d => Sm 20 1000000 1 0 d ∧ isWh 0 5 d = true) true A7 (fun D i Hs hD hi ks As R R0 hR hR0 => ?_) fun DS sts H8 k8 A8 tS _ xS gS => ?_
    · refine ⟨rfl, st_yes ⟨.ref p, rfl, p, _, 6, _, rfl, by decide, by decide, by omega, As, fun x Ht x0 x1 kt At => ⟨len_ok, fun L3 hL3 => ?_⟩⟩⟩
      generalize hqu : upd Ht L3 _ = Hu
      obtain ⟨ku, eu⟩ := new_at hL3 hqu
      clear hqu
      refine ⟨.ref p, rfl, p, _, 6, _, rfl, by decide, by decide, by omega, At.kx ku, fun y Hv y0 y1 kv Av => ?_⟩
      obtain ⟨st, av, iv⟩ := pickI (ns := [0, 1, 1, 2, x, 5]) y0 (by simpa using y1)
      have s1 : 0 ≤ st ∧ st ≤ 5 := by
        simp only [List.mem_cons, List.mem_singleton, List.not_mem_nil, or_false] at iv
        omega
      exact ⟨L3, _, y, _, rfl, rfl, SqL.of (kv.lst (At.nep hL3) eu), av, hR _ _ Hv (kt.trans (ku.of.trans kv)) (Av.mono (by omega)) (.int _) ⟨Sm.int (by omega), isWh_ok s1.1 s1.2⟩⟩
    have lS := xS rfl
    clear xS
    -- dishes
    refine ⟨.ref p, rfl, p, _, 3, _, rfl, by decide, by decide, by omega, A8, fun x3 H9 x30 x31 k9 A9 => ⟨_, _, rfl, rfl, len_ok, fun L4 hL4 => ?_⟩⟩
    generalize hqa : upd H9 L4 _ = Ha
    obtain ⟨ka, ea⟩ := new_at hL4 hqa
    clear hqa
    refine ⟨.ref p, rfl, p, _, 3, _, rfl, by decide, by decide, by omega, A9.kx ka, fun di Hb i0' i1' kb Ab => ?_⟩
    obtain ⟨ds, ab, ib⟩ := pickI (ns := [1, 2, 1 + x3]) i0' (by simpa using i1')
    have d1 : 1 ≤ ds ∧ ds ≤ 3 := by
      simp only [List.mem_cons, List.mem_singleton, List.not_mem_nil, or_false] at ib
      omega
    refine ⟨L4, _, di, _, rfl, rfl, SqL.of (kb.lst (A9.nep hL4) ea), ab, ?_⟩
    have k8b : Kx [p] H8 Hb := k9.trans (ka.of.trans kb)
    -- sights
    refine st_name ?_
    dsimp only
    refine st_set (lc_use ?_)
    refine ⟨_, rfl, ds, rfl, by omega, by omega, ?_⟩
    refine lc_pu (itr_at ds.toNat) (by omega) 1000 (fun d => Sm 20 1000000 51 2 d ∧ sightB hh cr d = true) true Ab (fun D i Hs hD hi ks As R R0 hR hR0 => ?_) fun DI sis Hc kc Ac tI _ xI gI => ?_
    · exact ⟨rfl, st_yes ⟨.ref p, rfl, .int hh, rfl, .int cr, rfl, p, _, _, hh, cr, rfl, h1.1, by omega, c1.1, c1.2, by omega, As, fun v d H' k A t g => hR v d H' k (A.mono (by omega)) t g⟩⟩
    have lI := xI rfl
    clear xI
    -- asks
    obtain ⟨xs, eI, tI2⟩ := tI.items
    have lx := tI2.length
    refine st_set (lc_use ⟨_, rfl, DI, rfl, ⟨xs, SqL.of eI⟩, ?_⟩)
    have nDI := Ac.nepT tI
    refine lc_pu (itl_at eI nDI) (by omega) 3 (fun d => Sm 20 1000000 1 0 d ∧ (isNone d || isWh 0 999 d) = true) true Ac (fun D i Hs hD hi ks As R R0 hR hR0 => ?_) fun DA ask Hd kd Ad tA _ xA gA => ?_
    · refine ⟨rfl, st_yes ⟨.ref p, rfl, p, _, 6, _, rfl, by decide, by decide, by omega, As, fun x Ht x0 x1 kt At => ?_⟩⟩
      refine ⟨.ref p, rfl, p, _, 1000, _, rfl, by decide, by decide, by omega, At, fun x' Hu x0' x1' ku Au => ⟨len_ok, fun L3 hL3 => ?_⟩⟩
      generalize hqv : upd Hu L3 _ = Hv
      obtain ⟨kv, ev⟩ := new_at hL3 hqv
      clear hqv
      have Av := Au.kx kv
      refine ⟨.ref p, rfl, p, _, 5, _, rfl, by decide, by decide, by omega, Av, fun y Hw y0 y1 kw Aw => ?_⟩
      obtain ⟨v, d, a1, a2, a3⟩ := pick (C := D :: C) (H := Hw) (xs := [.non, .non, .int x, .int x', .int 999]) (.cons .non (.cons .non (.cons (.int x) (.cons (.int x') (.cons (.int 999) .nil))))) y0 (by simpa using y1)
      have gd : Sm 20 1000000 1 0 d ∧ (isNone d || isWh 0 999 d) = true := by
        simp only [List.mem_cons, List.mem_singleton, List.not_mem_nil, or_false] at a3
        rcases a3 with rfl | rfl | rfl | rfl | rfl
        · exact ⟨Sm.none, rfl⟩
        · exact ⟨Sm.none, rfl⟩
        · exact ⟨Sm.int (by omega), isWh_ok (by omega) (by omega)⟩
        · exact ⟨Sm.int (by omega), isWh_ok (by omega) (by omega)⟩
        · exact ⟨Sm.int (by decide), by decide⟩
      exact ⟨L3, _, y, v, rfl, rfl, SqL.of (kw.lst (Au.nep hL3) ev), a1, hR _ _ Hw (kt.trans (ku.trans (kv.of.trans kw))) (Aw.mono (by omega)) a2 gd⟩
    have lA := xA rfl
    clear xA
    -- many
    refine ⟨.ref p, rfl, .int blocks, rfl, _, _, rfl, rfl, p, _, blocks + 1, _, rfl, by omega, by omega, by omega, Ad, fun x4 He x40 x41 ke Ae => ⟨_, rfl, len_ok, fun L5 hL5 => ?_⟩⟩
    generalize hqf : upd He L5 _ = Hf
    obtain ⟨kf, ef⟩ := new_at hL5 hqf
    clear hqf
    have Af := Ae.kx kf
    obtain ⟨my, af, jf⟩ := pickI (ns := [x4, blocks]) ff.1 (by simpa using ff.2)
    have m1' : 0 ≤ my ∧ my ≤ blocks := by
      simp only [List.mem_cons, List.mem_singleton, List.not_mem_nil, or_false] at jf
      omega
    refine ⟨_, rfl, L5, _, f, _, rfl, rfl, SqL.of ef, af, ?_⟩
    -- the tuple
    refine ⟨_, rfl, _, rfl, _, rfl, _, rfl, lc_use ⟨_, rfl, my, rfl, by omega, by omega, ?_⟩⟩
    refine lc_pu (itr_at my.toNat) (by omega) 20 (fun d => Sm 20 1000000 6 1 d ∧ blockB hh cr d = true) true Af (fun D i Hs hD hi ks As R R0 hR hR0 => ?_) fun DB bls Hg kg Ag tB _ xB gB => ?_
    · exact ⟨rfl, st_yes ⟨.ref p, rfl, .int hh, rfl, .int cr, rfl, p, _, _, hh, cr, rfl, h1.1, by omega, c1.1, c1.2, by omega, As, fun v d H' k A t g => hR v d H' k (A.mono (by omega)) t g⟩⟩
    have lB := xB rfl
    refine ⟨len_ok, fun T hT => ?_⟩
    have kcg : Kx [p] Hc Hg := kd.trans (ke.trans (kf.of.trans kg))
    have kdg : Kx [p] Hd Hg := ke.trans (kf.of.trans kg)
    have k8g : Kx [p] H8 Hg := k8b.trans (kc.trans kcg)
    obtain ⟨kT, eT, tT⟩ := mk_tup Ag.al (.cons (.int hh) (.cons (A8.tr tS k8g) (.cons (Ac.tr tI kcg) (.cons (Ad.tr tA kdg) (.cons tB .nil))))) hT
    refine q _ _ _ (k07.trans (k8.trans (k8g.trans kT.of))) ((Ag.kx kT).mono (by omega)) tT ⟨hh, sts, sis, ask, bls, rfl, h1.1, h1.2, by omega, by omega, by omega, by omega, by omega, by omega, fun d hd => (gS d hd).1, fun d hd => (gI d hd).1, fun d hd => (gA d hd).1, fun d hd => (gB d hd).1, ?_⟩
    have lcr : (sts.length : Int) = cr := by omega
    have lai : (ask.length : Int) = (sis.length : Int) := by omega
    show (isWh 1 10 (.int hh) && ((isLs 1 4 (.list sts) && sts.all (isWh 0 5)) && ((isLs 1 3 (.list sis) && sis.all (sightB hh (sts.length : Int))) && ((isLs (sis.length : Int) (sis.length : Int) (.list ask) && ask.all (fun a => isNone a || isWh 0 999 a)) && (isLs 0 14 (.list bls) && bls.all (blockB hh (sts.length : Int))))))) = true
    rw [lcr, isWh_ok (by omega) (by omega), isLs_ok (by omega) (by omega), isLs_ok (by omega) (by omega), isLs_ok (by omega) (by omega), isLs_ok (by omega) (by omega), List.all_eq_true.mpr fun d hd => (gS d hd).2, List.all_eq_true.mpr fun d hd => (gI d hd).2, List.all_eq_true.mpr fun d hd => (gA d hd).2, List.all_eq_true.mpr fun d hd => (gB d hd).2]
    rfl
end
end Law

set_option Elab.async false
set_option linter.all false
set_option maxRecDepth 100000
set_option maxHeartbeats 4000000
namespace Law
open PySem PySem.Spec PyProof.Rows L2 GxR GX Tree Kit Data Loops Loops2 Comps Purse Day SetG SetL Lit Sets
section
variable {P : Program} {w : World} {K : PySem.W.Frag} {mg : Str → Option Value} {base : Heap} {fa : String → Addr} {fd : String → FuncData} {ca ta : String → Addr}
/-! ### drawn plans -/
theorem ok__law_may (Y : Facts K mg base fa fd ca ta) : FnOk P w K mg base CX0 1 (fa "_law_may") (fd "_law_may") ["block", "hour"] sp_may := by
  refine Y.d__law_may.ok sc__law_may (fun vs H Q E h => ?_) (fun cdv A outer s H vs Q E hcd hr h => ?_)
  · obtain ⟨v, b, h, rfl, _⟩ := h; rfl
  · obtain ⟨v, b, hh, rfl, ht, q⟩ := h
    refine ⟨_, (pss_cons (ps_asg (pv 0) (pg_tupK (n := 5) K rfl rfl (pgs_cons (pg_name (i := 2) sc__law_may.nd rfl (by first | exact Or.inl rfl | exact Or.inr rfl)) (pgs_cons (pg_name (i := 3) sc__law_may.nd rfl (by first | exact Or.inl rfl | exact Or.inr rfl)) (pgs_cons (pg_name (i := 4) sc__law_may.nd rfl (by first | exact Or.inl rfl | exact Or.inr rfl)) (pgs_cons (pg_name (i := 5) sc__law_may.nd rfl (by first | exact Or.inl rfl | exact Or.inr rfl)) (pgs_cons (pg_name (i := 6) sc__law_may.nd rfl (by first | exact Or.inl rfl | exact Or.inr rfl)) pgs_nil)))))))
      (pss_one (ps_ret (pe_and (pe_cmpR op_le (pv 4) (pv 1) (nomark _)) (pe_one (pe_or (pe_cmpR op_isN (pv 5) pe_non (nomark _)) (pe_one (pe_cmpR op_le (pv 1) (pv 5) (nomark _))))))))), ?_⟩
    obtain ⟨a, xs, rfl, ex, tx⟩ := ht.tupV
    obtain ⟨v1, v2, v3, v4, v5, rfl, t1, t2, t3, t4, t5⟩ := TrAll.five tx
    cases t3
    refine ⟨.ref a, rfl, a, _, rfl, SqT.of ex, rfl, v1, _, rfl, v2, _, rfl, _, _, rfl, v4, _, rfl, v5, _, rfl, rfl, ?_⟩
    refine ⟨_, rfl, .int hh, rfl, _, _, rfl, rfl, _, rfl, andV (b := match b.due with | none => true | some u => decide (hh ≤ u)) (R := fun b => Q (.bl b) H) q fun _ q => ?_⟩
    refine ⟨v4, rfl, rfl, _, rfl, ?_⟩
    rw [isNone_v t4]
    cases hd : b.due with
    | none =>
      rw [hd] at t4 q
      exact iteT q
    | some u =>
      rw [hd] at t4 q
      cases t4
      exact iteF ⟨.int hh, rfl, .int u, rfl, _, _, rfl, rfl, q⟩
/-- a block by its place -/
theorem blk_ix {B : List Addr} {H : Hp} {D : Dy} {aB : Addr} {n : Int} (t : Tr B H (.ref aB) (.list (D.blocks.map blkD))) (h0 : 0 ≤ n) (h1 : n < (D.blocks.length : Int)) :
    ∃ xB bA b1 b4, H aB = some (.lst xB) ∧ atI xB n = some (.ref bA) ∧ H bA = some (.tup [b1, .int (blkAt D n).craft, .int (blkAt D n).ready, b4, .int (blkAt D n).worth]) ∧ Tr B H b4 (optD (blkAt D n).due) ∧ Tr B H (.ref bA) (blkD (blkAt D n)) := by
  obtain ⟨a, xB, bv, e, eB, a3, tb⟩ := ixT t h0 (by rw [List.length_map]; exact h1)
  cases e
  rw [getD_map blkD D.blocks n.toNat ⟨0, 0, 0, none, 0⟩ _ (by omega)] at tb
  have tb0 := tb
  obtain ⟨bA, bx, rfl, eb, tbx⟩ := tb.tupV
  obtain ⟨b1, b2, b3, b4, b5, rfl, f1, f2, f3, f4, f5⟩ := TrAll.five tbx
  cases f2
  cases f3
  cases f5
  exact ⟨xB, bA, b1, b4, eB, a3, eb, f4, tb0⟩
/-- what a dish may hear at an hour -/
theorem row_ix {B : List Addr} {H : Hp} {D : Dy} (hD : DyOk D) {aI : Addr} {d h : Int} (t : Tr B H (.ref aI) (.list (D.sights.map sightD))) (d0 : 0 ≤ d) (d1 : d < (D.sights.length : Int)) (h0 : 0 ≤ h) (h1 : h < D.hours) :
    ∃ xI gA gx rA, H aI = some (.lst xI) ∧ atI xI d = some (.ref gA) ∧ H gA = some (.lst gx) ∧ atI gx h = some (.ref rA) ∧ H rA = some (.lst ((heardAt D d h).map V.int)) := by
  obtain ⟨_, xI, g, e, eI, at1, tg⟩ := ixT t d0 (by rw [List.length_map]; omega)
  cases e
  rw [getD_map sightD D.sights d.toNat [] _ (by omega)] at tg
  have sm : D.sights.getD d.toNat [] ∈ D.sights := by
    rw [List.getD_eq_getElem?_getD, List.getElem?_eq_getElem (by omega)]
    exact List.getElem_mem _
  have sl := hD.gl _ sm
  obtain ⟨gA, gx, r, rfl, eg, at2, tr⟩ := ixT tg h0 (by rw [List.length_map]; omega)
  rw [getD_map rowD _ h.toNat [] _ (by omega)] at tr
  obtain ⟨rA, rx, rfl, er, trx⟩ := tr.listV
  have erx := TrAll.intsV trx (by rw [ints_back])
  rw [ints_back] at erx
  rw [erx] at er
  exact ⟨xI, gA, gx, rA, eI, at1, eg, at2, er⟩
/-- passes ahead of an hour and a dish -/
structure Dr (D : Dy) (h d : Int) (ps : List Pass) : Prop where
  ok : ∀ p ∈ ps, passT D p = true
  lt : ∀ p ∈ ps, p.hour < h ∨ (p.hour = h ∧ p.dish < d)
  up : ps.Pairwise fun a b => a.hour < b.hour ∨ (a.hour = b.hour ∧ a.dish < b.dish)
  cr : ps.Pairwise fun a b => ¬ (a.hour = b.hour ∧ a.craft = b.craft)
  bk : (ps.map Pass.block).Nodup
theorem Dr.nil (D : Dy) (h d : Int) : Dr D h d [] := ⟨fun _ h => (nomatch h), fun _ h => (nomatch h), .nil, .nil, .nil⟩
theorem Dr.add {D : Dy} {ps : List Pass} {p : Pass} (h : Dr D p.hour p.dish ps) (hp : passT D p = true) (hc : ∀ q ∈ ps, q.hour = p.hour → q.craft ≠ p.craft) (hb : p.block ∉ ps.map Pass.block) : Dr D p.hour (p.dish + 1) (ps ++ [p]) := by
  refine ⟨fun q hq => ?_, fun q hq => ?_, List.pairwise_append.mpr ⟨h.up, List.pairwise_singleton _ _, fun a ha b hb => ?_⟩, List.pairwise_append.mpr ⟨h.cr, List.pairwise_singleton _ _, fun a ha b hb z => ?_⟩, ?_⟩
  · rcases List.mem_append.mp hq with z | z
    · exact h.ok q z
    · rw [List.mem_singleton.mp z]; exact hp
  · rcases List.mem_append.mp hq with z | z
    · have := h.lt q z
      omega
    · rw [List.mem_singleton.mp z]; omega
  · rw [List.mem_singleton.mp hb]; exact h.lt a ha
  · rw [List.mem_singleton.mp hb] at z
    exact hc a ha z.1 z.2
  · rw [List.map_append]
    refine List.nodup_append.mpr ⟨h.bk, List.pairwise_singleton _ _, fun a ha b hb' e => ?_⟩
    rw [List.mem_singleton.mp hb'] at e
    exact hb (e ▸ ha)
theorem Dr.skip {D : Dy} {ps : List Pass} {h d : Int} (x : Dr D h d ps) : Dr D h (d + 1) ps := ⟨x.ok, fun p hp => by have := x.lt p hp; omega, x.up, x.cr, x.bk⟩
theorem Dr.next {D : Dy} {ps : List Pass} {h d : Int} (x : Dr D h d ps) : Dr D (h + 1) 0 ps := ⟨x.ok, fun p hp => by have := x.lt p hp; omega, x.up, x.cr, x.bk⟩
theorem Dr.sub {D : Dy} {ps qs : List Pass} {h d : Int} (x : Dr D h d ps) (s : List.Sublist qs ps) : Dr D h d qs :=
  ⟨fun p hp => x.ok p (s.subset hp), fun p hp => x.lt p (s.subset hp), x.up.sublist s, x.cr.sublist s, x.bk.sublist (s.map _)⟩
theorem notE' {b : Bool} (h : ¬ b = true) : b = false := by simpa using h
theorem nodup_ints_le : ∀ {n : Nat} {l : List Int}, l.Nodup → (∀ i ∈ l, 0 ≤ i ∧ i < (n : Int)) → l.length ≤ n := by
  intro n l hn hb
  have h1 : (l.map Int.toNat).Nodup := List.pairwise_map.mpr (hn.imp_of_mem fun {a b} ha hb' h e => h (by have := hb a ha; have := hb b hb'; omega))
  have h2 := List.Nodup.length_le_of_subset (l₂ := List.range n) h1 (fun j hj => by
    obtain ⟨i, hi, rfl⟩ := List.mem_map.mp hj
    have := hb i hi
    exact List.mem_range.mpr (by omega))
  simpa using h2
theorem Dr.len {D : Dy} {ps : List Pass} {h d : Int} (x : Dr D h d ps) : ps.length ≤ D.blocks.length := by
  have := nodup_ints_le x.bk (n := D.blocks.length) (fun i hi => by
    obtain ⟨p, hp, rfl⟩ := List.mem_map.mp hi
    have := (passT_of (x.ok p hp)).2.2.2.1
    omega)
  rwa [List.length_map] at this
theorem Dr.rises {D : Dy} {ps : List Pass} {h d : Int} (x : Dr D h d ps) : risesP ps = true := by
  refine List.all_eq_true.mpr fun i hi => ?_
  have hi := List.mem_range.mp hi
  rw [getD_at ps p0 (by omega), getD_at ps p0 (by omega)]
  have := List.pairwise_iff_getElem.mp x.up i (i + 1) (by omega) (by omega) (by omega)
  unfold passI
  rw [HT.lexLt_cons]
  by_cases e : ps[i].hour = ps[i + 1].hour
  · rw [if_pos e, HT.lexLt_cons, if_neg (by omega)]
    exact decide_eq_true (by omega)
  · rw [if_neg e]
    exact decide_eq_true (by omega)
theorem Dr.clash {D : Dy} {ps : List Pass} {h d : Int} (x : Dr D h d ps) : clashB ps = true := by
  unfold clashB
  rw [Bool.and_eq_true, Bool.and_eq_true]
  refine ⟨decide_eq_true (List.pairwise_map.mpr (x.up.imp fun {a b} h e => ?_)), decide_eq_true (List.pairwise_map.mpr (x.cr.imp fun {a b} h e => ?_)), decide_eq_true x.bk⟩
  · injection e with e1 e
    injection e with e2
    omega
  · injection e with e1 e
    injection e with e2
    exact h ⟨e1, e2⟩
theorem passT_mk {D : Dy} {p : Pass} (h1 : 0 ≤ p.hour ∧ p.hour < D.hours) (h2 : 0 ≤ p.dish ∧ p.dish < (D.sights.length : Int)) (h3 : 0 ≤ p.craft ∧ p.craft < (D.stores.length : Int)) (h4 : 0 ≤ p.block ∧ p.block < (D.blocks.length : Int))
    (h5 : p.craft ∈ heardAt D p.dish p.hour) (h6 : p.craft = (blkAt D p.block).craft) (h7 : mayB (blkAt D p.block) p.hour = true) : passT D p = true := by
  unfold passT
  rw [isWh_mk h1.1 (by omega), isWh_mk h2.1 (by omega), isWh_mk h3.1 (by omega), isWh_mk h4.1 (by omega), List.contains_iff_mem.mpr h5, decide_eq_true h6, h7]
  rfl
theorem _root_.Tree.Kx.of4 {p F G U : Addr} {H H' : Hp} (k : Kx [p, F, G] H H') : Kx [p, F, G, U] H H' := k.sub (by simp)
theorem blkAt_ok {D : Dy} (hD : DyOk D) {n : Int} (h0 : 0 ≤ n) (h1 : n < (D.blocks.length : Int)) : BlkOk D.hours D.stores.length (blkAt D n) := by
  refine hD.bb _ ?_
  unfold blkAt
  rw [List.getD_eq_getElem?_getD, List.getElem?_eq_getElem (by omega)]
  exact List.getElem_mem _
def sp_law_passes (Ts : List Addr) : Sp := fun vs H Q _ => ∃ (p : Addr) (n : Nat) (C : List Addr) (dv : V) (D : Dy), vs = [.ref p, dv] ∧ n ≤ 800000000000 ∧ At Ts C p n H ∧ Tr C H dv (dayD D) ∧ DyOk D ∧
  ∀ (F : Addr) (ps : List Pass) (H' : Hp), Kx [p] H H' → At Ts C p (n + 60) H' → Tr C H' (.ref F) (.list (ps.map passD)) → Dr D D.hours 0 ps → Q (.ref F) H'
theorem ok__law_passes (Y : Facts K mg base fa fd ca ta) : FnOk P w K mg base CX0 2 (fa "_law_passes") (fd "_law_passes") ["purse", "day"] (sp_law_passes (Ts ta)) := by
  refine Y.d__law_passes.ok sc__law_passes (fun vs H Q E h => ?_) (fun cdv A outer s H vs Q E hcd hr h => ?_)
  · obtain ⟨p, n, C, dv, D, rfl, _⟩ := h; rfl
  · obtain ⟨p, n, C, dv, D, rfl, hn, hA, hdt, hD, q⟩ := h
    refine ⟨_, (pss_cons (ps_asg (pv 1) (pg_tupK (n := 5) K rfl rfl (pgs_cons (pg_name (i := 2) sc__law_passes.nd rfl (by first | exact Or.inl rfl | exact Or.inr rfl)) (pgs_cons (pg_name (i := 3) sc__law_passes.nd rfl (by first | exact Or.inl rfl | exact Or.inr rfl)) (pgs_cons (pg_name (i := 4) sc__law_passes.nd rfl (by first | exact Or.inl rfl | exact Or.inr rfl)) (pgs_cons (pg_name (i := 5) sc__law_passes.nd rfl (by first | exact Or.inl rfl | exact Or.inr rfl)) (pgs_cons (pg_name (i := 6) sc__law_passes.nd rfl (by first | exact Or.inl rfl | exact Or.inr rfl)) pgs_nil)))))))
      (pss_cons (ps_set (i := 7) sc__law_passes.nd rfl (by first | exact Or.inl rfl | exact Or.inr rfl) (pe_lst pa_nil))
      (pss_cons (ps_set (i := 8) sc__law_passes.nd rfl (by first | exact Or.inl rfl | exact Or.inr rfl) (pe_lst pa_nil))
      (pss_cons (ps_for PassesOwn.never rfl (pi_range1 (by rfl) Y.b.range (pa_cons (pv 2) pa_nil)) (pg_name (i := 9) sc__law_passes.nd rfl (by first | exact Or.inl rfl | exact Or.inr rfl)) (pss_cons (ps_set (i := 10) sc__law_passes.nd rfl (by first | exact Or.inl rfl | exact Or.inr rfl) (pe_lst pa_nil))
      (pss_one (ps_for PassesOwn.never rfl (pi_range1 (by rfl) Y.b.range (pa_cons (pe_callB (call_lenK K rfl) (by rfl) Y.b.len (by decide +kernel) (pa_cons (pv 4) pa_nil)) pa_nil)) (pg_name (i := 11) sc__law_passes.nd rfl (by first | exact Or.inl rfl | exact Or.inr rfl)) (pss_cons (ps_setLc (i := 12) (own := [("n", 14)]) (g := gName 14) rfl sc__law_passes.nd rfl rfl (sw_true rfl rfl rfl (by decide +kernel)) (pi_range1 (by rfl) Y.b.range (pa_cons (pe_callB (call_lenK K rfl) (by rfl) Y.b.len (by decide +kernel) (pa_cons (pv 6) pa_nil)) pa_nil)) (blkOk_by (N := ["purse", "day", "hours", "stores", "sights", "asks", "blocks", "found", "gone", "hour", "used", "dish", "some", "number", "n"]) (sc := defScope s__law_passes) (by decide +kernel)) (fun _ _ _ _ _ => (pg_name (i := 14) sc__law_passes.nd rfl (by first | exact Or.inl rfl | exact Or.inr rfl))) (fun _ _ _ _ _ => (pts_one ((pw_and (pt_cmpR (op_notInK K rfl) (pv 14) (pv 8) (by rfl)) (pw_and1 (pt_cmpR (op_inK K rfl) (pe_ix (ix_tupK K rfl) (pe_ix (ix_listK K rfl) (pv 6) (pv 14) (fun _ _ => rfl)) pe_int (fun _ _ => rfl)) (pe_ix (ix_listK K rfl) (pe_ix (ix_listK K rfl) (pv 4) (pv 11) (fun _ _ => rfl)) (pv 9) (fun _ _ => rfl)) (by rfl))))).pt)) (fun _ _ _ _ _ => (pv 14)))
      (pss_cons (ps_setLc (i := 12) (own := [("n", 14)]) (g := gName 14) rfl sc__law_passes.nd rfl rfl (sw_true rfl rfl rfl (by decide +kernel)) (pi_listK K rfl (pv 12)) (blkOk_by (N := ["purse", "day", "hours", "stores", "sights", "asks", "blocks", "found", "gone", "hour", "used", "dish", "some", "number", "n"]) (sc := defScope s__law_passes) (by decide +kernel)) (fun _ _ _ _ _ => (pg_name (i := 14) sc__law_passes.nd rfl (by first | exact Or.inl rfl | exact Or.inr rfl))) (fun _ _ _ _ _ => (pts_one ((pw_and (pt_cmpR (op_notInK K rfl) (pe_ix (ix_tupK K rfl) (pe_ix (ix_listK K rfl) (pv 6) (pv 14) (fun _ _ => rfl)) pe_int (fun _ _ => rfl)) (pv 10) (by rfl)) (pw_and1 (pt_val (pe_call (ok__law_may Y) (hr.mono (by decide)) (by rfl) Y.d__law_may.g Y.d__law_may.kp Y.d__law_may.b .nil pass0 (pa_cons (pe_ix (ix_listK K rfl) (pv 6) (pv 14) (fun _ _ => rfl)) (pa_cons (pv 9) pa_nil))))))).pt)) (fun _ _ _ _ _ => (pv 14)))
      (pss_one (ps_if ((pw_and (pt_cmpR (op_neNil hr.units0) (pv 12) (pe_lst pa_nil) (nomark _)) (pw_and1 (pt_cmpR op_gt (pe_call (ok__law_coin Y) (hr.mono (by decide)) (by rfl) Y.d__law_coin.g Y.d__law_coin.kp Y.d__law_coin.b .nil pass0 (pa_cons (pv 0) (pa_cons pe_int pa_nil))) pe_int (nomark _))))).pt (pss_cons (ps_set (i := 13) sc__law_passes.nd rfl (by first | exact Or.inl rfl | exact Or.inr rfl) (pe_ix (ix_listK K rfl) (pv 12) (pe_call (ok__law_coin Y) (hr.mono (by decide)) (by rfl) Y.d__law_coin.g Y.d__law_coin.kp Y.d__law_coin.b .nil pass0 (pa_cons (pv 0) (pa_cons (pe_callB (call_lenK K rfl) (by rfl) Y.b.len (by decide +kernel) (pa_cons (pv 12) pa_nil)) pa_nil))) (fun _ _ => rfl)))
      (pss_cons (ps_expr (pe_bm PySem.F.plainAttrs_list PySem.F.slot_list_append PySem.F.type_list_append mt_append (pv 7) (pa_cons (pe_tup (pa_cons (pv 9) (pa_cons (pv 11) (pa_cons (pe_ix (ix_tupK K rfl) (pe_ix (ix_listK K rfl) (pv 6) (pv 13) (fun _ _ => rfl)) pe_int (fun _ _ => rfl)) (pa_cons (pv 13) pa_nil))))) pa_nil)))
      (pss_cons (ps_expr (pe_bm PySem.F.plainAttrs_list PySem.F.slot_list_append PySem.F.type_list_append mt_append (pv 10) (pa_cons (pe_ix (ix_tupK K rfl) (pe_ix (ix_listK K rfl) (pv 6) (pv 13) (fun _ _ => rfl)) pe_int (fun _ _ => rfl)) pa_nil)))
      (pss_one (ps_expr (pe_bm PySem.F.plainAttrs_list PySem.F.slot_list_append PySem.F.type_list_append mt_append (pv 8) (pa_cons (pv 13) pa_nil))))))) pss_nil))))))))
      (pss_one (ps_ret (pv 7))))))), ?_⟩
    obtain ⟨da, dx, rfl, edx, tdx⟩ := hdt.tupV
    obtain ⟨y1, y2, y3, y4, y5, rfl, u1, u2, u3, u4, u5⟩ := TrAll.five tdx
    cases u1
    obtain ⟨aI, xI, rfl, eI, tI⟩ := u3.listV
    obtain ⟨aB, xB, rfl, eB, tB⟩ := u5.listV
    have lI := tI.length
    have lB := tB.length
    rw [List.length_map] at lI lB
    have h10 := hD.t1
    have h01 := hD.t0
    have g3 := hD.g1
    have b14 := hD.bl
    refine ⟨.ref da, rfl, da, _, rfl, SqT.of edx, rfl, _, _, rfl, y2, _, rfl, .ref aI, _, rfl, y4, _, rfl, .ref aB, _, rfl, rfl, ?_⟩
    dsimp only
    refine st_seq (st_asg ⟨len_ok, fun F hF => ?_⟩)
    obtain ⟨k1, e1, t1⟩ := mk_lst hA.al .nil hF
    have A1 := hA.kx k1
    have nF := hA.not hF
    generalize upd H F (.lst []) = H1 at k1 e1 t1 A1 ⊢
    refine st_name ?_
    dsimp only
    refine st_seq (st_asg ⟨len_ok, fun G hG => ?_⟩)
    have A1' : At (Ts ta) (F :: C) p n H1 := A1.cons (by rw [e1]; simp)
    obtain ⟨k2, e2, t2⟩ := mk_lst A1'.al .nil hG
    have A2 : At (Ts ta) (F :: C) p n _ := A1'.kx k2
    have nG := A1'.not hG
    have f2 := k2.lst (by simp) e1
    generalize upd H1 G (.lst []) = H2 at k2 e2 t2 A2 f2 ⊢
    have A2' : At (Ts ta) (G :: F :: C) p n H2 := A2.cons (by rw [e2]; simp)
    refine st_name ?_
    dsimp only
    refine st_seq (st_for ?_)
    have k02 := k1.trans k2
    have u3' := u3.up k02
    have u5' := u5.up k02
    have nGF : G ≠ F := fun e => nG (by rw [e]; exact List.mem_cons_self)
    have nFp : F ≠ p := fun e => nF (e ▸ hA.mem)
    have nGp : G ≠ p := fun e => nG (e ▸ List.mem_cons_of_mem _ hA.mem)
    -- what of the day stays
    have st : ∀ {b : Addr} {d : PyData}, Tr C H (.ref b) d → b ∉ [p, F, G] := fun {b d} t z => by
      simp only [List.mem_cons, List.not_mem_nil, or_false] at z
      rcases z with rfl | rfl | rfl
      · exact t.out hA.mem
      · cases t with
        | lst _ h _ => rw [hF] at h; cases h
        | tup _ h _ => rw [hF] at h; cases h
        | dic _ h => rw [hF] at h; cases h
      · cases t with
        | lst _ h _ => rw [k1.free (by simp) hG] at h; cases h
        | tup _ h _ => rw [k1.free (by simp) hG] at h; cases h
        | dic _ h => rw [k1.free (by simp) hG] at h; cases h
    refine ⟨_, rfl, D.hours, rfl, by omega, by omega, ?_⟩
    refine for_gen (itr_at D.hours.toNat) (B := [p, F, G]) (Iv := fun i σ' H' => (∃ z9 z10 z11 z12 z13, σ' = [some (.ref p), some (.ref da), some (.int D.hours), some y2, some (.ref aI), some y4, some (.ref aB), some (.ref F), some (.ref G), z9, z10, z11, z12, z13, none]) ∧ At (Ts ta) (G :: F :: C) p (n + i * 6) H' ∧
        ∃ ps xs, H' F = some (.lst xs) ∧ TrAll (G :: F :: C) H' xs (ps.map passD) ∧ H' G = some (.lst ((ps.map Pass.block).map V.int)) ∧ Dr D i 0 ps)
      ⟨⟨none, none, none, none, none, rfl⟩, A2', [], [], f2, .nil, e2, Dr.nil D _ _⟩ (fun i σ' H3 hi k3 ⟨⟨z9, z10, z11, z12, z13, e⟩, A3, ps, xs, ef, tf, eg, dr⟩ Nn hN => ?_) fun σ' H3 k3 ⟨⟨z9, z10, z11, z12, z13, e⟩, A3, ps, xs, ef, tf, eg, dr⟩ => ?_
    · subst e
      have hi' : (i : Int) < D.hours := by omega
      have hi10 : i < 10 := by omega
      refine st_name ?_
      dsimp only
      refine st_seq (st_asg ⟨len_ok, fun U hU => ?_⟩)
      obtain ⟨k4, e4, t4⟩ := mk_lst A3.al .nil hU
      have A4 : At (Ts ta) (G :: F :: C) p _ _ := A3.kx k4
      have nU := A3.not hU
      have f4 := k4.lst (by simp) ef
      have g4 := k4.lst (by simp) eg
      have tf4 := tf.up k4
      have tU := avoidAll hU _ _ tf
      have tU4 := tU.up k4
      generalize upd H3 U (.lst []) = H4 at k4 e4 t4 A4 f4 g4 tf4 tU4 ⊢
      have A4' : At (Ts ta) (U :: G :: F :: C) p (n + i * 6) H4 := A4.cons (by rw [e4]; simp)
      have nUF : U ≠ F := fun e => nU (by rw [e]; simp)
      have nUG : U ≠ G := fun e => nU (by rw [e]; simp)
      have nUp : U ≠ p := fun e => nU (by rw [e]; exact List.mem_cons_of_mem _ (List.mem_cons_of_mem _ hA.mem))
      refine st_name ?_
      dsimp only
      refine st_for ?_
      have k24 : Kx [p, F, G] H2 H4 := k3.trans k4.of
      have back : ∀ {H' : Hp}, Kx [p, F, G] H2 H' → Kx [p] H H' := fun k => Kx.weak (k02.of.trans k) fun b hb => by
        simp only [List.mem_cons, List.not_mem_nil, or_false] at hb
        rcases hb with rfl | rfl | rfl
        · exact .inl (by simp)
        · exact .inr hF
        · exact .inr (k1.free (by simp) hG)
      have hU2 : H2 U = none := k3.free (fun z => by
        simp only [List.mem_cons, List.not_mem_nil, or_false] at z
        rcases z with z | z | z
        · exact nUp z
        · exact nUF z
        · exact nUG z) hU
      have backU : ∀ {H' : Hp}, Kx [p, F, G, U] H4 H' → Kx [p, F, G] H2 H' := fun k => Kx.weak (k24.of4.trans k) fun b hb => by
        simp only [List.mem_cons, List.not_mem_nil, or_false] at hb
        rcases hb with rfl | rfl | rfl | rfl
        · exact .inl (by simp)
        · exact .inl (by simp)
        · exact .inl (by simp)
        · exact .inr hU2
      have b4 := hA.tr u5 (back k24)
      obtain ⟨xB4, eB4, _⟩ := b4.items
      have i4 := hA.tr u3 (back k24)
      obtain ⟨xI4, eI4, tI4⟩ := i4.items
      have lI4 := tI4.length
      rw [List.length_map] at lI4
      refine ⟨_, rfl, aI, xI4, rfl, .inl (SqL.of eI4), (D.sights.length : Int), by rw [lI4], by omega, by omega, ?_⟩
      rw [Int.toNat_natCast]
      refine for_gen (itr_at D.sights.length) (B := [p, F, G, U]) (Iv := fun j σ' H' => (∃ z11 z12 z13, σ' = [some (.ref p), some (.ref da), some (.int D.hours), some y2, some (.ref aI), some y4, some (.ref aB), some (.ref F), some (.ref G), some (.int i), some (.ref U), z11, z12, z13, none]) ∧ At (Ts ta) (U :: G :: F :: C) p (n + i * 6 + j * 2) H' ∧
          ∃ ps xs us, H' F = some (.lst xs) ∧ TrAll (U :: G :: F :: C) H' xs (ps.map passD) ∧ H' G = some (.lst ((ps.map Pass.block).map V.int)) ∧ H' U = some (.lst (us.map V.int)) ∧ us.length ≤ j ∧ (∀ q ∈ ps, q.hour = (i : Int) → q.craft ∈ us) ∧ Dr D i j ps)
        ⟨⟨_, _, _, rfl⟩, A4'.mono (by omega), ps, xs, [], f4, tU4, g4, e4, Nat.le_refl _, fun q hq e => by have := dr.lt q hq; have := (passT_of (dr.ok q hq)).2.1; omega, dr⟩ (fun j σ' H5 hj k5 ⟨⟨z11, z12, z13, e⟩, A5, ps, xs, us, ef, tf, eg, eu, lu, hu, dr⟩ Nm hNm => ?_) fun σ' H5 k5 ⟨⟨z11, z12, z13, e⟩, A5, ps, xs, us, ef, tf, eg, eu, lu, hu, dr⟩ => ?_
      · subst e
        have k05 := back (backU k5)
        have b5 := hA.tr u5 k05
        have i5 := hA.tr u3 k05
        obtain ⟨xB5, eB5, tB5⟩ := b5.items
        have lB5 := tB5.length
        rw [List.length_map] at lB5
        refine st_name ?_
        dsimp only
        refine st_set (lc_use ?_)
        refine ⟨_, rfl, aB, xB5, rfl, .inl (SqL.of eB5), (D.blocks.length : Int), by rw [lB5], by omega, by omega, ?_⟩
        rw [Int.toNat_natCast]
        refine lc_range (fun m => !((ps.map Pass.block).contains (m : Int)) && (heardAt D j i).contains (blkAt D m).craft) (by unfold sizeLine; omega) (fun m H6 hm k6 R R0 hR hR0 => ?_) fun D1 H6 k6 hD1 eD1 => ?_
        · refine ⟨rfl, .int m, rfl, .ref G, rfl, G, _, rfl, .inl (SqL.of (k6.lst (by simp) eg)), rfl, flat_ints _, ?_⟩
          rw [if_pos rfl, inV_ints]
          refine ⟨_, rfl, ?_⟩
          cases c1 : (ps.map Pass.block).contains (m : Int) with
          | true => exact iteF (hR0 (by rw [c1]; rfl) H6 (Kx.refl _))
          | false =>
          obtain ⟨xB6, bA, b1, b4, eB6, a6, eb6, -, -⟩ := blk_ix (b5.up k6) (n := (m : Int)) (by omega) (by omega)
          obtain ⟨xI6, gA, gx, rA, eI6, at1, eg6, at2, er6⟩ := row_ix hD (i5.up k6) (d := (j : Int)) (h := (i : Int)) (by omega) (by omega) (by omega) hi'
          refine iteT ⟨.ref aB, rfl, .int m, rfl, aB, xB6, m, .ref bA, rfl, rfl, SqL.of eB6, a6, bA, _, 1, _, rfl, rfl, SqT.of eb6, rfl, .ref aI, rfl, .int j, rfl, aI, xI6, j, .ref gA, rfl, rfl, SqL.of eI6, at1, .int i, rfl, gA, gx, i, .ref rA, rfl, rfl, SqL.of eg6, at2, rA, _, rfl, .inl (SqL.of er6), rfl, flat_ints _, ?_⟩
          rw [if_neg (by decide), inV_ints]
          refine ⟨_, rfl, ite2 (fun c => ⟨.int m, rfl, hR (by rw [c1, c]; rfl) H6 (Kx.refl _)⟩) (fun c => hR0 (by rw [c1, notE' c]; rfl) H6 (Kx.refl _))⟩
        · obtain ⟨ns1, en1, hns1⟩ : ∃ ns1 : List Int, (((List.range D.blocks.length).filter fun m : Nat => !((ps.map Pass.block).contains (m : Int)) && (heardAt D j i).contains (blkAt D (m : Int)).craft).map fun i : Nat => (i : Int)) = ns1 ∧ (∀ x ∈ ns1, ∃ m : Nat, x = (m : Int) ∧ m < D.blocks.length ∧ x ∉ ps.map Pass.block ∧ (blkAt D x).craft ∈ heardAt D j i) := by
            refine ⟨_, rfl, fun x hx => ?_⟩
            obtain ⟨m, hm, rfl⟩ := List.mem_map.mp hx
            obtain ⟨h1, h2⟩ := List.mem_filter.mp hm
            rw [Bool.and_eq_true] at h2
            refine ⟨m, rfl, List.mem_range.mp h1, fun z => ?_, List.contains_iff_mem.mp h2.2⟩
            rw [List.contains_iff_mem.mpr z] at h2
            cases h2.1
          have ln1 : ns1.length ≤ 14 := by
            rw [← en1, List.length_map]
            exact Nat.le_trans (List.length_filter_le _ _) (by rw [List.length_range]; exact b14)
          rw [en1] at eD1
          clear en1
          refine st_set (lc_use ?_)
          refine ⟨.ref D1, rfl, D1, rfl, ⟨_, SqL.of eD1⟩, ?_⟩
          refine lc_filtI (fun x => !(us.contains (blkAt D x).craft) && mayB (blkAt D x) i) eD1 (by unfold sizeLine; omega) (fun x H7 hx k7 R R0 hR hR0 => ?_) fun D2 H7 k7 hD2 eD2 => ?_
          · obtain ⟨m, rfl, hm, hx2, hx3⟩ := hns1 x hx
            obtain ⟨xB7, bA, b1, b4, eB7, a7, eb7, -, tb7⟩ := blk_ix (b5.up (k6.trans k7)) (n := (m : Int)) (by omega) (by omega)
            refine ⟨rfl, .ref aB, rfl, .int m, rfl, aB, xB7, m, .ref bA, rfl, rfl, SqL.of eB7, a7, bA, _, 1, _, rfl, rfl, SqT.of eb7, rfl, .ref U, rfl, U, _, rfl, .inl (SqL.of ((k6.trans k7).lst (by simp) eu)), rfl, flat_ints _, ?_⟩
            rw [if_pos rfl, inV_ints]
            refine ⟨_, rfl, ?_⟩
            cases c1 : us.contains (blkAt D m).craft with
            | true => exact iteF (hR0 (by rw [c1]; rfl) H7 (Kx.refl _))
            | false =>
            refine iteT ⟨.ref aB, rfl, .int m, rfl, aB, xB7, m, .ref bA, rfl, rfl, SqL.of eB7, a7, .int i, rfl, .ref bA, blkAt D m, i, rfl, tb7.nil, _, rfl, ?_⟩
            refine ite2 (fun c => ⟨.int m, rfl, hR (by rw [c1, c]; rfl) H7 (Kx.refl _)⟩) (fun c => hR0 (by rw [c1, notE' c]; rfl) H7 (Kx.refl _))
          · have hns2 : ∀ x ∈ ns1.filter (fun x => !(us.contains (blkAt D x).craft) && mayB (blkAt D x) i), x ∈ ns1 ∧ (blkAt D x).craft ∉ us ∧ mayB (blkAt D x) i = true := fun x hx => by
              obtain ⟨h1, h2⟩ := List.mem_filter.mp hx
              rw [Bool.and_eq_true] at h2
              refine ⟨h1, fun z => ?_, h2.2⟩
              rw [List.contains_iff_mem.mpr z] at h2
              cases h2.1
            have ln2 : (ns1.filter (fun x => !(us.contains (blkAt D x).craft) && mayB (blkAt D x) i)).length ≤ 14 := Nat.le_trans (List.length_filter_le _ _) ln1
            generalize ns1.filter (fun x => !(us.contains (blkAt D x).craft) && mayB (blkAt D x) i) = ns2 at eD2 hns2 ln2
            have k57 := k6.trans k7
            have A7 := A5.kx k57
            have ef7 := k57.lst (by simp) ef
            have eg7 := k57.lst (by simp) eg
            have eu7 := k57.lst (by simp) eu
            have tf7 := tf.up k57
            have k47 := k5.trans k57.of
            refine st_ifs ⟨.ref D2, rfl, len_ok, fun N hN' => ?_⟩
            have k8 : Kx [] H7 (upd H7 N (.lst [])) := Kx.new hN'
            have eN8 : upd H7 N (.lst []) N = some (.lst []) := upd_same
            generalize upd H7 N (.lst []) = H8 at k8 eN8 ⊢
            have A8 := A7.kx k8
            have eD8 := k8.lst (by simp) eD2
            refine ⟨D2, N, _, rfl, rfl, eD8, eN8, _, rfl, ?_⟩
            have k48 := k47.trans k8.of
            have skip : ∀ {H' : Hp} {z12 z13 : Option V}, Kx [p, F, G, U] H7 H' → (∀ {b : Addr} {xs : List V}, b ≠ p → H7 b = some (.lst xs) → H' b = some (.lst xs)) → TrAll (U :: G :: F :: C) H' xs (ps.map passD) → At (Ts ta) (U :: G :: F :: C) p (n + i * 6 + (j + 1) * 2) H' →
                Nm [some (.ref p), some (.ref da), some (.int D.hours), some y2, some (.ref aI), some y4, some (.ref aB), some (.ref F), some (.ref G), some (.int i), some (.ref U), some (.int j), z12, z13, none] H' := fun {H' z12 z13} k st t A => by
              refine hNm _ _ (k47.trans k) ⟨⟨_, _, _, rfl⟩, A, ps, xs, us, st nFp ef7, t, st nGp eg7, st nUp eu7, by omega, hu, ?_⟩
              have := dr.skip
              rw [show ((j + 1 : Nat) : Int) = (j : Int) + 1 by omega]
              exact this
            cases hemp : (ns2.map V.int).isEmpty with
            | true => exact iteF (iteF (skip k8.of (fun _ e => k8.lst (by simp) e) (tf7.up k8) (A8.mono (by omega))))
            | false =>
            have hne : 0 < ns2.length := by
              cases ns2 with
              | nil => cases hemp
              | cons x r => simp
            refine iteT ⟨.ref p, rfl, p, _, 4, _, rfl, by decide, by decide, by omega, A8, fun r H9 r0 r1 k9 A9 => ⟨_, _, rfl, rfl, _, rfl, ite2 (fun _ => ?_) (fun _ => ?_)⟩⟩
            · have eD9 := k9.lst (A5.kx k6 |>.nep hD2) eD8
              refine st_set ⟨.ref D2, rfl, .ref p, rfl, .ref D2, rfl, D2, _, rfl, .inl (SqL.of eD9), p, _, (ns2.length : Int), _, by rw [List.length_map]; rfl, by omega, by omega, by omega, A9, fun r2 H10 s0 s1 k10 A10 => ?_⟩
              have eD10 := k10.lst (A5.kx k6 |>.nep hD2) eD9
              obtain ⟨nn, a10, m10⟩ := pickI s0 s1
              obtain ⟨m1, m2, m3⟩ := hns2 nn m10
              obtain ⟨m, em, hm, x2, x3⟩ := hns1 nn m1
              have n0 : 0 ≤ nn := by omega
              have n1 : nn < (D.blocks.length : Int) := by omega
              refine ⟨D2, _, r2, .int nn, rfl, rfl, SqL.of eD10, a10, ?_⟩
              have k710 : Kx [p] H7 H10 := k8.of.trans (k9.trans k10)
              have k010 : Kx [p] H H10 := (back (backU (k47))).trans k710
              have b10 := hA.tr u5 k010
              obtain ⟨xB10, bA, b1, b4', eB10, aB10, eb10, -, -⟩ := blk_ix b10 n0 n1
              have ef10 := k710.lst (by simpa using nFp) ef7
              have eg10 := k710.lst (by simpa using nGp) eg7
              have eu10 := k710.lst (by simpa using nUp) eu7
              have tf10 := A7.trs tf7 k710
              have lx := tf.length
              rw [List.length_map] at lx
              have lps := dr.len
              refine st_seq ⟨.ref F, rfl, .inl ⟨rfl, _, SqL.of ef10⟩, .int i, rfl, .int j, rfl, .ref aB, rfl, .int nn, rfl, aB, xB10, nn, .ref bA, rfl, rfl, SqL.of eB10, aB10, bA, _, 1, _, rfl, rfl, SqT.of eb10, rfl, .int nn, rfl, len_ok, fun T hT => ?_⟩
              obtain ⟨k11, e11, t11⟩ := mk_tup (ds := [.int i, .int j, .int (blkAt D nn).craft, .int nn]) A10.al (.cons (.int _) (.cons (.int _) (.cons (.int _) (.cons (.int _) .nil)))) hT
              have A11 := A10.kx k11
              have ef11 := k11.lst (by simp) ef10
              have eg11 := k11.lst (by simp) eg10
              have eu11 := k11.lst (by simp) eu10
              have tf11 := tf10.up k11
              have b11 := b10.up k11
              generalize upd H10 T (.tup [V.int i, V.int j, V.int (blkAt D nn).craft, V.int nn]) = H11 at k11 e11 t11 A11 ef11 eg11 eu11 tf11 b11 ⊢
              refine ⟨F, xs, .ref T, rfl, rfl, ef11, by unfold sizeLine; omega, ?_⟩
              have k12 : Kx [F] H11 (upd H11 F (.lst (xs ++ [.ref T]))) := Kx.put (by simp)
              have A12 : At (Ts ta) (U :: G :: F :: C) p _ (upd H11 F (.lst (xs ++ [.ref T]))) := A11.set ef11 nFp
              have tf12 := TrAll.kx (B := U :: G :: F :: C) k12 (fun b hb => by rw [List.mem_singleton.mp hb]; simp) _ _ (tf11.snoc t11)
              have ef12 : upd H11 F (.lst (xs ++ [.ref T])) F = some (.lst (xs ++ [.ref T])) := upd_same
              have eg12 := k12.lst (by simpa using nGF) eg11
              have eu12 := k12.lst (by simpa using nUF) eu11
              have k412 : Kx [p, F, G, U] H4 (upd H11 F (.lst (xs ++ [.ref T]))) := k47.trans ((k710.sub (by simp)).trans (k11.of.trans (k12.sub (by simp))))
              generalize upd H11 F (.lst (xs ++ [.ref T])) = H12 at k12 A12 tf12 ef12 eg12 eu12 k412 ⊢
              obtain ⟨xB12, bA2, c1, c4, eB12, aB12, eb12, -, -⟩ := blk_ix (hA.tr u5 (back (backU k412))) n0 n1
              dsimp only
              refine st_seq ⟨.ref U, rfl, .inl ⟨rfl, _, SqL.of eu12⟩, .ref aB, rfl, .int nn, rfl, aB, xB12, nn, .ref bA2, rfl, rfl, SqL.of eB12, aB12, bA2, _, 1, _, rfl, rfl, SqT.of eb12, rfl, U, _, _, rfl, rfl, eu12, by rw [List.length_map]; unfold sizeLine; omega, ?_⟩
              have k13 : Kx [U] H12 (upd H12 U (.lst (us.map V.int ++ [.int (blkAt D nn).craft]))) := Kx.put (by simp)
              have A13 : At (Ts ta) (U :: G :: F :: C) p _ (upd H12 U (.lst (us.map V.int ++ [.int (blkAt D nn).craft]))) := A12.set eu12 nUp
              have tf13 := TrAll.kx (B := U :: G :: F :: C) k13 (fun b hb => by rw [List.mem_singleton.mp hb]; simp) _ _ tf12
              have eu13 : upd H12 U (.lst (us.map V.int ++ [.int (blkAt D nn).craft])) U = some (.lst (us.map V.int ++ [.int (blkAt D nn).craft])) := upd_same
              have ef13 := k13.lst (by simpa using Ne.symm nUF) ef12
              have eg13 := k13.lst (by simpa using Ne.symm nUG) eg12
              generalize upd H12 U (.lst (us.map V.int ++ [.int (blkAt D nn).craft])) = H13 at k13 A13 tf13 eu13 ef13 eg13 ⊢
              refine ⟨.ref G, rfl, .inl ⟨rfl, _, SqL.of eg13⟩, .int nn, rfl, G, _, _, rfl, rfl, eg13, by rw [List.length_map, List.length_map]; unfold sizeLine; omega, ?_⟩
              have k14 : Kx [G] H13 (upd H13 G (.lst ((ps.map Pass.block).map V.int ++ [.int nn]))) := Kx.put (by simp)
              have A14 : At (Ts ta) (U :: G :: F :: C) p _ (upd H13 G (.lst ((ps.map Pass.block).map V.int ++ [.int nn]))) := A13.set eg13 nGp
              have tf14 := TrAll.kx (B := U :: G :: F :: C) k14 (fun b hb => by rw [List.mem_singleton.mp hb]; simp) _ _ tf13
              have eg14 : upd H13 G (.lst ((ps.map Pass.block).map V.int ++ [.int nn])) G = some (.lst ((ps.map Pass.block).map V.int ++ [.int nn])) := upd_same
              have ef14 := k14.lst (by simpa using Ne.symm nGF) ef13
              have eu14 := k14.lst (by simpa using nUG) eu13
              generalize upd H13 G (.lst ((ps.map Pass.block).map V.int ++ [.int nn])) = H14 at k14 A14 tf14 eg14 ef14 eu14 ⊢
              refine hNm _ _ (k412.trans ((k13.sub (by simp)).trans (k14.sub (by simp)))) ⟨⟨_, _, _, rfl⟩, A14.mono (by omega), ps ++ [⟨i, j, (blkAt D nn).craft, nn⟩], xs ++ [.ref T], us ++ [(blkAt D nn).craft], ef14, ?_, ?_, ?_, ?_, ?_, ?_⟩
              · rw [List.map_append]; exact tf14
              · rw [List.map_append, List.map_append]; exact eg14
              · rw [List.map_append]; exact eu14
              · rw [List.length_append]; exact Nat.succ_le_succ lu
              · intro q' hq' hh'
                rcases List.mem_append.mp hq' with z | z
                · exact List.mem_append_left _ (hu q' z hh')
                · rw [List.mem_singleton.mp z]
                  exact List.mem_append_right _ (by simp)
              · have hbk := blkAt_ok hD n0 n1
                have := Dr.add (p := ⟨i, j, (blkAt D nn).craft, nn⟩) dr (passT_mk ⟨by show (0 : Int) ≤ i; omega, hi'⟩ ⟨by show (0 : Int) ≤ j; omega, by show (j : Int) < _; omega⟩ ⟨hbk.c0, hbk.c1⟩ ⟨n0, n1⟩ x3 rfl m3) (fun q' hq' hh' e => m2 (by have := hu q' hq' hh'; rw [show q'.craft = (blkAt D nn).craft from e] at this; exact this)) x2
                rw [show ((j + 1 : Nat) : Int) = (j : Int) + 1 by omega]
                exact this
            · exact skip (k8.of.trans (k9.sub (by simp))) (fun np e => k9.lst (by simpa using np) (k8.lst (by simp) e)) (A8.trs (tf7.up k8) k9) (A9.mono (by omega))
      · subst e
        refine hN _ _ (backU k5) ⟨⟨_, _, _, _, _, rfl⟩, (A5.mono (by omega)).less (fun c hc => List.mem_cons_of_mem _ hc) (by simp [hA.mem]), ps, xs, ef, TrAll.less (fun b hb => List.mem_cons_of_mem _ hb) _ _ tf, eg, ?_⟩
        have := dr.next
        rw [show ((i + 1 : Nat) : Int) = (i : Int) + 1 by omega]
        exact this
    · subst e
      refine ⟨_, rfl, q F ps H3 ?_ ((A3.mono (by omega)).less (fun c hc => by simp [hc]) hA.mem) (.lst nF ef (TrAll.less (fun b hb => by simp [hb]) _ _ tf)) ?_⟩
      · refine Kx.weak (k02.of.trans k3) fun b hb => ?_
        simp only [List.mem_cons, List.not_mem_nil, or_false] at hb
        rcases hb with rfl | rfl | rfl
        · exact .inl (by simp)
        · exact .inr hF
        · exact .inr (k1.free (by simp) hG)
      · rw [show ((D.hours.toNat : Nat) : Int) = D.hours by omega] at dr
        exact dr
end
end Law

set_option Elab.async false
set_option linter.all false
set_option maxRecDepth 100000
set_option maxHeartbeats 4000000
namespace Law
open PySem PySem.Spec PyProof.Rows L2 GxR GX Tree Kit Data Loops Loops2 Comps Purse Day SetG SetL Lit Sets
section
variable {P : Program} {w : World} {K : PySem.W.Frag} {mg : Str → Option Value} {base : Heap} {fa : String → Addr} {fd : String → FuncData} {ca ta : String → Addr}
/-! ### what a craft keeps beyond its store -/
theorem filter_passes (ps : List Pass) (f : Pass → Bool) : (ps.map passD).filter (fun d => f (passOf d)) = (ps.filter f).map passD := by
  induction ps with
  | nil => rfl
  | cons p r ih =>
    rw [List.map_cons, List.filter_cons, List.filter_cons, passOf_D]
    cases f p <;> simp [ih]
/-- the store of a craft holds what it keeps at an hour -/
def Fits (D : Dy) (ps : List Pass) (h c : Nat) : Prop := ((keptL D ps c h).length : Int) ≤ D.stores.getD c 0
theorem fitB_of {D : Dy} {ps : List Pass} (h : ∀ t, t < D.hours.toNat → ∀ c, c < D.stores.length → Fits D ps t c) : fitB D ps = true :=
  List.all_eq_true.mpr fun c hc => List.all_eq_true.mpr fun t ht => decide_eq_true (h t (List.mem_range.mp ht) c (List.mem_range.mp hc))
def over1 (D : Dy) (h c : Int) (p : Pass) : Bool := decide (p.craft = c) && ((blkAt D p.block).due.isNone && decide (h < p.hour))
def over2 (D : Dy) (h : Int) (p : Pass) : Bool := decide ((blkAt D p.block).ready ≤ h)
theorem over_kept (D : Dy) (ps : List Pass) (h c : Int) : ((ps.filter (over1 D h c)).filter (over2 D h)).length = (keptL D ps c h).length := by
  unfold keptL
  rw [List.filter_filter, List.length_map]
  congr 1
  refine List.filter_congr fun p _ => ?_
  unfold over1 over2 keeps
  cases decide (p.craft = c) <;> cases (blkAt D p.block).due.isNone <;> cases decide ((blkAt D p.block).ready ≤ h) <;> cases decide (h < p.hour) <;> rfl
/-- a pass among trees, its parts -/
theorem pass_tr {B : List Addr} {H : Hp} {x : V} {p : Pass} (t : Tr B H x (passD p)) : ∃ a, x = .ref a ∧ H a = some (.tup [.int p.hour, .int p.dish, .int p.craft, .int p.block]) := by
  obtain ⟨at_, ax, rfl, eat, tax⟩ := t.tupV
  obtain ⟨w1, w2, w3, w4, rfl, t1, t2, t3, t4⟩ := TrAll.four tax
  cases t1
  cases t2
  cases t3
  cases t4
  exact ⟨at_, rfl, eat⟩
def sp_law_over : Sp := fun vs H Q _ => ∃ (C : List Addr) (dv : V) (D : Dy) (pa : Addr) (ps : List Pass), vs = [dv, .ref pa] ∧ (∀ c ∈ C, H c ≠ none) ∧ Tr C H dv (dayD D) ∧ DyOk D ∧ Tr C H (.ref pa) (.list (ps.map passD)) ∧ ps.length ≤ 100 ∧ InB D ps ∧
  ∀ (F : Addr) (os : List Pass) (H' : Hp), Kx [] H H' → Tr C H' (.ref F) (.list (os.map passD)) → ((os = [] ∧ fitB D ps = true) ∨ (os ≠ [] ∧ List.Sublist os ps ∧ fitB D ps = false)) → Q (.ref F) H'
theorem ok__law_over (Y : Facts K mg base fa fd ca ta) : FnOk P w K mg base CX0 1 (fa "_law_over") (fd "_law_over") ["day", "passes"] sp_law_over := by
  refine Y.d__law_over.ok sc__law_over (fun vs H Q E h => ?_) (fun cdv A outer s H vs Q E hcd hr h => ?_)
  · obtain ⟨C, dv, D, pa, ps, rfl, _⟩ := h; rfl
  · obtain ⟨C, dv, D, pa, ps, rfl, al, hdt, hD, hpt, hl, hb, q⟩ := h
    refine ⟨_, (pss_cons (ps_asg (pv 0) (pg_tupK (n := 5) K rfl rfl (pgs_cons (pg_name (i := 2) sc__law_over.nd rfl (by first | exact Or.inl rfl | exact Or.inr rfl)) (pgs_cons (pg_name (i := 3) sc__law_over.nd rfl (by first | exact Or.inl rfl | exact Or.inr rfl)) (pgs_cons (pg_name (i := 4) sc__law_over.nd rfl (by first | exact Or.inl rfl | exact Or.inr rfl)) (pgs_cons (pg_name (i := 5) sc__law_over.nd rfl (by first | exact Or.inl rfl | exact Or.inr rfl)) (pgs_cons (pg_name (i := 6) sc__law_over.nd rfl (by first | exact Or.inl rfl | exact Or.inr rfl)) pgs_nil)))))))
      (pss_cons (ps_for PassesOwn.never rfl (pi_range1 (by rfl) Y.b.range (pa_cons (pv 2) pa_nil)) (pg_name (i := 7) sc__law_over.nd rfl (by first | exact Or.inl rfl | exact Or.inr rfl)) (pss_one (ps_for PassesOwn.never rfl (pi_range1 (by rfl) Y.b.range (pa_cons (pe_callB (call_lenK K rfl) (by rfl) Y.b.len (by decide +kernel) (pa_cons (pv 3) pa_nil)) pa_nil)) (pg_name (i := 8) sc__law_over.nd rfl (by first | exact Or.inl rfl | exact Or.inr rfl)) (pss_cons (ps_setLc (i := 9) (own := [("one", 10)]) (g := gName 10) rfl sc__law_over.nd rfl rfl (sw_true rfl rfl rfl (by decide +kernel)) (pi_listK K rfl (pv 1)) (blkOk_by (N := ["day", "passes", "hours", "stores", "sights", "asks", "blocks", "hour", "craft", "some", "one"]) (sc := defScope s__law_over) (by decide +kernel)) (fun _ _ _ _ _ => (pg_name (i := 10) sc__law_over.nd rfl (by first | exact Or.inl rfl | exact Or.inr rfl))) (fun _ _ _ _ _ => (pts_one ((pw_and (pt_cmpR op_eq (pe_ix (ix_tupK K rfl) (pv 10) pe_int (fun _ _ => rfl)) (pv 8) (nomark _)) (pw_and (pt_cmpR op_isN (pe_ix (ix_tupK K rfl) (pe_ix (ix_listK K rfl) (pv 6) (pe_ix (ix_tupK K rfl) (pv 10) pe_int (fun _ _ => rfl)) (fun _ _ => rfl)) pe_int (fun _ _ => rfl)) pe_non (nomark _)) (pw_and1 (pt_cmpR op_gt (pe_ix (ix_tupK K rfl) (pv 10) pe_int (fun _ _ => rfl)) (pv 7) (nomark _)))))).pt)) (fun _ _ _ _ _ => (pv 10)))
      (pss_cons (ps_setLc (i := 9) (own := [("one", 10)]) (g := gName 10) rfl sc__law_over.nd rfl rfl (sw_true rfl rfl rfl (by decide +kernel)) (pi_listK K rfl (pv 9)) (blkOk_by (N := ["day", "passes", "hours", "stores", "sights", "asks", "blocks", "hour", "craft", "some", "one"]) (sc := defScope s__law_over) (by decide +kernel)) (fun _ _ _ _ _ => (pg_name (i := 10) sc__law_over.nd rfl (by first | exact Or.inl rfl | exact Or.inr rfl))) (fun _ _ _ _ _ => (pts_one (pt_cmpR op_le (pe_ix (ix_tupK K rfl) (pe_ix (ix_listK K rfl) (pv 6) (pe_ix (ix_tupK K rfl) (pv 10) pe_int (fun _ _ => rfl)) (fun _ _ => rfl)) pe_int (fun _ _ => rfl)) (pv 7) (nomark _)))) (fun _ _ _ _ _ => (pv 10)))
      (pss_one (ps_if (pt_cmpR op_gt (pe_callB (call_lenK K rfl) (by rfl) Y.b.len (by decide +kernel) (pa_cons (pv 9) pa_nil)) (pe_ix (ix_listK K rfl) (pv 3) (pv 8) (fun _ _ => rfl)) (nomark _)) (pss_one (ps_ret (pv 9))) pss_nil)))))))
      (pss_one (ps_ret (pe_lst pa_nil))))), ?_⟩
    obtain ⟨da, dx, rfl, edx, tdx⟩ := hdt.tupV
    obtain ⟨y1, y2, y3, y4, y5, rfl, u1, u2, u3, u4, u5⟩ := TrAll.five tdx
    cases u1
    obtain ⟨aS, xS, rfl, eS, tS⟩ := u2.listV
    have exS := TrAll.intsV tS.nilB (by rw [ints_back])
    rw [ints_back] at exS
    subst exS
    obtain ⟨aB, xB, rfl, eB, tB⟩ := u5.listV
    have h10 := hD.t1
    have h01 := hD.t0
    have s4 := hD.s1
    refine ⟨.ref da, rfl, da, _, rfl, SqT.of edx, rfl, _, _, rfl, .ref aS, _, rfl, y3, _, rfl, y4, _, rfl, .ref aB, _, rfl, rfl, ?_⟩
    dsimp only
    refine st_seq (st_for ?_)
    refine ⟨_, rfl, D.hours, rfl, by omega, by omega, ?_⟩
    refine for_gen (itr_at D.hours.toNat) (B := []) (Iv := fun i σ' H' => (∃ z7 z8 z9, σ' = [some (.ref da), some (.ref pa), some (.int D.hours), some (.ref aS), some y3, some y4, some (.ref aB), z7, z8, z9, none]) ∧ ∀ t, t < i → ∀ c, c < D.stores.length → Fits D ps t c)
      ⟨⟨none, none, none, rfl⟩, fun t ht => absurd ht (Nat.not_lt_zero _)⟩ (fun i σ' H1 hi k1 ⟨⟨z7, z8, z9, e⟩, hf⟩ Nn hN => ?_) fun σ' H1 k1 ⟨⟨z7, z8, z9, e⟩, hf⟩ => ?_
    · subst e
      refine st_name ?_
      dsimp only
      refine st_for ?_
      refine ⟨_, rfl, aS, _, rfl, .inl (SqL.of (k1.lst (by simp) eS)), (D.stores.length : Int), by rw [List.length_map], by omega, by omega, ?_⟩
      rw [Int.toNat_natCast]
      refine for_gen (itr_at D.stores.length) (B := []) (Iv := fun j σ' H' => (∃ z8 z9, σ' = [some (.ref da), some (.ref pa), some (.int D.hours), some (.ref aS), some y3, some y4, some (.ref aB), some (.int i), z8, z9, none]) ∧ ∀ c, c < j → Fits D ps i c)
        ⟨⟨_, _, rfl⟩, fun c hc => absurd hc (Nat.not_lt_zero _)⟩ (fun j σ' H2 hj k2 ⟨⟨z8, z9, e⟩, hf2⟩ Nm hNm => ?_) fun σ' H2 k2 ⟨⟨z8, z9, e⟩, hf2⟩ => ?_
      · subst e
        have k02 := k1.trans k2
        have pt2 := hpt.up k02
        have al2 := al_up al k02
        obtain ⟨xp, ep, tp⟩ := pt2.items
        refine st_name ?_
        dsimp only
        refine st_set (lc_use ?_)
        refine ⟨.ref pa, rfl, pa, rfl, ⟨xp, SqL.of ep⟩, ?_⟩
        refine lc_filtC (C := C) (fun d => over1 D i j (passOf d)) al2 ep tp (by rw [List.length_map]; unfold sizeLine; omega) (fun x d H3 hd t k3 R R0 hR hR0 => ?_) fun D1 H3 k3 hD1 t3 => ?_
        · obtain ⟨p, hp, rfl⟩ := List.mem_map.mp hd
          obtain ⟨at_, rfl, eat⟩ := pass_tr t
          have hbk := hb p hp
          rw [passOf_D] at hR hR0
          obtain ⟨xB3, bA, b1, b4, eB3, a3, eb3, f4, -⟩ := blk_ix (u5.up (k02.trans k3)) hbk.1 hbk.2
          refine ⟨rfl, ?_⟩
          have no : over1 D i j p = false → R0 H3 := fun z => hR0 z H3 (Kx.refl _)
          have kd : over1 D i j p = (decide (p.craft = j) && ((blkAt D p.block).due.isNone && decide ((i : Int) < p.hour))) := rfl
          refine ⟨.ref at_, rfl, at_, _, 2, _, rfl, rfl, SqT.of eat, rfl, .int j, rfl, rfl, _, rfl, ?_⟩
          rw [eqV_int]
          cases c1 : decide (p.craft = (j : Int)) with
          | false => exact iteF (no (by rw [kd, c1]; rfl))
          | true =>
          refine iteT ⟨.ref aB, rfl, .ref at_, rfl, at_, _, 3, _, rfl, rfl, SqT.of eat, rfl, aB, xB3, p.block, .ref bA, rfl, rfl, SqL.of eB3, a3, bA, _, 3, b4, rfl, rfl, SqT.of eb3, rfl, rfl, _, rfl, ?_⟩
          have c2 : decide (b4 = V.non) = (blkAt D p.block).due.isNone := by
            rw [isNone_v f4]
            show isNone (optD (blkAt D p.block).due) = _
            cases (blkAt D p.block).due <;> rfl
          rw [c2]
          cases c3 : (blkAt D p.block).due.isNone with
          | false => exact iteF (no (by rw [kd, c1, c3]; rfl))
          | true =>
          refine iteT ⟨.ref at_, rfl, at_, _, 0, _, rfl, rfl, SqT.of eat, rfl, .int i, rfl, _, _, rfl, rfl, _, rfl, ?_⟩
          exact ite2 (fun c => ⟨.ref at_, rfl, hR (by rw [kd, c1, c3]; exact c) H3 (Kx.refl _)⟩) (fun c => no (by rw [kd, c1, c3]; exact notE' c))
        · rw [filter_passes] at t3
          have hb0 : List.Sublist (ps.filter (over1 D i j)) ps := List.filter_sublist
          have hb1 : ∀ p ∈ ps.filter (over1 D i j), p ∈ ps := fun p hp => (List.mem_filter.mp hp).1
          have l1 : (ps.filter (over1 D i j)).length ≤ 100 := Nat.le_trans (List.length_filter_le _ _) hl
          have ok := over_kept D ps i j
          generalize ps.filter (over1 D i j) = qs at t3 hb0 hb1 l1 ok
          obtain ⟨xq, eq_, tq⟩ := t3.items
          have k03 := k02.trans k3
          refine st_set (lc_use ?_)
          refine ⟨.ref D1, rfl, D1, rfl, ⟨xq, SqL.of eq_⟩, ?_⟩
          refine lc_filtC (C := C) (fun d => over2 D i (passOf d)) (al_up al k03) eq_ tq (by rw [List.length_map]; unfold sizeLine; omega) (fun x d H4 hd t k4 R R0 hR hR0 => ?_) fun D2 H4 k4 hD2 t4 => ?_
          · obtain ⟨p, hp, rfl⟩ := List.mem_map.mp hd
            obtain ⟨at_, rfl, eat⟩ := pass_tr t
            have hbk := hb p (hb1 p hp)
            rw [passOf_D] at hR hR0
            obtain ⟨xB3, bA, b1, b4, eB3, a3, eb3, f4, -⟩ := blk_ix (u5.up (k03.trans k4)) hbk.1 hbk.2
            refine ⟨rfl, .ref aB, rfl, .ref at_, rfl, at_, _, 3, _, rfl, rfl, SqT.of eat, rfl, aB, xB3, p.block, .ref bA, rfl, rfl, SqL.of eB3, a3, bA, _, 2, _, rfl, rfl, SqT.of eb3, rfl, .int i, rfl, _, _, rfl, rfl, _, rfl, ?_⟩
            exact ite2 (fun c => ⟨.ref at_, rfl, hR c H4 (Kx.refl _)⟩) (fun c => hR0 (notE' c) H4 (Kx.refl _))
          · rw [filter_passes] at t4
            have hb2 : List.Sublist (qs.filter (over2 D i)) ps := List.filter_sublist.trans hb0
            generalize qs.filter (over2 D i) = os at t4 hb2 ok
            have k04 := k03.trans k4
            obtain ⟨xo, eo, to⟩ := t4.items
            have lo := to.length
            rw [List.length_map] at lo
            have hst : j < D.stores.length := hj
            refine st_ifs ⟨.ref D2, rfl, D2, xo, rfl, .inl (SqL.of eo), .ref aS, rfl, .int j, rfl, aS, _, j, _, rfl, rfl, SqL.of (k04.lst (by simp) eS), atI_nat (by rw [List.getElem?_map, List.getElem?_eq_getElem hst]; rfl), _, _, rfl, rfl, _, rfl, ?_⟩
            have fit : Fits D ps i j ↔ ((os.length : Int) ≤ D.stores[j]) := by
              unfold Fits
              rw [← ok, getD_at _ _ hst]
            refine ite2 (fun c => ?_) (fun c => ?_)
            · have c := of_decide_eq_true c
              refine ⟨_, rfl, q D2 os H4 k04 t4 (.inr ⟨fun z => ?_, hb2, ?_⟩)⟩
              · rw [z] at lo
                have := hD.sb _ (List.getElem_mem hst)
                simp at lo
                rw [lo] at c
                simp at c
                omega
              · rw [Bool.eq_false_iff]
                intro z
                have z1 := List.all_eq_true.mp z j (List.mem_range.mpr hst)
                have z2 := of_decide_eq_true (List.all_eq_true.mp z1 i (List.mem_range.mpr hi))
                have := fit.mp z2
                omega
            · have c := of_decide_eq_false (notE' c)
              refine hNm _ _ (k2.trans (k3.trans k4)) ⟨⟨_, _, rfl⟩, fun c' hc' => ?_⟩
              rcases Nat.lt_or_eq_of_le (Nat.le_of_lt_succ hc') with h | h
              · exact hf2 c' h
              · rw [h, fit]
                omega
      · subst e
        exact hN _ _ (k1.trans k2) ⟨⟨_, _, _, rfl⟩, fun t ht c hc => by
          rcases Nat.lt_or_eq_of_le (Nat.le_of_lt_succ ht) with h | h
          · exact hf t h c hc
          · rw [h]; exact hf2 c hc⟩
    · subst e
      dsimp only
      refine st_ret ⟨len_ok, fun F hF => ?_⟩
      obtain ⟨k2, e2, t2⟩ := mk_lst (al_up al k1) .nil hF
      exact q F [] _ (k1.trans k2) t2 (.inl ⟨rfl, fitB_of hf⟩)
end
end Law

set_option Elab.async false
set_option linter.all false
set_option maxRecDepth 100000
set_option maxHeartbeats 4000000
namespace Law
open PySem PySem.Spec PyProof.Rows L2 GxR GX Tree Kit Data Loops Loops2 Comps Purse Day SetG SetL Lit Sets Ib
section
variable {P : Program} {w : World} {K : PySem.W.Frag} {mg : Str → Option Value} {base : Heap} {fa : String → Addr} {fd : String → FuncData} {ca ta : String → Addr}
/-! ### a drawn plan -/
def samePass (p q : Pass) : Bool := PyData.eqv (passD p) (passD q)
theorem same_self (p : Pass) : samePass p p = true := by
  show ((p.hour == p.hour) && ((p.dish == p.dish) && ((p.craft == p.craft) && ((p.block == p.block) && true)))) = true
  simp
theorem same_iff {p q : Pass} : samePass p q = true ↔ p = q := by
  constructor
  · intro h
    have h : ((p.hour == q.hour) && ((p.dish == q.dish) && ((p.craft == q.craft) && ((p.block == q.block) && true)))) = true := h
    simp only [Bool.and_eq_true, beq_iff_eq, Bool.and_true] at h
    obtain ⟨h1, h2, h3, h4⟩ := h
    cases p
    cases q
    simp only at h1 h2 h3 h4
    rw [h1, h2, h3, h4]
  · intro h
    rw [h]
    exact same_self q
theorem shaped_pass (p : Pass) : SeqAt.shaped (passD p) = true := rfl
theorem dp_pass {H : Hp} {a : Addr} {p : Pass} (h : H a = some (.tup [.int p.hour, .int p.dish, .int p.craft, .int p.block])) : Dp K H (.ref a) (passD p) :=
  .tup (SqT.of h) (.cons (.int _) (.cons (.int _) (.cons (.int _) (.cons (.int _) .nil))))
theorem gone_len {ps : List Pass} {g : Pass} (h : g ∈ ps) : (ps.filter fun p => !samePass p g).length + 1 ≤ ps.length := by
  have := List.length_filter_lt_length_iff_exists (p := fun p => !samePass p g) (l := ps) |>.mpr ⟨g, h, by rw [same_self]; simp⟩
  omega
def sp_law_plan (Ts : List Addr) : Sp := fun vs H Q _ => ∃ (p : Addr) (n : Nat) (C : List Addr) (dv : V) (D : Dy), vs = [.ref p, dv] ∧ n ≤ 700000000000 ∧ At Ts C p n H ∧ Tr C H dv (dayD D) ∧ DyOk D ∧
  ∀ (F : Addr) (ps : List Pass) (H' : Hp), Kx [p] H H' → At Ts C p (n + 80) H' → Tr C H' (.ref F) (.list (ps.map passD)) → Dr D D.hours 0 ps → Plan D ps → Q (.ref F) H'
theorem ok__law_plan (Y : Facts K mg base fa fd ca ta) : FnOk P w K mg base CX0 3 (fa "_law_plan") (fd "_law_plan") ["purse", "day"] (sp_law_plan (Ts ta)) := by
  refine Y.d__law_plan.ok sc__law_plan (fun vs H Q E h => ?_) (fun cdv A outer s H vs Q E hcd hr h => ?_)
  · obtain ⟨p, n, C, dv, D, rfl, _⟩ := h; rfl
  · obtain ⟨p, n, C, dv, D, rfl, hn, hA, hdt, hD, q⟩ := h
    refine ⟨_, (pss_cons (ps_set (i := 2) sc__law_plan.nd rfl (by first | exact Or.inl rfl | exact Or.inr rfl) (pe_call (ok__law_passes Y) (hr.mono (by decide)) (by rfl) Y.d__law_passes.g Y.d__law_passes.kp Y.d__law_passes.b .nil pass0 (pa_cons (pv 0) (pa_cons (pv 1) pa_nil))))
      (pss_cons (ps_for PassesOwn.never rfl (pi_range1 (by rfl) Y.b.range (pa_cons pe_int pa_nil)) (pg_name (i := 3) sc__law_plan.nd rfl (by first | exact Or.inl rfl | exact Or.inr rfl)) (pss_cons (ps_set (i := 4) sc__law_plan.nd rfl (by first | exact Or.inl rfl | exact Or.inr rfl) (pe_call (ok__law_over Y) (hr.mono (by decide)) (by rfl) Y.d__law_over.g Y.d__law_over.kp Y.d__law_over.b .nil pass0 (pa_cons (pv 1) (pa_cons (pv 2) pa_nil))))
      (pss_one (ps_if (pt_cmpR (op_neNil hr.units0) (pv 4) (pe_lst pa_nil) (nomark _)) (pss_cons (ps_set (i := 5) sc__law_plan.nd rfl (by first | exact Or.inl rfl | exact Or.inr rfl) (pe_ix (ix_listK K rfl) (pv 4) (pe_call (ok__law_coin Y) (hr.mono (by decide)) (by rfl) Y.d__law_coin.g Y.d__law_coin.kp Y.d__law_coin.b .nil pass0 (pa_cons (pv 0) (pa_cons (pe_callB (call_lenK K rfl) (by rfl) Y.b.len (by decide +kernel) (pa_cons (pv 4) pa_nil)) pa_nil))) (fun _ _ => rfl)))
      (pss_one (ps_setLc (i := 2) (own := [("one", 6)]) (g := gName 6) rfl sc__law_plan.nd rfl rfl (sw_true rfl rfl rfl (by decide +kernel)) (pi_listK K rfl (pv 2)) (blkOk_by (N := ["purse", "day", "found", "turn", "over", "gone", "one"]) (sc := defScope s__law_plan) (by decide +kernel)) (fun _ _ _ _ _ => (pg_name (i := 6) sc__law_plan.nd rfl (by first | exact Or.inl rfl | exact Or.inr rfl))) (fun _ _ _ _ _ => (pts_one (pt_cmpR (op_neDK K rfl hr.units) (pv 6) (pv 5) (nomark _)))) (fun _ _ _ _ _ => (pv 6))))) pss_nil))))
      (pss_one (ps_ret (pv 2))))), ?_⟩
    have b14 := hD.bl
    refine st_set ⟨.ref p, rfl, dv, rfl, p, n, C, dv, D, rfl, by omega, hA, hdt, hD, fun F0 ps0 H1 k1 A1 t1 dr1 => ?_⟩
    refine st_seq (st_for ?_)
    refine ⟨_, rfl, by decide, by decide, ?_⟩
    have l0 := dr1.len
    refine for_gen (itr_at (14 : Int).toNat) (B := [p]) (Iv := fun i σ' H' => ∃ F z3 z4 z5 ps, σ' = [some (.ref p), some dv, some (.ref F), z3, z4, z5, none] ∧ Tr C H' (.ref F) (.list (ps.map passD)) ∧ At (Ts ta) C p (n + 60 + i) H' ∧ Dr D D.hours 0 ps ∧ (fitB D ps = true ∨ ps.length + i ≤ 14))
      ⟨F0, none, none, none, ps0, rfl, t1, A1, dr1, .inr (by omega)⟩ (fun i σ' H2 hi k2 ⟨F, z3, z4, z5, ps, e, t2, A2, dr, hf⟩ Nn hN => ?_) fun σ' H2 k2 ⟨F, z3, z4, z5, ps, e, t2, A2, dr, hf⟩ => ?_
    · subst e
      have hi14 : i < 14 := hi
      have lps := dr.len
      have d2 := hA.tr hdt (k1.trans k2)
      refine st_name ?_
      dsimp only
      refine st_set ⟨dv, rfl, .ref F, rfl, C, dv, D, F, ps, rfl, A2.al, d2, hD, t2, by omega, inB_of dr.ok, fun O os H3 k3 t3 ho => ?_⟩
      have A3 := A2.kx k3
      obtain ⟨xo, eo, to⟩ := t3.items
      have lo := to.length
      rw [List.length_map] at lo
      refine st_ifs ⟨.ref O, rfl, len_ok, fun N hN' => ?_⟩
      have k4 : Kx [] H3 (upd H3 N (.lst [])) := Kx.new hN'
      have eN4 : upd H3 N (.lst []) N = some (.lst []) := upd_same
      generalize upd H3 N (.lst []) = H4 at k4 eN4 ⊢
      have A4 := A3.kx k4
      refine ⟨O, N, xo, rfl, rfl, k4.lst (by simp) eo, eN4, _, rfl, ?_⟩
      rcases ho with ⟨rfl, hfit⟩ | ⟨hne, hsub, hnf⟩
      · have ex : xo = [] := List.length_eq_zero_iff.mp (by simpa using lo)
        subst ex
        exact iteF (hN _ _ (k2.trans (k3.trans k4).of) ⟨F, _, _, _, ps, rfl, t2.up (k3.trans k4), A4.mono (by omega), dr, .inl hfit⟩)
      · have hlen : 0 < os.length := List.length_pos_iff.mpr hne
        have hle := hsub.length_le
        have ex : xo.isEmpty = false := by
          cases xo with
          | nil => simp at lo; omega
          | cons _ _ => rfl
        rw [ex]
        have to4 := to.up k4
        refine iteT (st_set ⟨.ref O, rfl, .ref p, rfl, .ref O, rfl, O, xo, rfl, .inl (SqL.of (k4.lst (by simp) eo)), p, _, (xo.length : Int), C, rfl, by omega, by omega, by omega, A4, fun r H5 r0 r1 k5 A5 => ?_⟩)
        have to5 := A4.trs to4 k5
        obtain ⟨v, d, a5, tv, md⟩ := pick to5 r0 r1
        obtain ⟨g, hg, rfl⟩ := List.mem_map.mp md
        obtain ⟨ga, rfl, eg⟩ := pass_tr tv
        refine ⟨O, xo, r, .ref ga, rfl, rfl, SqL.of (k5.lst (A4.nepT (t3.up k4)) (k4.lst (by simp) eo)), a5, ?_⟩
        have t5 := A4.tr (t2.up (k3.trans k4)) k5
        obtain ⟨xf, ef, tf⟩ := t5.items
        refine st_asg (lc_use ?_)
        refine ⟨.ref F, rfl, F, rfl, ⟨xf, SqL.of ef⟩, ?_⟩
        refine lc_filtC (C := C) (fun d => !samePass (passOf d) g) A5.al ef tf (by rw [List.length_map]; unfold sizeLine; omega) (fun x d H6 hd t k6 R R0 hR hR0 => ?_) fun D2 H6 k6 hD2 t6 => ?_
        · obtain ⟨q', hq', rfl⟩ := List.mem_map.mp hd
          obtain ⟨at_, rfl, eat⟩ := pass_tr t
          rw [passOf_D] at hR hR0
          refine ⟨rfl, .ref at_, rfl, .ref ga, rfl, passD q', passD g, dp_pass eat, dp_pass (k6.tup (by simp) eg), shaped_pass _, shaped_pass _, _, rfl, ?_⟩
          exact ite2 (fun c => ⟨.ref at_, rfl, hR c H6 (Kx.refl _)⟩) (fun c => hR0 (notE' c) H6 (Kx.refl _))
        · rw [filter_passes ps fun p => !samePass p g] at t6
          have hl := gone_len (hsub.subset hg)
          refine hN _ _ (k2.trans ((k3.trans k4).of.trans (k5.trans k6.of))) ⟨D2, _, _, _, _, rfl, t6, (A5.kx k6).mono (by omega), dr.sub List.filter_sublist, ?_⟩
          rcases hf with h | h
          · rw [h] at hnf; cases hnf
          · exact .inr (by omega)
    · subst e
      have fin : fitB D ps = true := by
        rcases hf with h | h
        · exact h
        · have e : ps = [] := List.length_eq_zero_iff.mp (by have : (14 : Int).toNat = 14 := rfl; omega)
          rw [e]
          refine fitB_of fun t ht c hc => ?_
          show ((keptL D [] c t).length : Int) ≤ _
          rw [getD_at _ _ hc]
          exact (hD.sb _ (List.getElem_mem hc)).1
      have lps := dr.len
      refine ⟨_, rfl, q F ps H2 (k1.trans k2) (A2.mono (by have : (14 : Int).toNat = 14 := rfl; omega)) t2 dr ⟨dr.ok, ?_, by omega⟩⟩
      unfold planT
      rw [dr.rises, dr.clash, fin]
      rfl
end
end Law

set_option Elab.async false
set_option linter.all false
set_option maxRecDepth 100000
set_option maxHeartbeats 4000000
namespace Law
open PySem PySem.Spec PyProof.Rows L2 GxR GX Tree Kit Data Loops Comps Purse Sets Small Ib
section
variable {P : Program} {w : World} {K : PySem.W.Frag} {mg : Str → Option Value} {base : Heap} {fa : String → Addr} {fd : String → FuncData} {ca ta : String → Addr}
/-! ### bent things -/
/-- no list, no tuple -/
def isSeq : PyData → Bool
  | .list _ => true
  | .tuple _ => true
  | _ => false
def sp_law_other (Ts : List Addr) : Sp := fun vs H Q _ => ∃ (p : Addr) (n : Nat) (C : List Addr) (v : V) (d : PyData) (L M S D : Nat), vs = [.ref p, v] ∧ n ≤ 800000000000 ∧ At Ts C p n H ∧ Tr C H v d ∧ isSeq d = false ∧ Sm L M S D d ∧ M ≤ 50000000000 ∧ Draws Ts C p n 1 (Sm (L + 1) (M + 1000000000) 2 1) H Q
theorem ok__law_other (Y : Facts K mg base fa fd ca ta) : FnOk P w K mg base CX0 2 (fa "_law_other") (fd "_law_other") ["purse", "thing"] (sp_law_other (Ts ta)) := by
  refine Y.d__law_other.ok sc__law_other (fun vs H Q E h => ?_) (fun cdv A outer s H vs Q E hcd hr h => ?_)
  · obtain ⟨p, n, C, v, d, L, M, S, D, rfl, _⟩ := h; rfl
  · obtain ⟨p, n, C, v, d, L, M, S, D, rfl, hn, hA, ht, hs, hm, hM, q⟩ := h
    refine ⟨_, (pss_cons (ps_set (i := 2) sc__law_other.nd rfl (by first | exact Or.inl rfl | exact Or.inr rfl) (pe_lst (pa_cons pe_non (pa_cons pe_bl (pa_cons pe_bl (pa_cons pe_int (pa_cons (pe_un un_neg pe_int) (pa_cons pe_str (pa_cons pe_str (pa_cons (pe_lst pa_nil) (pa_cons (pe_tup pa_nil) (pa_cons pe_dnewK (pa_cons pe_int (pa_cons pe_int pa_nil))))))))))))))
      (pss_cons (ps_if (pt_val (pe_callB (call_isiK' K rfl) (by rfl) Y.b.isinstance (by decide +kernel) (pa_cons (pv 1) (pa_cons (pe_bltn (v := .ty "int") (by rfl) Y.b.int (by decide +kernel) rfl) pa_nil)))) (pss_one (ps_set (i := 2) sc__law_other.nd rfl (by first | exact Or.inl rfl | exact Or.inr rfl) (pe_lst (pa_cons (pe_op op_addB (pv 1) pe_int) (pa_cons (pe_op op_subB (pv 1) pe_int) (pa_cons (pe_op op_addB (pv 1) pe_int) (pa_cons (pe_op op_subB (pv 1) pe_int) (pa_cons (pe_callTy call_strB (by rfl) Y.b.str (by decide +kernel) (pa_cons (pv 1) pa_nil)) (pa_cons (pe_lst (pa_cons (pv 1) pa_nil)) (pa_cons pe_bl (pa_cons pe_non (pa_cons (pe_op op_subIB (pe_un un_neg pe_int) (pv 1)) (pa_cons (pe_op op_powW pe_int pe_int) (pa_cons pe_int (pa_cons pe_int pa_nil))))))))))))))) pss_nil)
      (pss_one (ps_ret (pe_ix (ix_listK K rfl) (pv 2) (pe_call (ok__law_coin Y) (hr.mono (by decide)) (by rfl) Y.d__law_coin.g Y.d__law_coin.kp Y.d__law_coin.b .nil pass0 (pa_cons (pv 0) (pa_cons (pe_callB (call_lenK K rfl) (by rfl) Y.b.len (by decide +kernel) (pa_cons (pv 2) pa_nil)) pa_nil))) (fun _ _ => rfl)))))), ?_⟩
    refine ⟨_, rfl, len_ok, fun La hLa => ?_⟩
    generalize hqa : upd H La _ = H1
    obtain ⟨k1, e1, t1⟩ : Kx [] H H1 ∧ H1 La = some (.lst []) ∧ Tr C H1 (.ref La) (.list []) := hqa ▸ mk_lst hA.al .nil hLa
    clear hqa
    have A1 := hA.kx k1
    refine ⟨len_ok, fun Lb hLb => ?_⟩
    generalize hqb : upd H1 Lb _ = H2
    obtain ⟨k2, e2, t2⟩ : Kx [] H1 H2 ∧ H2 Lb = some (.tup []) ∧ Tr C H2 (.ref Lb) (.tuple []) := hqb ▸ mk_tup A1.al .nil hLb
    clear hqb
    have A2 := A1.kx k2
    refine fun Lc hLc => ?_
    generalize hqc : upd H2 Lc _ = H3
    obtain ⟨k3, e3, t3⟩ : Kx [] H2 H3 ∧ H3 Lc = some (.dK []) ∧ Tr C H3 (.ref Lc) (.dict []) := hqc ▸ mk_dic A2.al hLc
    clear hqc
    have A3 := A2.kx k3
    refine ⟨len_ok, fun O hO => ?_⟩
    generalize hqo : upd H3 O _ = H4
    obtain ⟨k4, e4⟩ := new_at hO hqo
    clear hqo
    have A4 := A3.kx k4
    have k04 : Kx [] H H4 := k1.trans (k2.trans (k3.trans k4))
    have ht4 := ht.up k04
    have T4 : TrAll C H4 [.non, .bl true, .bl false, .int 0, .int (-1), .str "", .str "1", .ref La, .ref Lb, .ref Lc, .int 10000, .int 12] [.none, .bool true, .bool false, .int 0, .int (-1), .str "", .str "1", .list [], .tuple [], .dict [], .int 10000, .int 12] :=
      .cons .non (.cons (.bl _) (.cons (.bl _) (.cons (.int _) (.cons (.int _) (.cons (.str _) (.cons (.str _) (.cons (t1.up (k2.trans (k3.trans k4))) (.cons (t2.up (k3.trans k4)) (.cons (t3.up k4) (.cons (.int _) (.cons (.int _) .nil)))))))))))
    refine ⟨v, rfl, v, .ty "int", _, _, _, rfl, .ty _, ht4.ty, kit_int d, _, rfl, ite2 (fun c => ?_) (fun c => ?_)⟩
    · obtain ⟨j, ej, hj, tx, es, hx, hd1, hd2⟩ : ∃ j, asI v = some j ∧ j.natAbs ≤ M + 1 ∧ ∃ tx, strB v = some tx ∧ (reprText tx).length ≤ 140 ∧ sz d ≤ 1 ∧ d.depth ≤ 0 := by
        cases ht with
        | int i =>
          have hi : i.natAbs ≤ M := hm.bd
          refine ⟨i, rfl, by omega, _, if_pos ?_, repr_int (by omega), Nat.le_refl _, Nat.le_refl _⟩
          exact PySem.Flt.log2_lt_of (by decide) (Nat.lt_of_le_of_lt (show i.natAbs ≤ 2 ^ 40 by omega) (by decide))
        | bl b =>
          refine ⟨if b = true then 1 else 0, rfl, by split <;> omega, _, rfl, ?_, Nat.le_refl _, Nat.le_refl _⟩
          cases b <;> decide +kernel
        | _ => cases c
      refine ⟨v, rfl, _, _, ej, rfl, v, rfl, _, _, ej, rfl, v, rfl, _, _, ej, rfl, v, rfl, _, _, ej, rfl, v, rfl, v, tx, rfl, es, v, rfl, len_ok, fun Ld hLd => ?_⟩
      generalize hqd : upd H4 Ld _ = H5
      obtain ⟨k5, e5, t5⟩ : Kx [] H4 H5 ∧ H5 Ld = some (.lst [v]) ∧ Tr C H5 (.ref Ld) (.list [d]) := hqd ▸ mk_lst A4.al (.cons ht4 .nil) hLd
      clear hqd
      have A5 := A4.kx k5
      refine ⟨_, rfl, v, rfl, _, _, rfl, ej, _, _, rfl, rfl, powW_ok (b := 4) (by decide) (by decide) (by decide) (by decide), len_ok, fun O2 hO2 => ?_⟩
      generalize hq6 : upd H5 O2 _ = H6
      obtain ⟨k6, e6⟩ := new_at hO2 hq6
      clear hq6
      have A6 := A5.kx k6
      have T6 : TrAll C H6 [.int (j + 1), .int (j - 1), .int (j + 1), .int (j - 1), .str tx, .ref Ld, .bl true, .non, .int (-1 - j), .int (10 ^ (9 : Int).toNat), .int 0, .int 999] [.int (j + 1), .int (j - 1), .int (j + 1), .int (j - 1), .str tx, .list [d], .bool true, .none, .int (-1 - j), .int (10 ^ (9 : Int).toNat), .int 0, .int 999] :=
        .cons (.int _) (.cons (.int _) (.cons (.int _) (.cons (.int _) (.cons (.str _) (.cons (t5.up k6) (.cons (.bl _) (.cons .non (.cons (.int _) (.cons (.int _) (.cons (.int _) (.cons (.int _) .nil)))))))))))
      refine ⟨_, rfl, .ref p, rfl, _, rfl, O2, _, rfl, .inl (SqL.of e6), p, _, 12, C, rfl, by decide, by decide, by omega, A6, fun r H7 r0 r1 k7 A7 => ?_⟩
      obtain ⟨x, dx, a1, a2, a3⟩ := pick (A6.trs T6 k7) r0 (by simpa using r1)
      refine ⟨O2, _, r, x, rfl, rfl, SqL.of (k7.lst (A5.nep hO2) e6), a1, q _ _ _ (k04.of.trans ((k5.trans k6).of.trans k7)) A7 a2 ?_⟩
      simp only [List.mem_cons, List.mem_singleton, List.not_mem_nil, or_false] at a3
      have up : ∀ {y}, Sm (L + 1) (M + 1000000000) 1 0 y → Sm (L + 1) (M + 1000000000) 2 1 y := fun h => h.mono (Nat.le_refl _) (Nat.le_refl _) (by decide) (by decide)
      rcases a3 with rfl | rfl | rfl | rfl | rfl | rfl | rfl | rfl | rfl | rfl | rfl | rfl
      · exact up (Sm.int (by omega))
      · exact up (Sm.int (by omega))
      · exact up (Sm.int (by omega))
      · exact up (Sm.int (by omega))
      · exact up (Sm.str hx)
      · refine Sm.mkList (by simp) (by simp only [szAll]; omega) (fun y hy => ?_) (by decide)
        rw [List.mem_singleton.mp hy]
        exact ⟨(hm.mono (Nat.le_succ L) (Nat.le_add_right M 1000000000) (Nat.le_refl S) (Nat.le_refl D)).bd, by omega⟩
      · exact up (Sm.bool _)
      · exact up Sm.none
      · exact up (Sm.int (by omega))
      · exact up (Sm.int (by have : (10 ^ (9 : Int).toNat : Int) = 1000000000 := by decide
                             omega))
      · exact up (Sm.int (by omega))
      · exact up (Sm.int (by omega))
    · refine ⟨_, rfl, .ref p, rfl, _, rfl, O, _, rfl, .inl (SqL.of e4), p, _, 12, C, rfl, by decide, by decide, by omega, A4, fun r H7 r0 r1 k7 A7 => ?_⟩
      obtain ⟨x, dx, a1, a2, a3⟩ := pick (A4.trs T4 k7) r0 (by simpa using r1)
      refine ⟨O, _, r, x, rfl, rfl, SqL.of (k7.lst (A3.nep hO) e4), a1, q _ _ _ (k04.of.trans k7) A7 a2 ?_⟩
      simp only [List.mem_cons, List.mem_singleton, List.not_mem_nil, or_false] at a3
      have up : ∀ {y}, Sm (L + 1) (M + 1000000000) 1 0 y → Sm (L + 1) (M + 1000000000) 2 1 y := fun h => h.mono (Nat.le_refl _) (Nat.le_refl _) (by decide) (by decide)
      have up1 : ∀ {y}, Sm (L + 1) (M + 1000000000) 1 1 y → Sm (L + 1) (M + 1000000000) 2 1 y := fun h => h.mono (Nat.le_refl _) (Nat.le_refl _) (by decide) (by decide)
      rcases a3 with rfl | rfl | rfl | rfl | rfl | rfl | rfl | rfl | rfl | rfl | rfl | rfl
      · exact up Sm.none
      · exact up (Sm.bool _)
      · exact up (Sm.bool _)
      · exact up (Sm.int (by omega))
      · exact up (Sm.int (by omega))
      · exact up (Sm.str (by decide +kernel))
      · exact up (Sm.str (by decide +kernel))
      · exact Sm.mkList (by simp) (by simp [szAll]) (fun y hy => by simp at hy) (by decide)
      · exact Sm.mkTuple (by simp) (by simp [szAll]) (fun y hy => by simp at hy) (by decide)
      · exact up1 Sm.dict
      · exact up (Sm.int (by omega))
      · exact up (Sm.int (by omega))
/-- the items of a list or tuple -/
theorem seqV {B : List Addr} {H : Hp} {v : V} {d : PyData} (t : Tr B H v d) (h : isSeq d = true) : ∃ a xs ds, v = .ref a ∧ ((H a = some (.lst xs) ∧ d = .list ds) ∨ (H a = some (.tup xs) ∧ d = .tuple ds)) ∧ TrAll B H xs ds := by
  cases t with
  | lst _ e l => exact ⟨_, _, _, rfl, .inl ⟨e, rfl⟩, l⟩
  | tup _ e l => exact ⟨_, _, _, rfl, .inr ⟨e, rfl⟩, l⟩
  | _ => cases h
theorem Sm.seq {L M S D : Nat} {d : PyData} {ds : List PyData} (h : Sm L M S D d) (e : d = .list ds ∨ d = .tuple ds) : ds.length ≤ L ∧ szAll ds + 1 ≤ S ∧ ∀ d ∈ ds, Bd L M d ∧ d.depth + 1 ≤ D := by
  rcases e with rfl | rfl
  · exact h.items
  · exact h.itemsT
theorem Bd.up {L M L' M' : Nat} {d : PyData} (h : Bd L M d) (hL : L ≤ L') (hM : M ≤ M') : Bd L' M' d := (Sm.mono ⟨h, Nat.le_refl _, Nat.le_refl _⟩ hL hM (Nat.le_refl (sz d)) (Nat.le_refl d.depth)).bd
def sp_law_bent_row (Ts : List Addr) : Sp := fun vs H Q _ => ∃ (p : Addr) (n : Nat) (C : List Addr) (v : V) (d : PyData) (L M S D : Nat), vs = [.ref p, v] ∧ n ≤ 800000000000 ∧ At Ts C p n H ∧ Tr C H v d ∧ isSeq d = true ∧ Sm L M S D d ∧ L ≤ 100000 ∧ Draws Ts C p n 3 (Sm (L + 1) (M + 1000000000) (2 * S + 1) (D + 1)) H Q
theorem ok__law_bent_row (Y : Facts K mg base fa fd ca ta) : FnOk P w K mg base CX0 2 (fa "_law_bent_row") (fd "_law_bent_row") ["purse", "thing"] (sp_law_bent_row (Ts ta)) := by
  refine Y.d__law_bent_row.ok sc__law_bent_row (fun vs H Q E h => ?_) (fun cdv A outer s H vs Q E hcd hr h => ?_)
  · obtain ⟨p, n, C, v, d, L, M, S, D, rfl, _⟩ := h; rfl
  · obtain ⟨p, n, C, v, d, L, M, S, D, rfl, hn, hA, ht, hs, hm, hL, q⟩ := h
    refine ⟨_, (pss_cons (ps_set (i := 2) sc__law_bent_row.nd rfl (by first | exact Or.inl rfl | exact Or.inr rfl) (pe_callTy (call_listK K rfl) (by rfl) Y.b.list (by decide +kernel) (pa_cons (pv 1) pa_nil)))
      (pss_cons (ps_set (i := 3) sc__law_bent_row.nd rfl (by first | exact Or.inl rfl | exact Or.inr rfl) (pe_call (ok__law_coin Y) (hr.mono (by decide)) (by rfl) Y.d__law_coin.g Y.d__law_coin.kp Y.d__law_coin.b .nil pass0 (pa_cons (pv 0) (pa_cons (pe_op op_add (pe_callB (call_lenK K rfl) (by rfl) Y.b.len (by decide +kernel) (pa_cons (pv 2) pa_nil)) pe_int) pa_nil))))
      (pss_cons (ps_set (i := 4) sc__law_bent_row.nd rfl (by first | exact Or.inl rfl | exact Or.inr rfl) (pe_lst (pa_cons pe_non (pa_cons pe_int (pa_cons pe_bl (pa_cons (pe_lst pa_nil) (pa_cons (pe_tup pa_nil) (pa_cons pe_str (pa_cons (pe_un un_neg pe_int) (pa_cons pe_int pa_nil))))))))))
      (pss_cons (ps_set (i := 5) sc__law_bent_row.nd rfl (by first | exact Or.inl rfl | exact Or.inr rfl) (pe_ix (ix_listK K rfl) (pv 4) (pe_call (ok__law_coin Y) (hr.mono (by decide)) (by rfl) Y.d__law_coin.g Y.d__law_coin.kp Y.d__law_coin.b .nil pass0 (pa_cons (pv 0) (pa_cons (pe_callB (call_lenK K rfl) (by rfl) Y.b.len (by decide +kernel) (pa_cons (pv 4) pa_nil)) pa_nil))) (fun _ _ => rfl)))
      (pss_cons (ps_set (i := 6) sc__law_bent_row.nd rfl (by first | exact Or.inl rfl | exact Or.inr rfl) (pe_lst (pa_cons (pe_op op_cat (pe_slice (sl_listK K rfl) (pv 2) po_none (po_some (pv 3))) (pe_slice (sl_listK K rfl) (pv 2) (po_some (pe_op op_add (pv 3) pe_int)) po_none)) (pa_cons (pe_op op_cat (pe_slice (sl_listK K rfl) (pv 2) po_none (po_some (pe_op op_add (pv 3) pe_int))) (pe_slice (sl_listK K rfl) (pv 2) (po_some (pv 3)) po_none)) (pa_cons (pe_op op_cat (pe_op op_cat (pe_slice (sl_listK K rfl) (pv 2) po_none (po_some (pv 3))) (pe_lst (pa_cons (pv 5) pa_nil))) (pe_slice (sl_listK K rfl) (pv 2) (po_some (pv 3)) po_none)) (pa_cons (pe_revLK (j := 0) K rfl (pv 2)) (pa_cons (pv 2) pa_nil)))))))
      (pss_cons (ps_set (i := 7) sc__law_bent_row.nd rfl (by first | exact Or.inl rfl | exact Or.inr rfl) (pe_call (ok__law_coin Y) (hr.mono (by decide)) (by rfl) Y.d__law_coin.g Y.d__law_coin.kp Y.d__law_coin.b .nil pass0 (pa_cons (pv 0) (pa_cons pe_int pa_nil))))
      (pss_one (ps_ret (pe_ifExp (pt_cmpR op_eq (pe_callB (call_isiK' K rfl) (by rfl) Y.b.isinstance (by decide +kernel) (pa_cons (pv 1) (pa_cons (pe_bltn (v := .ty "list") (by rfl) Y.b.list (by decide +kernel) rfl) pa_nil))) (pe_cmpR op_lt (pv 7) pe_int (nomark _)) (nomark _)) (pe_ix (ix_listK K rfl) (pv 6) (pv 7) (fun _ _ => rfl)) (pe_callTy (call_tupleK K rfl) (by rfl) Y.b.tuple (by decide +kernel) (pa_cons (pe_ix (ix_listK K rfl) (pv 6) (pv 7) (fun _ _ => rfl)) pa_nil))))))))))), ?_⟩
    obtain ⟨a, xs, ds, rfl, hx, txs⟩ := seqV ht hs
    have hlen := txs.length
    obtain ⟨b1, b2, b3⟩ := Sm.seq hm (hx.elim (fun z => .inl z.2) fun z => .inr z.2)
    have hx' : SqL K H a xs ∨ SqT K H a xs := hx.elim (fun z => .inl (SqL.of z.1)) fun z => .inr (SqT.of z.1)
    refine ⟨.ref a, rfl, a, xs, rfl, hx', fun La hLa => ?_⟩
    generalize hq : upd H La _ = H1
    obtain ⟨k1, e1, t1⟩ : Kx [] H H1 ∧ H1 La = some (.lst xs) ∧ Tr C H1 (.ref La) (.list ds) := hq ▸ mk_lst hA.al txs hLa
    clear hq
    have A1 := hA.kx k1
    refine ⟨.ref p, rfl, .ref La, rfl, La, xs, rfl, .inl (SqL.of e1), _, _, rfl, rfl, p, _, (xs.length : Int) + 1, C, rfl, by omega, by omega, by omega, A1, fun at_ H2 at0 at1 k2 A2 => ?_⟩
    obtain ⟨at', rfl⟩ : ∃ m : Nat, at_ = (m : Int) := ⟨at_.toNat, by omega⟩
    have e1' := k2.lst (hA.nep hLa) e1
    have t1' := A1.tr t1 k2
    refine ⟨len_ok, fun Lb hLb => ?_⟩
    generalize hq : upd H2 Lb _ = H3
    obtain ⟨k3, e3, t3⟩ : Kx [] H2 H3 ∧ H3 Lb = some (.lst []) ∧ Tr C H3 (.ref Lb) (.list []) := hq ▸ mk_lst A2.al .nil hLb
    clear hq
    have A3 := A2.kx k3
    refine ⟨len_ok, fun Lc hLc => ?_⟩
    generalize hq : upd H3 Lc _ = H4
    obtain ⟨k4, e4, t4⟩ : Kx [] H3 H4 ∧ H4 Lc = some (.tup []) ∧ Tr C H4 (.ref Lc) (.tuple []) := hq ▸ mk_tup A3.al .nil hLc
    clear hq
    have A4 := A3.kx k4
    refine ⟨_, rfl, len_ok, fun Ld hLd => ?_⟩
    generalize hq : upd H4 Ld _ = H5
    obtain ⟨k5, e5, t5⟩ : Kx [] H4 H5 ∧ H5 Ld = some (.lst [.non, .int 0, .bl true, .ref Lb, .ref Lc, .str "a", .int (-1), .int 1]) ∧ Tr C H5 (.ref Ld) (.list [.none, .int 0, .bool true, .list [], .tuple [], .str "a", .int (-1), .int 1]) := hq ▸ mk_lst A4.al (.cons .non (.cons (.int 0) (.cons (.bl true) (.cons (t3.up k4) (.cons t4 (.cons (.str "a") (.cons (.int (-1)) (.cons (.int 1) .nil)))))))) hLd
    clear hq
    have A5 := A4.kx k5
    refine ⟨.ref Ld, rfl, .ref p, rfl, .ref Ld, rfl, Ld, _, rfl, .inl (SqL.of e5), p, _, 8, C, rfl, by decide, by decide, by omega, A5, fun r H6 r0 r1 k6 A6 => ?_⟩
    obtain ⟨ys, ey, ty⟩ := (A5.tr t5 k6).items
    obtain ⟨odd, dod, a1, t_odd, a3⟩ := pick ty r0 (by have := ty.length; simp at this; omega)
    have s_odd : Sm (L + 1) (M + 1000000000) 1 1 dod := by
      have up : ∀ {y}, Sm (L + 1) (M + 1000000000) 1 0 y → Sm (L + 1) (M + 1000000000) 1 1 y := fun h => h.mono (Nat.le_refl _) (Nat.le_refl _) (by decide) (by decide)
      simp only [List.mem_cons, List.mem_singleton, List.not_mem_nil, or_false] at a3
      rcases a3 with rfl | rfl | rfl | rfl | rfl | rfl | rfl | rfl
      · exact up Sm.none
      · exact up (Sm.int (by omega))
      · exact up (Sm.bool _)
      · exact Sm.mkList (by simp) (by simp [szAll]) (fun y hy => by simp at hy) (by decide)
      · exact Sm.mkTuple (by simp) (by simp [szAll]) (fun y hy => by simp at hy) (by decide)
      · exact up (Sm.str (by decide +kernel))
      · exact up (Sm.int (by omega))
      · exact up (Sm.int (by omega))
    refine ⟨Ld, ys, r, odd, rfl, rfl, SqL.of ey, a1, ?_⟩
    have k26 : Kx [p] H2 H6 := (k3.trans (k4.trans k5)).of.trans k6
    obtain ⟨zs, ez, tz⟩ := (A2.tr t1' k26).items
    have e6 : H6 La = some (.lst xs) := k26.lst (hA.nep hLa) e1'
    rw [e6] at ez
    cases ez
    have tz6 := tz
    have e6_ := e6
    refine ⟨.ref La, rfl, .int at', rfl, _, rfl, La, xs, rfl, SqL.of e6_, fun S1 hS1 => ?_⟩
    generalize hq : upd H6 S1 _ = H7
    obtain ⟨k7, e7, t7⟩ : Kx [] H6 H7 ∧ H7 S1 = some (.lst (cutV xs none (some (at' : Int)))) ∧ Tr C H7 (.ref S1) (.list (ds.take at')) := hq ▸ mk_lst A6.al (by rw [cut_hi]; exact tz6.take at') hS1
    clear hq
    have A7 := A6.kx k7
    have tz7 := tz6.up k7
    have e7_ := k7.lst (by simp) e6_
    refine ⟨.ref La, rfl, .int at', rfl, _, _, rfl, rfl, _, rfl, La, xs, rfl, SqL.of e7_, fun S2 hS2 => ?_⟩
    generalize hq : upd H7 S2 _ = H8
    obtain ⟨k8, e8, t8⟩ : Kx [] H7 H8 ∧ H8 S2 = some (.lst (cutV xs (some ((at' : Int) + 1)) none)) ∧ Tr C H8 (.ref S2) (.list (ds.drop (at' + 1))) := hq ▸ mk_lst A7.al (by rw [cut_lo1]; exact tz7.drop (at' + 1)) hS2
    clear hq
    have A8 := A7.kx k8
    have tz8 := tz7.up k8
    have e8_ := k8.lst (by simp) e7_
    refine ⟨S1, S2, _, _, rfl, rfl, (k8.lst (by simp) e7), e8, (by have h1 := cutV_length xs none (some (at' : Int)); have h2 := cutV_length xs none (some ((at' : Int) + 1)); have h3 := cutV_length xs (some (at' : Int)) none; have h4 := cutV_length xs (some ((at' : Int) + 1)) none; unfold sizeLine; (try simp only [List.length_append, List.length_cons, List.length_nil]); omega), fun R1 hR1 => ?_⟩
    generalize hq : upd H8 R1 _ = H9
    obtain ⟨k9, e9, t9⟩ : Kx [] H8 H9 ∧ H9 R1 = some (.lst (cutV xs none (some (at' : Int)) ++ cutV xs (some ((at' : Int) + 1)) none)) ∧ Tr C H9 (.ref R1) (.list (ds.take at' ++ ds.drop (at' + 1))) := hq ▸ mk_lst A8.al (by rw [cut_hi, cut_lo1]; exact (tz8.take _).append (tz8.drop _)) hR1
    clear hq
    have A9 := A8.kx k9
    have tz9 := tz8.up k9
    have e9_ := k9.lst (by simp) e8_
    refine ⟨.ref La, rfl, .int at', rfl, _, _, rfl, rfl, _, rfl, La, xs, rfl, SqL.of e9_, fun S3 hS3 => ?_⟩
    generalize hq : upd H9 S3 _ = H10
    obtain ⟨k10, e10, t10⟩ : Kx [] H9 H10 ∧ H10 S3 = some (.lst (cutV xs none (some ((at' : Int) + 1)))) ∧ Tr C H10 (.ref S3) (.list (ds.take (at' + 1))) := hq ▸ mk_lst A9.al (by rw [cut_hi1]; exact tz9.take (at' + 1)) hS3
    clear hq
    have A10 := A9.kx k10
    have tz10 := tz9.up k10
    have e10_ := k10.lst (by simp) e9_
    refine ⟨.ref La, rfl, .int at', rfl, _, rfl, La, xs, rfl, SqL.of e10_, fun S4 hS4 => ?_⟩
    generalize hq : upd H10 S4 _ = H11
    obtain ⟨k11, e11, t11⟩ : Kx [] H10 H11 ∧ H11 S4 = some (.lst (cutV xs (some (at' : Int)) none)) ∧ Tr C H11 (.ref S4) (.list (ds.drop at')) := hq ▸ mk_lst A10.al (by rw [cut_lo]; exact tz10.drop at') hS4
    clear hq
    have A11 := A10.kx k11
    have tz11 := tz10.up k11
    have e11_ := k11.lst (by simp) e10_
    refine ⟨S3, S4, _, _, rfl, rfl, (k11.lst (by simp) e10), e11, (by have h1 := cutV_length xs none (some (at' : Int)); have h2 := cutV_length xs none (some ((at' : Int) + 1)); have h3 := cutV_length xs (some (at' : Int)) none; have h4 := cutV_length xs (some ((at' : Int) + 1)) none; unfold sizeLine; (try simp only [List.length_append, List.length_cons, List.length_nil]); omega), fun R2 hR2 => ?_⟩
    generalize hq : upd H11 R2 _ = H12
    obtain ⟨k12, e12, t12⟩ : Kx [] H11 H12 ∧ H12 R2 = some (.lst (cutV xs none (some ((at' : Int) + 1)) ++ cutV xs (some (at' : Int)) none)) ∧ Tr C H12 (.ref R2) (.list (ds.take (at' + 1) ++ ds.drop at')) := hq ▸ mk_lst A11.al (by rw [cut_hi1, cut_lo]; exact (tz11.take _).append (tz11.drop _)) hR2
    clear hq
    have A12 := A11.kx k12
    have tz12 := tz11.up k12
    have e12_ := k12.lst (by simp) e11_
    refine ⟨.ref La, rfl, .int at', rfl, _, rfl, La, xs, rfl, SqL.of e12_, fun S5 hS5 => ?_⟩
    generalize hq : upd H12 S5 _ = H13
    obtain ⟨k13, e13, t13⟩ : Kx [] H12 H13 ∧ H13 S5 = some (.lst (cutV xs none (some (at' : Int)))) ∧ Tr C H13 (.ref S5) (.list (ds.take at')) := hq ▸ mk_lst A12.al (by rw [cut_hi]; exact tz12.take at') hS5
    clear hq
    have A13 := A12.kx k13
    have tz13 := tz12.up k13
    have e13_ := k13.lst (by simp) e12_
    have to13 := t_odd.up (k7.trans (k8.trans (k9.trans (k10.trans (k11.trans (k12.trans k13))))))
    refine ⟨_, rfl, len_ok, fun O1 hO1 => ?_⟩
    generalize hq : upd H13 O1 _ = H14
    obtain ⟨k14, e14, t14⟩ : Kx [] H13 H14 ∧ H14 O1 = some (.lst [odd]) ∧ Tr C H14 (.ref O1) (.list [dod]) := hq ▸ mk_lst A13.al (.cons to13 .nil) hO1
    clear hq
    have A14 := A13.kx k14
    have tz14 := tz13.up k14
    have e14_ := k14.lst (by simp) e13_
    refine ⟨S5, O1, _, _, rfl, rfl, (k14.lst (by simp) e13), e14, (by have h1 := cutV_length xs none (some (at' : Int)); have h2 := cutV_length xs none (some ((at' : Int) + 1)); have h3 := cutV_length xs (some (at' : Int)) none; have h4 := cutV_length xs (some ((at' : Int) + 1)) none; unfold sizeLine; (try simp only [List.length_append, List.length_cons, List.length_nil]); omega), fun W hW => ?_⟩
    generalize hq : upd H14 W _ = H15
    obtain ⟨k15, e15, t15⟩ : Kx [] H14 H15 ∧ H15 W = some (.lst (cutV xs none (some (at' : Int)) ++ [odd])) ∧ Tr C H15 (.ref W) (.list (ds.take at' ++ [dod])) := hq ▸ mk_lst A14.al (by rw [cut_hi]; exact (tz14.take _).append (.cons (to13.up k14) .nil)) hW
    clear hq
    have A15 := A14.kx k15
    have tz15 := tz14.up k15
    have e15_ := k15.lst (by simp) e14_
    refine ⟨.ref La, rfl, .int at', rfl, _, rfl, La, xs, rfl, SqL.of e15_, fun S6 hS6 => ?_⟩
    generalize hq : upd H15 S6 _ = H16
    obtain ⟨k16, e16, t16⟩ : Kx [] H15 H16 ∧ H16 S6 = some (.lst (cutV xs (some (at' : Int)) none)) ∧ Tr C H16 (.ref S6) (.list (ds.drop at')) := hq ▸ mk_lst A15.al (by rw [cut_lo]; exact tz15.drop at') hS6
    clear hq
    have A16 := A15.kx k16
    have tz16 := tz15.up k16
    have e16_ := k16.lst (by simp) e15_
    refine ⟨W, S6, _, _, rfl, rfl, (k16.lst (by simp) e15), e16, (by have h1 := cutV_length xs none (some (at' : Int)); have h2 := cutV_length xs none (some ((at' : Int) + 1)); have h3 := cutV_length xs (some (at' : Int)) none; have h4 := cutV_length xs (some ((at' : Int) + 1)) none; unfold sizeLine; (try simp only [List.length_append, List.length_cons, List.length_nil]); omega), fun R3 hR3 => ?_⟩
    generalize hq : upd H16 R3 _ = H17
    obtain ⟨k17, e17, t17⟩ : Kx [] H16 H17 ∧ H17 R3 = some (.lst (cutV xs none (some (at' : Int)) ++ [odd] ++ cutV xs (some (at' : Int)) none)) ∧ Tr C H17 (.ref R3) (.list (ds.take at' ++ [dod] ++ ds.drop at')) := hq ▸ mk_lst A16.al (by rw [cut_hi, cut_lo]; exact ((tz16.take _).append (.cons (to13.up (k14.trans (k15.trans k16))) .nil)).append (tz16.drop _)) hR3
    clear hq
    have A17 := A16.kx k17
    have tz17 := tz16.up k17
    have e17_ := k17.lst (by simp) e16_
    refine ⟨.ref La, rfl, La, xs, rfl, SqL.of e17_, fun R4 hR4 => ?_⟩
    generalize hq : upd H17 R4 _ = H18
    obtain ⟨k18, e18, t18⟩ : Kx [] H17 H18 ∧ H18 R4 = some (.lst xs.reverse) ∧ Tr C H18 (.ref R4) (.list ds.reverse) := hq ▸ mk_lst A17.al tz17.reverse hR4
    clear hq
    have A18 := A17.kx k18
    have tz18 := tz17.up k18
    have e18_ := k18.lst (by simp) e17_
    refine ⟨_, rfl, len_ok, fun O hO => ?_⟩
    generalize hq : upd H18 O _ = H19
    obtain ⟨k19, e19, t19⟩ : Kx [] H18 H19 ∧ H19 O = some (.lst [.ref R1, .ref R2, .ref R3, .ref R4, .ref La]) ∧ Tr C H19 (.ref O) (.list [.list (ds.take at' ++ ds.drop (at' + 1)), .list (ds.take (at' + 1) ++ ds.drop at'), .list (ds.take at' ++ [dod] ++ ds.drop at'), .list ds.reverse, .list ds]) := hq ▸ mk_lst A18.al (.cons (t9.up (k10.trans (k11.trans (k12.trans (k13.trans (k14.trans (k15.trans (k16.trans (k17.trans k18))))))))) (.cons (t12.up (k13.trans (k14.trans (k15.trans (k16.trans (k17.trans k18)))))) (.cons (t17.up k18) (.cons t18 (.cons (.lst (hA.not hLa) e18_ tz18) .nil))))) hO
    clear hq
    have A19 := A18.kx k19
    refine ⟨.ref p, rfl, p, _, 5, C, rfl, by decide, by decide, by omega, A19, fun wy H20 w0 w1 k20 A20 => ?_⟩
    have kall : Kx [p] H H20 := k1.of.trans (k2.trans (k26.trans ((k7.trans (k8.trans (k9.trans (k10.trans (k11.trans (k12.trans (k13.trans (k14.trans (k15.trans (k16.trans (k17.trans (k18.trans k19)))))))))))).of.trans k20)))
    have ht20 := hA.tr ht kall
    obtain ⟨us, eu, tu⟩ := (A19.tr t19 k20).items
    obtain ⟨x, dx, a4, a5, a6⟩ := pick tu w0 (by have := tu.length; simp at this; omega)
    have good : ∃ es, dx = .list es ∧ es.length ≤ L + 1 ∧ szAll es + 1 ≤ 2 * S + 1 ∧ ∀ d ∈ es, Bd (L + 1) (M + 1000000000) d ∧ d.depth + 1 ≤ D + 1 := by
      have hb : ∀ d ∈ ds, Bd (L + 1) (M + 1000000000) d ∧ d.depth + 1 ≤ D + 1 := fun d hd => ⟨Bd.up (b3 d hd).1 (by omega) (by omega), by have := (b3 d hd).2; omega⟩
      have ho : Bd (L + 1) (M + 1000000000) dod ∧ dod.depth + 1 ≤ D + 1 := ⟨s_odd.bd, by
        have h1 := s_odd.dp
        have h2 : 1 ≤ D := by
          have := hm.dp
          rcases hx with z | z <;> (rw [z.2] at this; simp only [PyData.depth] at this; omega)
        omega⟩
      have so := s_odd.sz
      have z1 := szAll_take ds at'
      have z2 := szAll_take ds (at' + 1)
      have l1 : (ds.take at').length ≤ at' := List.length_take_le _ _
      simp only [List.mem_cons, List.mem_singleton, List.not_mem_nil, or_false] at a6
      rcases a6 with rfl | rfl | rfl | rfl | rfl
      · refine ⟨_, rfl, by simp only [List.length_append, List.length_take, List.length_drop]; omega, by rw [szAll_append]; omega, fun d hd => ?_⟩
        rcases List.mem_append.mp hd with z | z
        · exact hb d (List.mem_of_mem_take z)
        · exact hb d (List.mem_of_mem_drop z)
      · refine ⟨_, rfl, by simp only [List.length_append, List.length_take, List.length_drop]; omega, by rw [szAll_append]; omega, fun d hd => ?_⟩
        rcases List.mem_append.mp hd with z | z
        · exact hb d (List.mem_of_mem_take z)
        · exact hb d (List.mem_of_mem_drop z)
      · refine ⟨_, rfl, by simp only [List.length_append, List.length_take, List.length_drop, List.length_cons, List.length_nil]; omega, by rw [szAll_append, szAll_append]; simp only [szAll]; omega, fun d hd => ?_⟩
        rcases List.mem_append.mp hd with z | z
        · rcases List.mem_append.mp z with z | z
          · exact hb d (List.mem_of_mem_take z)
          · rw [List.mem_singleton.mp z]; exact ho
        · exact hb d (List.mem_of_mem_drop z)
      · exact ⟨_, rfl, by rw [List.length_reverse]; omega, by rw [szAll_reverse]; omega, fun d hd => hb d (List.mem_reverse.mp hd)⟩
      · exact ⟨_, rfl, by omega, by omega, hb⟩
    obtain ⟨es, rfl, g1, g2, g3⟩ := good
    refine ⟨.ref a, rfl, .ref a, .ty "list", _, _, _, rfl, .ty _, ht20.ty, kit_list d, _, rfl, _, _, rfl, rfl, rfl, _, rfl, ite2 (fun c => ?_) (fun c => ?_)⟩
    · exact ⟨_, rfl, _, rfl, O, us, wy, x, rfl, rfl, SqL.of eu, a4, q _ _ _ kall (A20.mono (by omega)) a5 (Sm.mkList g1 g2 g3 (by omega))⟩
    · obtain ⟨ax, xx, rfl, ex, tx⟩ := a5.listV
      refine ⟨_, rfl, _, rfl, O, us, wy, .ref ax, rfl, rfl, SqL.of eu, a4, ax, xx, rfl, .inl ⟨SqL.of ex, fun T hT => ?_⟩⟩
      obtain ⟨k21, e21, t21⟩ := mk_tup A20.al tx hT
      exact q _ _ _ (kall.trans k21.of) ((A20.kx k21).mono (by omega)) t21 (Sm.mkTuple g1 g2 g3 (by omega))
end
end Law

set_option Elab.async false
set_option linter.all false
set_option maxRecDepth 100000
set_option maxHeartbeats 4000000
namespace Law
open PySem PySem.Spec PyProof.Rows L2 GxR GX Tree Kit Data Loops Comps Purse Sets Small Ib
section
variable {P : Program} {w : World} {K : PySem.W.Frag} {mg : Str → Option Value} {base : Heap} {fa : String → Addr} {fd : String → FuncData} {ca ta : String → Addr}
theorem fn_false {k : Nat} {f : Addr} {fd : FuncData} {ps : List Str} : FnOk P w K mg base CX0 k f fd ps (fun _ _ _ _ => False) := ⟨fun _ _ _ _ h => h.elim, fun _ _ _ _ _ _ _ _ _ _ _ _ _ h => h.elim⟩
theorem kit_seq (d : PyData) : PySem.W.kitAny K (.type (tyD d)) [.type "list", .type "tuple"] = some (isSeq d) := by
  unfold PySem.W.kitAny
  rw [kit_list d]
  cases d with
  | list _ => rfl
  | tuple xs =>
    show PySem.W.kitAny K (.type (tyD (.tuple xs))) [.type "tuple"] = _
    unfold PySem.W.kitAny
    rw [kit_tuple]
    rfl
  | none => show PySem.W.kitAny K (.type (tyD .none)) [.type "tuple"] = _; unfold PySem.W.kitAny; rw [kit_tuple]; rfl
  | bool b => show PySem.W.kitAny K (.type (tyD (.bool b))) [.type "tuple"] = _; unfold PySem.W.kitAny; rw [kit_tuple]; rfl
  | int i => show PySem.W.kitAny K (.type (tyD (.int i))) [.type "tuple"] = _; unfold PySem.W.kitAny; rw [kit_tuple]; rfl
  | str x => show PySem.W.kitAny K (.type (tyD (.str x))) [.type "tuple"] = _; unfold PySem.W.kitAny; rw [kit_tuple]; rfl
  | dict x => show PySem.W.kitAny K (.type (tyD (.dict x))) [.type "tuple"] = _; unfold PySem.W.kitAny; rw [kit_tuple]; rfl
/-- a slice of a list or a tuple -/
theorem sliceE {H : Hp} {a : Addr} {xs : List V} {lo hi : Option Int} {Q : VK} (hx : H a = some (.lst xs) ∨ H a = some (.tup xs))
    (q : ∀ b H', Kx [] H H' → (SqL K H' b (cutV xs lo hi) ∨ SqT K H' b (cutV xs lo hi)) → Q (.ref b) H') : rSlL K (.ref a) lo hi H Q ∨ rSlA K (.ref a) lo hi H Q := by
  rcases hx with h | h
  · exact .inl ⟨a, xs, rfl, SqL.of h, fun p hp => q p _ (Kx.new hp) (.inl (SqL.of upd_same))⟩
  · refine .inr ⟨a, xs, rfl, SqT.of h, fun z => ?_, fun _ p hp => q p _ (Kx.new hp) (.inr (SqT.of upd_same))⟩
    have e : cutV xs lo hi = xs := by
      unfold cutV
      rw [z.1, z.2, List.drop_zero, Nat.sub_zero, List.take_length]
    exact q a H (Kx.refl H) (.inr (by rw [e]; exact SqT.of h))
def sp_law_bent (Ts : List Addr) (k : Nat) : Sp := fun vs H Q _ => ∃ (p : Addr) (n : Nat) (C : List Addr) (v : V) (d : PyData) (L M S : Nat), vs = [.ref p, v] ∧ n + 10 * (k + 1) ≤ 800000000000 ∧ At Ts C p n H ∧ Tr C H v d ∧ Sm L M S k d ∧ L ≤ 100000 ∧ M ≤ 50000000000 ∧ Draws Ts C p n (10 * (k + 1)) (Sm (L + 1) (M + 1000000000) (2 * S + 1) (k + 1)) H Q
theorem bent_step (Y : Facts K mg base fa fd ca ta) (k : Nat) (spR : Sp) (IH : FnOk P w K mg base CX0 (k + 3) (fa "_law_bent") (fd "_law_bent") ["purse", "thing"] spR) (hR : ∀ vs H Q E, 0 < k → sp_law_bent (Ts ta) (k - 1) vs H Q E → spR vs H Q E) :
    FnOk P w K mg base CX0 (k + 4) (fa "_law_bent") (fd "_law_bent") ["purse", "thing"] (sp_law_bent (Ts ta) k) := by
  refine Y.d__law_bent.ok sc__law_bent (fun vs H Q E h => ?_) (fun cdv A outer s H vs Q E hcd hr0 h => ?_)
  · obtain ⟨p, n, C, v, d, L, M, S, rfl, _⟩ := h; rfl
  · obtain ⟨p, n, C, v, d, L, M, S, rfl, hn, hA, ht, hm, hL, hM, q⟩ := h
    have hr : Room 3 (A.deeper (envOfC "_law_bent" (defScope s__law_bent) s.heap.objs.size (fa "_law_bent") cdv)) := hr0.mono (by omega)
    have hS : 1 ≤ S := Nat.le_trans (sz_pos d) hm.sz
    refine ⟨_, (pss_cons (ps_if (pt_not (pt_val (pe_callB (call_isiTK K rfl) (by rfl) Y.b.isinstance (by decide +kernel) (pa_cons (pv 1) (pa_cons (pe_tup (pa_cons (pe_bltn (v := .ty "list") (by rfl) Y.b.list (by decide +kernel) rfl) (pa_cons (pe_bltn (v := .ty "tuple") (by rfl) Y.b.tuple (by decide +kernel) rfl) pa_nil))) pa_nil))))) (pss_one (ps_ret (pe_call (ok__law_other Y) (hr.mono (by decide)) (by rfl) Y.d__law_other.g Y.d__law_other.kp Y.d__law_other.b .nil pass0 (pa_cons (pv 0) (pa_cons (pv 1) pa_nil))))) pss_nil)
      (pss_cons (ps_if ((pw_or (pt_cmpR op_eq (pe_callB (call_lenK K rfl) (by rfl) Y.b.len (by decide +kernel) (pa_cons (pv 1) pa_nil)) pe_int (nomark _)) (pw_or1 (pt_cmpR op_eq (pe_call (ok__law_coin Y) (hr.mono (by decide)) (by rfl) Y.d__law_coin.g Y.d__law_coin.kp Y.d__law_coin.b .nil pass0 (pa_cons (pv 0) (pa_cons pe_int pa_nil))) pe_int (nomark _))))).pt (pss_one (ps_ret (pe_call (ok__law_bent_row Y) (hr.mono (by decide)) (by rfl) Y.d__law_bent_row.g Y.d__law_bent_row.kp Y.d__law_bent_row.b .nil pass0 (pa_cons (pv 0) (pa_cons (pv 1) pa_nil))))) pss_nil)
      (pss_cons (ps_set (i := 2) sc__law_bent.nd rfl (by first | exact Or.inl rfl | exact Or.inr rfl) (pe_call (ok__law_coin Y) (hr.mono (by decide)) (by rfl) Y.d__law_coin.g Y.d__law_coin.kp Y.d__law_coin.b .nil pass0 (pa_cons (pv 0) (pa_cons (pe_callB (call_lenK K rfl) (by rfl) Y.b.len (by decide +kernel) (pa_cons (pv 1) pa_nil)) pa_nil))))
      (pss_cons (ps_set (i := 3) sc__law_bent.nd rfl (by first | exact Or.inl rfl | exact Or.inr rfl) (pe_op op_cat (pe_op op_cat (pe_callTy (call_listK K rfl) (by rfl) Y.b.list (by decide +kernel) (pa_cons (pe_slice ((sl_listK K rfl).or (sl_tupAK K rfl)) (pv 1) po_none (po_some (pv 2))) pa_nil)) (pe_lst (pa_cons (pe_call IH hr0 (by rfl) Y.d__law_bent.g Y.d__law_bent.kp Y.d__law_bent.b .nil pass0 (pa_cons (pv 0) (pa_cons (pe_ix ((ix_listK K rfl).or (ix_tupK K rfl)) (pv 1) (pv 2) (fun _ _ => rfl)) pa_nil))) pa_nil))) (pe_callTy (call_listK K rfl) (by rfl) Y.b.list (by decide +kernel) (pa_cons (pe_slice ((sl_listK K rfl).or (sl_tupAK K rfl)) (pv 1) (po_some (pe_op op_add (pv 2) pe_int)) po_none) pa_nil))))
      (pss_one (ps_ret (pe_ifExp (pt_val (pe_callB (call_isiK' K rfl) (by rfl) Y.b.isinstance (by decide +kernel) (pa_cons (pv 1) (pa_cons (pe_bltn (v := .ty "list") (by rfl) Y.b.list (by decide +kernel) rfl) pa_nil)))) (pv 3) (pe_callTy (call_tupleK K rfl) (by rfl) Y.b.tuple (by decide +kernel) (pa_cons (pv 3) pa_nil))))))))), ?_⟩
    refine ⟨v, rfl, len_ok, fun Tp hTp => ?_⟩
    generalize hq : upd H Tp _ = H1
    obtain ⟨k1, e1⟩ := new_at hTp hq
    clear hq
    have A1 := hA.kx k1
    have ht1 := ht.up k1
    refine ⟨v, Tp, _, _, _, _, rfl, e1, .cons (.ty "list") (.cons (.ty "tuple") .nil), ht1.ty, kit_seq d, _, rfl, ?_⟩
    cases hs : isSeq d with
    | false =>
      refine iteT ⟨.ref p, rfl, v, rfl, p, n, C, v, d, L, M, S, k, rfl, by omega, A1, ht1, hs, hm, hM, fun v' d' H' k2 A2 t2 g2 => ?_⟩
      exact q v' d' H' (k1.of.trans k2) (A2.mono (by omega)) t2 (g2.mono (Nat.le_refl _) (Nat.le_refl _) (by omega) (by omega))
    | true =>
      refine iteF ?_
      obtain ⟨a, xs, ds, rfl, hx, txs⟩ := seqV ht1 hs
      have hlen := txs.length
      obtain ⟨b1, b2, b3⟩ := Sm.seq hm (hx.elim (fun z => .inl z.2) fun z => .inr z.2)
      have hx' : SqL K H1 a xs ∨ SqT K H1 a xs := hx.elim (fun z => .inl (SqL.of z.1)) fun z => .inr (SqT.of z.1)
      have row : ∀ (n' : Nat) (H2 : Hp) (E' : XK), n' ≤ n + 1 → Kx [p] H1 H2 → At (Ts ta) C p n' H2 → sp_law_bent_row (Ts ta) [.ref p, .ref a] H2 Q E' := fun n' H2 E' hn' k2 A2 =>
        ⟨p, n', C, .ref a, d, L, M, S, k, rfl, by omega, A2, A1.tr ht1 k2, hs, hm, hL, fun v' d' H' k3 A3 t3 g3 => q v' d' H' (k1.of.trans (k2.trans k3)) (A3.mono (by omega)) t3 g3⟩
      refine ⟨.ref a, rfl, a, xs, rfl, hx', rfl, _, rfl, ite2 (fun _ => ?_) (fun c0 => ?_)⟩
      · exact ⟨.ref p, rfl, .ref a, rfl, row n H1 E0 (by omega) (Kx.refl _) A1⟩
      have hpos : 0 < xs.length := by
        rcases Nat.eq_zero_or_pos xs.length with z | z
        · rw [z] at c0
          exact absurd (decide_eq_true rfl) c0
        · exact z
      refine ⟨.ref p, rfl, p, n, 5, C, rfl, by decide, by decide, by omega, A1, fun r H2 r0 r1 k2 A2 => ⟨rfl, _, rfl, ite2 (fun _ => ?_) (fun _ => ?_)⟩⟩
      · exact ⟨.ref p, rfl, .ref a, rfl, row (n + 1) H2 E0 (by omega) k2 A2⟩
      have ht2 := A1.tr ht1 k2
      have np : a ∉ [p] := fun z => by
        rw [List.mem_singleton.mp z] at ht1
        exact ht1.out A1.mem
      have hx2 : (H2 a = some (.lst xs) ∧ d = .list ds) ∨ (H2 a = some (.tup xs) ∧ d = .tuple ds) := hx.elim (fun z => .inl ⟨k2.lst np z.1, z.2⟩) fun z => .inr ⟨k2.tup np z.1, z.2⟩
      have hx2' : SqL K H2 a xs ∨ SqT K H2 a xs := hx2.elim (fun z => .inl (SqL.of z.1)) fun z => .inr (SqT.of z.1)
      have txs2 := A1.trs txs k2
      refine ⟨.ref p, rfl, .ref a, rfl, a, xs, rfl, hx2', p, n + 1, (xs.length : Int), C, rfl, by omega, by omega, by omega, A2, fun at_ H3 at0 at1 k3 A3 => ?_⟩
      obtain ⟨at', rfl⟩ : ∃ m : Nat, at_ = (m : Int) := ⟨at_.toNat, by omega⟩
      have hx3 : (H3 a = some (.lst xs) ∧ d = .list ds) ∨ (H3 a = some (.tup xs) ∧ d = .tuple ds) := hx2.elim (fun z => .inl ⟨k3.lst np z.1, z.2⟩) fun z => .inr ⟨k3.tup np z.1, z.2⟩
      have txs3 := A2.trs txs2 k3
      -- list(thing[:at])
      refine ⟨.ref a, rfl, _, rfl, _, rfl, sliceE (hx3.elim (fun z => .inl z.1) fun z => .inr z.1) fun b1 H4 k4 h4 => ⟨b1, _, rfl, h4, fun L1 hL1 => ?_⟩⟩
      rw [cut_hi]
      have A4 := A3.kx k4
      generalize hq : upd H4 L1 _ = H5
      obtain ⟨k5, e5, t5⟩ : Kx [] H4 H5 ∧ H5 L1 = some (.lst (xs.take at')) ∧ Tr C H5 (.ref L1) (.list (ds.take at')) := hq ▸ mk_lst A4.al ((txs3.up k4).take at') hL1
      clear hq
      have A5 := A4.kx k5
      -- the item
      have hx5 : (H5 a = some (.lst xs) ∧ d = .list ds) ∨ (H5 a = some (.tup xs) ∧ d = .tuple ds) := hx3.elim (fun z => .inl ⟨k5.lst (by simp) (k4.lst (by simp) z.1), z.2⟩) fun z => .inr ⟨k5.tup (by simp) (k4.tup (by simp) z.1), z.2⟩
      have txs5 := txs3.up (k4.trans k5)
      have hlt : at' < ds.length := by omega
      obtain ⟨x, ex, tx⟩ := txs5.get' (List.getElem?_eq_getElem hlt)
      have hdx : ds[at'] ∈ ds := List.getElem_mem hlt
      have hk : 0 < k := by
        have := (b3 _ hdx).2
        omega
      refine ⟨.ref p, rfl, .ref a, rfl, _, rfl, ?_⟩
      have ix : ∀ Q' : VK, Q' x H5 → (rIxL K (.ref a) (.int (at' : Int)) H5 Q' ∨ rIxT K (.ref a) (.int (at' : Int)) H5 Q') := fun Q' h => hx5.elim (fun z => .inl ⟨a, xs, _, x, rfl, rfl, SqL.of z.1, atI_nat ex, h⟩) fun z => .inr ⟨a, xs, _, x, rfl, rfl, SqT.of z.1, atI_nat ex, h⟩
      refine ix _ (hR _ _ _ _ hk ⟨p, _, C, x, ds[at'], L, M, sz ds[at'], rfl, ?_, A5, tx, ⟨(b3 _ hdx).1, Nat.le_refl _, ?_⟩, hL, hM, fun v' d' H6 k6 A6 t6 g6 => ⟨len_ok, fun L2 hL2 => ?_⟩⟩)
      · omega
      · have := (b3 _ hdx).2
        omega
      generalize hq : upd H6 L2 _ = H7
      obtain ⟨k7, e7, t7⟩ : Kx [] H6 H7 ∧ H7 L2 = some (.lst [v']) ∧ Tr C H7 (.ref L2) (.list [d']) := hq ▸ mk_lst A6.al (.cons t6 .nil) hL2
      clear hq
      have A7 := A6.kx k7
      have t57 : TrAll C H7 (xs.take at') (ds.take at') := (A5.trs (txs5.take at') k6).up k7
      have e57 : H7 L1 = some (.lst (xs.take at')) := k7.lst (by simp) (k6.lst (A4.nep hL1) e5)
      refine ⟨L1, L2, _, _, rfl, rfl, e57, e7, ?_, fun L3 hL3 => ?_⟩
      · have := List.length_take_le at' xs
        unfold sizeLine
        simp only [List.length_cons, List.length_nil, List.length_take]
        omega
      generalize hq : upd H7 L3 _ = H8
      obtain ⟨k8, e8, t8⟩ : Kx [] H7 H8 ∧ H8 L3 = some (.lst (xs.take at' ++ [v'])) ∧ Tr C H8 (.ref L3) (.list (ds.take at' ++ [d'])) := hq ▸ mk_lst A7.al (t57.append (.cons (t6.up k7) .nil)) hL3
      clear hq
      have A8 := A7.kx k8
      have hx8 : H8 a = some (.lst xs) ∨ H8 a = some (.tup xs) := hx5.elim (fun z => .inl (k8.lst (by simp) (k7.lst (by simp) (k6.lst np z.1)))) fun z => .inr (k8.tup (by simp) (k7.tup (by simp) (k6.tup np z.1)))
      have txs8 := (A5.trs txs5 k6).up (k7.trans k8)
      -- list(thing[at + 1:])
      refine ⟨.ref a, rfl, _, rfl, _, _, rfl, rfl, _, rfl, sliceE hx8 fun b2 H9 k9 h9 => ⟨b2, _, rfl, h9, fun L4 hL4 => ?_⟩⟩
      rw [cut_lo1]
      have A9 := A8.kx k9
      generalize hq : upd H9 L4 _ = H10
      obtain ⟨k10, e10, t10⟩ : Kx [] H9 H10 ∧ H10 L4 = some (.lst (xs.drop (at' + 1))) ∧ Tr C H10 (.ref L4) (.list (ds.drop (at' + 1))) := hq ▸ mk_lst A9.al ((txs8.up k9).drop (at' + 1)) hL4
      clear hq
      have A10 := A9.kx k10
      refine ⟨L3, L4, _, _, rfl, rfl, k10.lst (by simp) (k9.lst (by simp) e8), e10, ?_, fun L5 hL5 => ?_⟩
      · unfold sizeLine
        simp only [List.length_append, List.length_cons, List.length_nil, List.length_take, List.length_drop]
        omega
      generalize hq : upd H10 L5 _ = H11
      have t10' := (((t57.append (.cons (t6.up k7) .nil)).up (k8.trans (k9.trans k10))).append ((txs8.up (k9.trans k10)).drop (at' + 1)))
      obtain ⟨k11, e11, t11⟩ : Kx [] H10 H11 ∧ H11 L5 = some (.lst (xs.take at' ++ [v'] ++ xs.drop (at' + 1))) ∧ Tr C H11 (.ref L5) (.list (ds.take at' ++ [d'] ++ ds.drop (at' + 1))) := hq ▸ mk_lst A10.al t10' hL5
      clear hq
      have A11 := A10.kx k11
      have kall : Kx [p] H H11 := k1.of.trans (k2.trans (k3.trans ((k4.trans k5).of.trans (k6.trans (k7.trans (k8.trans (k9.trans (k10.trans k11)))).of))))
      have ht11 := hA.tr ht kall
      have zs1 := szAll_take ds at'
      have zs2 : szAll (ds.drop at') = sz ds[at'] + szAll (ds.drop (at' + 1)) := by
        rw [List.drop_eq_getElem_cons hlt]
        rfl
      have g1 : (ds.take at' ++ [d'] ++ ds.drop (at' + 1)).length ≤ L + 1 := by
        simp only [List.length_append, List.length_cons, List.length_nil, List.length_take, List.length_drop]
        omega
      have g2 : szAll (ds.take at' ++ [d'] ++ ds.drop (at' + 1)) + 1 ≤ 2 * S + 1 := by
        rw [szAll_append, szAll_append]
        have := g6.sz
        simp only [szAll]
        omega
      have g3 : ∀ y ∈ ds.take at' ++ [d'] ++ ds.drop (at' + 1), Bd (L + 1) (M + 1000000000) y ∧ y.depth + 1 ≤ k + 1 := fun y hy => by
        have hb : ∀ y ∈ ds, Bd (L + 1) (M + 1000000000) y ∧ y.depth + 1 ≤ k + 1 := fun d hd => ⟨Bd.up (b3 d hd).1 (by omega) (by omega), by have := (b3 d hd).2; omega⟩
        rcases List.mem_append.mp hy with z | z
        · rcases List.mem_append.mp z with z | z
          · exact hb y (List.mem_of_mem_take z)
          · rw [List.mem_singleton.mp z]
            exact ⟨g6.bd, by have := g6.dp; omega⟩
        · exact hb y (List.mem_of_mem_drop z)
      have AA := A11.mono (show _ ≤ n + 10 * (k + 1) by omega)
      refine ⟨.ref a, rfl, .ref a, .ty "list", _, _, _, rfl, .ty _, ht11.ty, kit_list d, _, rfl, ite2 (fun c => ?_) (fun c => ?_)⟩
      · exact ⟨_, rfl, q _ _ _ kall AA t11 (Sm.mkList g1 g2 g3 (by omega))⟩
      · refine ⟨_, rfl, L5, _, rfl, .inl ⟨SqL.of e11, fun T hT => ?_⟩⟩
        obtain ⟨k12, e12, t12⟩ := mk_tup A11.al (t10'.up k11) hT
        exact q _ _ _ (kall.trans k12.of) (AA.kx k12) t12 (Sm.mkTuple g1 g2 g3 (by omega))
theorem bent_all (Y : Facts K mg base fa fd ca ta) : ∀ k, FnOk P w K mg base CX0 (k + 4) (fa "_law_bent") (fd "_law_bent") ["purse", "thing"] (sp_law_bent (Ts ta) k)
  | 0 => bent_step Y 0 (fun _ _ _ _ => False) fn_false (fun _ _ _ _ h => absurd h (Nat.lt_irrefl 0))
  | k + 1 => bent_step Y (k + 1) (sp_law_bent (Ts ta) k) (bent_all Y k) (fun _ _ _ _ _ h => h)
def sp_law_bent_any (Ts : List Addr) : Sp := fun vs H Q E => ∃ k, k ≤ 10 ∧ sp_law_bent Ts k vs H Q E
theorem ok__law_bent (Y : Facts K mg base fa fd ca ta) : FnOk P w K mg base CX0 14 (fa "_law_bent") (fd "_law_bent") ["purse", "thing"] (sp_law_bent_any (Ts ta)) :=
  ⟨fun vs H Q E ⟨k, _, h⟩ => (bent_all (P := P) (w := w) Y k).len vs H Q E h, fun A outer s H args us vs Q E hr e0 hb r ⟨k, hk, h⟩ => (bent_all Y k).run A outer s H args us vs Q E (hr.mono (by omega)) e0 hb r h⟩
end
end Law

set_option Elab.async false
set_option linter.all false
set_option maxRecDepth 100000
set_option maxHeartbeats 4000000
namespace Law
open PySem PySem.Spec PyProof.Rows L2 GxR GX Tree Kit Data Loops Comps Purse Sets Sets2 Small Ib
section
variable {P : Program} {w : World} {K : PySem.W.Frag} {mg : Str → Option Value} {base : Heap} {fa : String → Addr} {fd : String → FuncData} {ca ta : String → Addr}
/-! ### the law's own look -/
def sp_law_whole : Sp := fun vs H Q _ => ∃ v d lo hi, vs = [v, .int lo, .int hi] ∧ Tr [] H v d ∧ ∀ H', Kx [] H H' → Q (.bl (isWh lo hi d)) H'
theorem ok__law_whole (Y : Facts K mg base fa fd ca ta) : FnOk P w K mg base CX0 1 (fa "_law_whole") (fd "_law_whole") ["thing", "low", "high"] sp_law_whole := by
  refine Y.d__law_whole.ok sc__law_whole (fun vs H Q E h => ?_) (fun cdv A outer s H vs Q E hcd hr h => ?_)
  · obtain ⟨v, d, lo, hi, rfl, _⟩ := h; rfl
  · obtain ⟨v, d, lo, hi, rfl, ht, q⟩ := h
    refine ⟨_, (pss_one (ps_ret (pe_and (pe_callB (call_isiK' K rfl) (by rfl) Y.b.isinstance (by decide +kernel) (pa_cons (pv 0) (pa_cons (pe_bltn (v := .ty "int") (by rfl) Y.b.int (by decide +kernel) rfl) pa_nil))) (pe_and (pe_not (pe_callB (call_isiK' K rfl) (by rfl) Y.b.isinstance (by decide +kernel) (pa_cons (pv 0) (pa_cons (pe_bltn (v := .ty "bool") (by rfl) Y.b.bool (by decide +kernel) rfl) pa_nil)))) (pe_one (pe_cmpR op_in_rng (pv 0) (pe_callTy cr_range2 (by rfl) Y.b.range (by decide +kernel) (pa_cons (pv 1) (pa_cons (pe_op op_add (pv 2) pe_int) pa_nil))) (by rfl))))))), ?_⟩
    refine ⟨v, rfl, v, .ty "int", _, _, _, rfl, .ty _, ht.ty, kit_int d, _, rfl, ite2 (fun c => ?_) (fun c => ?_)⟩
    · refine ⟨v, rfl, v, .ty "bool", _, _, _, rfl, .ty _, ht.ty, kit_bool d, ?_⟩
      cases ht with
      | int i =>
        refine ⟨_, rfl, _, rfl, iteT ⟨.int i, rfl, .int lo, rfl, .int hi, rfl, _, _, rfl, rfl, _, _, rfl, fun R hR => ⟨i, R, _, _, rfl, rfl, upd_same, ?_⟩⟩⟩
        have e : decide (lo ≤ i ∧ i < hi + 1) = isWh lo hi (.int i) := by
          show _ = (decide (lo ≤ i) && decide (i ≤ hi))
          rw [Bool.eq_iff_iff]
          simp only [decide_eq_true_eq, Bool.and_eq_true]
          omega
        rw [e]
        exact q _ (Kx.new hR)
      | bl b =>
        exact ⟨_, rfl, _, rfl, iteF (q H (Kx.refl H))⟩
      | _ => cases c
    · have e : isWh lo hi d = false := by cases d <;> first | rfl | exact absurd rfl c
      have := q H (Kx.refl H)
      rw [e] at this
      exact this
theorem notE {b : Bool} (h : ¬ b = true) : b = false := by simpa using h
theorem filter_not_nil {α : Type} (p : α → Bool) (l : List α) : (l.filter fun x => !p x).isEmpty = l.all p := by
  induction l with
  | nil => rfl
  | cons x r ih =>
    rw [List.filter_cons, List.all_cons]
    cases h : p x with
    | true => simpa [h] using ih
    | false => simp [h]
theorem trAll_empty {B : List Addr} {H : Hp} {ys : List V} {es : List PyData} (t : TrAll B H ys es) : ys.isEmpty = es.isEmpty := by
  cases t <;> rfl
def sp_law_each : Sp := fun vs H Q _ => ∃ v d lo hi, vs = [v, .int lo, .int hi] ∧ Tr [] H v d ∧ sz d ≤ 100000 ∧ ∀ H', Kx [] H H' → Q (.bl (listAll (isWh lo hi) d)) H'
theorem ok__law_each (Y : Facts K mg base fa fd ca ta) : FnOk P w K mg base CX0 2 (fa "_law_each") (fd "_law_each") ["things", "low", "high"] sp_law_each := by
  refine Y.d__law_each.ok sc__law_each (fun vs H Q E h => ?_) (fun cdv A outer s H vs Q E hcd hr h => ?_)
  · obtain ⟨v, d, lo, hi, rfl, _⟩ := h; rfl
  · obtain ⟨v, d, lo, hi, rfl, ht, hz, q⟩ := h
    refine ⟨_, (pss_one (ps_ret (pe_and (pe_callB (call_isiK' K rfl) (by rfl) Y.b.isinstance (by decide +kernel) (pa_cons (pv 0) (pa_cons (pe_bltn (v := .ty "list") (by rfl) Y.b.list (by decide +kernel) rfl) pa_nil))) (pe_one (pe_cmpR (op_eqNil hr.units0) (pe_lc (own := [("one", 3)]) (g := gName 3) rfl sc__law_each.nd (pi_listK K rfl (pv 0)) (blkOk_by (N := ["things", "low", "high", "one"]) (sc := defScope s__law_each) (by decide +kernel)) (fun _ _ _ _ _ => (pg_name (i := 3) sc__law_each.nd rfl (by first | exact Or.inl rfl | exact Or.inr rfl))) (fun _ _ _ _ _ => (pts_one (pt_not (pt_val (pe_call (ok__law_whole Y) (hr.mono (by decide)) (by rfl) Y.d__law_whole.g Y.d__law_whole.kp Y.d__law_whole.b .nil pass0 (pa_cons (pv 3) (pa_cons (pv 1) (pa_cons (pv 2) pa_nil)))))))) (fun _ _ _ _ _ => (pv 3))) (pe_lst pa_nil) (nomark _)))))), ?_⟩
    refine ⟨v, rfl, v, .ty "list", _, _, _, rfl, .ty _, ht.ty, kit_list d, _, rfl, ite2 (fun c => ?_) (fun c => ?_)⟩
    · cases ht with
      | lst n h l =>
        rename_i a xs ds
        have hl : ds.length < sizeLine := by
          have := szAll_len ds
          simp only [sz] at hz
          unfold sizeLine
          omega
        refine lc_use ⟨.ref a, rfl, a, rfl, ⟨xs, SqL.of h⟩, ?_⟩
        refine lc_filter (fun x => !isWh lo hi x) h l hl (fun x d H' hd t k R R0 hR hR0 => ?_) fun D ys H' k hD hd ty => ?_
        · refine ⟨rfl, x, rfl, .int lo, rfl, .int hi, rfl, x, d, lo, hi, rfl, t, fun H'' k2 => ?_⟩
          exact ⟨_, rfl, ite2 (fun c => ⟨x, rfl, hR c H'' k2⟩) (fun c => hR0 (notE c) H'' k2)⟩
        · refine ⟨len_ok, fun N hN => ⟨D, N, ys, rfl, rfl, (Kx.new (B := []) hN).lst (by simp) hd, upd_same, ?_⟩⟩
          have e : ys.isEmpty = listAll (isWh lo hi) (.list ds) := by
            rw [trAll_empty ty, filter_not_nil]
            rfl
          rw [e]
          exact q _ (k.trans (Kx.new hN))
      | _ => cases c
    · have e : listAll (isWh lo hi) d = false := by cases d <;> first | rfl | exact absurd rfl c
      have := q H (Kx.refl H)
      rw [e] at this
      exact this
def sp_law_is_sight : Sp := fun vs H Q _ => ∃ v d h cr, vs = [v, .int h, .int cr] ∧ Tr [] H v d ∧ sz d ≤ 100000 ∧ cr ≤ 60 ∧ ∀ H', Kx [] H H' → Q (.bl (sightB h cr d)) H'
theorem ok__law_is_sight (Y : Facts K mg base fa fd ca ta) : FnOk P w K mg base CX0 3 (fa "_law_is_sight") (fd "_law_is_sight") ["sight", "hours", "craft"] sp_law_is_sight := by
  refine Y.d__law_is_sight.ok sc__law_is_sight (fun vs H Q E h => ?_) (fun cdv A outer s H vs Q E hcd hr h => ?_)
  · obtain ⟨v, d, h, cr, rfl, _⟩ := h; rfl
  · obtain ⟨v, d, hh, cr, rfl, ht, hz, hc60, q⟩ := h
    refine ⟨_, (pss_cons (ps_if ((pw_or (pt_not (pt_val (pe_callB (call_isiK' K rfl) (by rfl) Y.b.isinstance (by decide +kernel) (pa_cons (pv 0) (pa_cons (pe_bltn (v := .ty "list") (by rfl) Y.b.list (by decide +kernel) rfl) pa_nil))))) (pw_or1 (pt_cmpR op_ne (pe_callB (call_lenK K rfl) (by rfl) Y.b.len (by decide +kernel) (pa_cons (pv 0) pa_nil)) (pv 1) (nomark _))))).pt (pss_one (ps_ret pe_bl)) pss_nil)
      (pss_cons (ps_if (pt_cmpR (op_neNil hr.units0) (pe_lc (own := [("heard", 3)]) (g := gName 3) rfl sc__law_is_sight.nd (pi_listK K rfl (pv 0)) (blkOk_by (N := ["sight", "hours", "craft", "heard"]) (sc := defScope s__law_is_sight) (by decide +kernel)) (fun _ _ _ _ _ => (pg_name (i := 3) sc__law_is_sight.nd rfl (by first | exact Or.inl rfl | exact Or.inr rfl))) (fun _ _ _ _ _ => (pts_one (pt_not (pt_val (pe_call (ok__law_each Y) (hr.mono (by decide)) (by rfl) Y.d__law_each.g Y.d__law_each.kp Y.d__law_each.b .nil pass0 (pa_cons (pv 3) (pa_cons pe_int (pa_cons (pe_op op_sub (pv 2) pe_int) pa_nil)))))))) (fun _ _ _ _ _ => (pv 3))) (pe_lst pa_nil) (nomark _)) (pss_one (ps_ret pe_bl)) pss_nil)
      (pss_one (ps_ret (pe_cmpR (op_eqNil hr.units0) (pe_lc (own := [("heard", 3)]) (g := gName 3) rfl sc__law_is_sight.nd (pi_listK K rfl (pv 0)) (blkOk_by (N := ["sight", "hours", "craft", "heard"]) (sc := defScope s__law_is_sight) (by decide +kernel)) (fun _ _ _ _ _ => (pg_name (i := 3) sc__law_is_sight.nd rfl (by first | exact Or.inl rfl | exact Or.inr rfl))) (fun _ _ _ _ _ => (pts_one (pt_cmpR (op_neDK K rfl hr.units) (pv 3) (pe_callB (cr_sortedSetW w rfl rfl) (by rfl) Y.b.sorted (by decide +kernel) (pa_cons (pe_callTy (Sets2.call_setF w rfl rfl) (by rfl) Y.b.set (by decide +kernel) (pa_cons (pv 3) pa_nil)) pa_nil)) (nomark _)))) (fun _ _ _ _ _ => (pv 3))) (pe_lst pa_nil) (nomark _)))))), ?_⟩
    refine ⟨v, rfl, v, .ty "list", _, _, _, rfl, .ty _, ht.ty, kit_list d, _, rfl, ite2 (fun c => ?_) (fun c => ?_)⟩
    · have c' : isiD "list" d = false := by simpa using c
      have e : sightB hh cr d = false := by cases d <;> first | rfl | exact absurd (c'.symm.trans rfl : false = true) Bool.false_ne_true
      have := q H (Kx.refl H)
      rw [e] at this
      exact this
    · cases ht with
      | lst n h l =>
        rename_i a xs ds
        have hlen := l.length
        have hl : ds.length < sizeLine := by
          have := szAll_len ds
          simp only [sz] at hz
          unfold sizeLine
          omega
        refine ⟨_, rfl, a, xs, rfl, .inl (SqL.of h), _, rfl, rfl, _, rfl, ite2 (fun c1 => ?_) (fun c1 => ?_)⟩
        · have e : sightB hh cr (.list ds) = false := by
            have : isLs hh hh (.list ds) = false := by
              show (decide (hh ≤ (ds.length : Int)) && decide ((ds.length : Int) ≤ hh)) = false
              rw [Bool.eq_false_iff]
              intro z
              simp only [Bool.and_eq_true, decide_eq_true_eq] at z
              rw [hlen, show hh = (ds.length : Int) by omega] at c1
              simp at c1
            unfold sightB
            rw [this, Bool.false_and]
          have := q H (Kx.refl H)
          rw [e] at this
          exact this
        have el : isLs hh hh (.list ds) = true := by
          have c1 := notE c1
          simp only [Bool.not_eq_false', decide_eq_true_eq] at c1
          have : (xs.length : Int) = hh := V.int.inj c1
          show (decide (hh ≤ (ds.length : Int)) && decide ((ds.length : Int) ≤ hh)) = true
          simp only [Bool.and_eq_true, decide_eq_true_eq]
          omega
        refine st_next ?_
        dsimp only
        refine st_seq (st_ifs (st_test (st_op (lc_use ?_))))
        refine ⟨.ref a, rfl, a, rfl, ⟨xs, SqL.of h⟩, ?_⟩
        refine lc_filter (fun x => !listAll (isWh 0 (cr - 1)) x) h l hl (fun x d H' hd t k R R0 hR hR0 => ?_) fun D ys H1 k1 hD hd ty => ?_
        · refine ⟨rfl, x, rfl, .int cr, rfl, _, _, rfl, rfl, x, d, 0, cr - 1, rfl, t, sz_in hd hz, fun H'' k2 => ?_⟩
          exact ⟨_, rfl, ite2 (fun c => ⟨x, rfl, hR c H'' k2⟩) (fun c => hR0 (notE c) H'' k2)⟩
        · refine ⟨len_ok, fun N hN => ⟨D, N, ys, rfl, rfl, (Kx.new (B := []) hN).lst (by simp) hd, upd_same, _, rfl, ?_⟩⟩
          have kN := k1.trans (Kx.new (o := .lst []) hN)
          have e : ys.isEmpty = ds.all (listAll (isWh 0 (cr - 1))) := by
            rw [trAll_empty ty, filter_not_nil]
          rw [e]
          refine ite2 (fun c2 => ?_) (fun c2 => ?_)
          · have e2 : sightB hh cr (.list ds) = false := by
              unfold sightB
              rw [el, Bool.true_and]
              show ds.all (heardB cr) = false
              rw [Bool.eq_false_iff]
              intro z
              have : ds.all (listAll (isWh 0 (cr - 1))) = true := List.all_eq_true.mpr fun y hy => by
                have := List.all_eq_true.mp z y hy
                cases y with
                | list zs =>
                  exact (Bool.and_eq_true_iff.mp this).1
                | _ => cases this
              rw [this] at c2
              cases c2
            have := q _ kN
            rw [e2] at this
            exact this
          · have c2 : ds.all (listAll (isWh 0 (cr - 1))) = true := by simpa using c2
            have hN2 := (kN.lst (by simp) h)
            generalize hq : upd H1 N (.lst []) = H2 at kN hN2 ⊢
            refine st_next ?_
            dsimp only
            refine st_ret (st_op (lc_use ?_))
            refine ⟨.ref a, rfl, a, rfl, ⟨xs, SqL.of hN2⟩, ?_⟩
            have heard : ∀ d ∈ ds, ∃ ns : List Int, d = .list (ns.map .int) ∧ Few ns 60 ∧ heardB cr d = risesB ns := fun d hd => by
              have h1 := List.all_eq_true.mp c2 d hd
              cases d with
              | list zs =>
                have h3 := all_ints h1
                refine ⟨intsD zs, congrArg PyData.list h3, fun L nd sub => ?_, ?_⟩
                · have h4 : ∀ j ∈ intsD zs, 0 ≤ j ∧ j < ((60 : Nat) : Int) := fun j hj => by
                    have h5 : PyData.int j ∈ zs := by rw [h3]; exact List.mem_map_of_mem hj
                    have h6 : isWh 0 (cr - 1) (.int j) = true := List.all_eq_true.mp h1 _ h5
                    have h7 : (decide (0 ≤ j) && decide (j ≤ cr - 1)) = true := h6
                    simp only [Bool.and_eq_true, decide_eq_true_eq] at h7
                    omega
                  exact few_range h4 L nd sub
                show (zs.all (isWh 0 (cr - 1)) && risesB (intsD zs)) = _
                rw [show zs.all (isWh 0 (cr - 1)) = true from h1, Bool.true_and]
              | _ => cases h1
            refine lc_filter (fun x => !heardB cr x) hN2 (l.up kN) hl (fun x d H' hd t k R R0 hR hR0 => ?_) fun D2 ys2 H3 k3 hD2 hd2 ty2 => ?_
            · obtain ⟨ns, rfl, h3, hB⟩ := heard d hd
              obtain ⟨b, us, rfl, eb, tb⟩ := t.listV
              have eu : us = ns.map V.int := by
                have := TrAll.intsV tb (by rw [intsD_map])
                rwa [intsD_map] at this
              rw [eu] at eb
              refine ⟨rfl, .ref b, rfl, .ref b, rfl, b, ns, rfl, eb, h3, fun S cc hcc hS => ?_⟩
              refine ⟨S, _, cc, rfl, upd_same, by omega, fun ms p hms hmem hml hp => ?_⟩
              have kS : Kx [] H' (upd (upd H' S (SetO w S (fun j => decide (j ∈ ns)) cc)) p (.lst (ms.map V.int))) := (Kx.new hS).trans (Kx.new hp)
              refine ⟨_, _, dp_ints (kS.lst (by simp) eb), dp_ints upd_same, shaped_ints ns, shaped_ints ms, _, rfl, ?_⟩
              rw [eqv_ints, sorted_eq hms (fun k => by rw [hmem k]; simp), ← hB]
              exact ite2 (fun c => ⟨.ref b, rfl, hR c _ kS⟩) (fun c => hR0 (notE c) _ kS)
            · refine ⟨len_ok, fun N2 hN2' => ⟨D2, N2, ys2, rfl, rfl, (Kx.new (B := []) hN2').lst (by simp) hd2, upd_same, ?_⟩⟩
              have e3 : ys2.isEmpty = sightB hh cr (.list ds) := by
                rw [trAll_empty ty2, filter_not_nil]
                unfold sightB
                rw [el, Bool.true_and]
                rfl
              rw [e3]
              exact q _ (kN.trans (k3.trans (Kx.new hN2')))
      | _ => exact absurd rfl c
theorem not_tuple {p : PyData → Bool} {d : PyData} (h : isiD "tuple" d = false) (hp : ∀ d, isTp 5 d = false → p d = false) : p d = false := hp d (by cases d <;> first | rfl | exact absurd (h.symm.trans rfl : false = true) Bool.false_ne_true)
theorem blockB_tp {h cr : Int} (d : PyData) (c : isTp 5 d = false) : blockB h cr d = false := by
  cases d with
  | tuple xs =>
    match xs with
    | [a, b, c', d', e'] => cases c
    | [] => rfl
    | [_] => rfl
    | [_, _] => rfl
    | [_, _, _] => rfl
    | [_, _, _, _] => rfl
    | _ :: _ :: _ :: _ :: _ :: _ :: _ => rfl
  | _ => rfl
theorem isDayB_tp (d : PyData) (c : isTp 5 d = false) : isDayB d = false := by
  cases d with
  | tuple xs =>
    match xs with
    | [a, b, c', d', e'] => cases c
    | [] => rfl
    | [_] => rfl
    | [_, _] => rfl
    | [_, _, _] => rfl
    | [_, _, _, _] => rfl
    | _ :: _ :: _ :: _ :: _ :: _ :: _ => rfl
  | _ => rfl
theorem len5 {n : Nat} (c : (!decide (V.int (n : Int) = V.int 5)) = true) : decide ((n : Int) = 5) = false := by
  refine decide_eq_false fun z => ?_
  rw [z] at c
  simp at c
theorem len5' {n : Nat} (c : ¬ (!decide (V.int (n : Int) = V.int 5)) = true) : (n : Int) = 5 := by
  have := notE c
  simp only [Bool.not_eq_false', decide_eq_true_eq] at this
  exact V.int.inj this
def sp_law_is_block : Sp := fun vs H Q _ => ∃ v d h cr, vs = [v, .int h, .int cr] ∧ Tr [] H v d ∧ ∀ H', Kx [] H H' → Q (.bl (blockB h cr d)) H'
theorem ok__law_is_block (Y : Facts K mg base fa fd ca ta) : FnOk P w K mg base CX0 2 (fa "_law_is_block") (fd "_law_is_block") ["block", "hours", "craft"] sp_law_is_block := by
  refine Y.d__law_is_block.ok sc__law_is_block (fun vs H Q E h => ?_) (fun cdv A outer s H vs Q E hcd hr h => ?_)
  · obtain ⟨v, d, h, cr, rfl, _⟩ := h; rfl
  · obtain ⟨v, d, hh, cr, rfl, ht, q⟩ := h
    refine ⟨_, (pss_cons (ps_if ((pw_or (pt_not (pt_val (pe_callB (call_isiK' K rfl) (by rfl) Y.b.isinstance (by decide +kernel) (pa_cons (pv 0) (pa_cons (pe_bltn (v := .ty "tuple") (by rfl) Y.b.tuple (by decide +kernel) rfl) pa_nil))))) (pw_or1 (pt_cmpR op_ne (pe_callB (call_lenK K rfl) (by rfl) Y.b.len (by decide +kernel) (pa_cons (pv 0) pa_nil)) pe_int (nomark _))))).pt (pss_one (ps_ret pe_bl)) pss_nil)
      (pss_cons (ps_asg (pv 0) (pg_tupK (n := 5) K rfl rfl (pgs_cons (pg_name (i := 3) sc__law_is_block.nd rfl (by first | exact Or.inl rfl | exact Or.inr rfl)) (pgs_cons (pg_name (i := 4) sc__law_is_block.nd rfl (by first | exact Or.inl rfl | exact Or.inr rfl)) (pgs_cons (pg_name (i := 5) sc__law_is_block.nd rfl (by first | exact Or.inl rfl | exact Or.inr rfl)) (pgs_cons (pg_name (i := 6) sc__law_is_block.nd rfl (by first | exact Or.inl rfl | exact Or.inr rfl)) (pgs_cons (pg_name (i := 7) sc__law_is_block.nd rfl (by first | exact Or.inl rfl | exact Or.inr rfl)) pgs_nil)))))))
      (pss_cons (ps_if ((pw_or (pt_not (pt_val (pe_call (ok__law_whole Y) (hr.mono (by decide)) (by rfl) Y.d__law_whole.g Y.d__law_whole.kp Y.d__law_whole.b .nil pass0 (pa_cons (pv 3) (pa_cons pe_int (pa_cons pe_int pa_nil)))))) (pw_or (pt_not (pt_val (pe_call (ok__law_whole Y) (hr.mono (by decide)) (by rfl) Y.d__law_whole.g Y.d__law_whole.kp Y.d__law_whole.b .nil pass0 (pa_cons (pv 4) (pa_cons pe_int (pa_cons (pe_op op_sub (pv 2) pe_int) pa_nil)))))) (pw_or1 (pt_not (pt_val (pe_call (ok__law_whole Y) (hr.mono (by decide)) (by rfl) Y.d__law_whole.g Y.d__law_whole.kp Y.d__law_whole.b .nil pass0 (pa_cons (pv 7) (pa_cons pe_int (pa_cons pe_int pa_nil)))))))))).pt (pss_one (ps_ret pe_bl)) pss_nil)
      (pss_one (ps_ret (pe_and (pe_call (ok__law_whole Y) (hr.mono (by decide)) (by rfl) Y.d__law_whole.g Y.d__law_whole.kp Y.d__law_whole.b .nil pass0 (pa_cons (pv 5) (pa_cons pe_int (pa_cons (pe_op op_sub (pv 1) pe_int) pa_nil)))) (pe_one (pe_or (pe_cmpR op_isN (pv 6) pe_non (nomark _)) (pe_one (pe_call (ok__law_whole Y) (hr.mono (by decide)) (by rfl) Y.d__law_whole.g Y.d__law_whole.kp Y.d__law_whole.b .nil pass0 (pa_cons (pv 6) (pa_cons (pv 5) (pa_cons (pe_op op_sub (pv 1) pe_int) pa_nil))))))))))))), ?_⟩
    have no : ∀ H', Kx [] H H' → blockB hh cr d = false → Q (.bl false) H' := fun H' k e => by
      have := q H' k
      rwa [e] at this
    refine ⟨v, rfl, v, .ty "tuple", _, _, _, rfl, .ty _, ht.ty, kit_tuple d, _, rfl, ite2 (fun c => ?_) (fun c => ?_)⟩
    · exact no H (Kx.refl H) (not_tuple (by simpa using c) blockB_tp)
    · cases ht with
      | tup m ha l =>
        rename_i a xs ds
        have hlen := l.length
        refine ⟨_, rfl, a, xs, rfl, .inr (SqT.of ha), rfl, _, rfl, ite2 (fun c1 => ?_) (fun c1 => ?_)⟩
        · exact no H (Kx.refl H) (blockB_tp _ (by rw [hlen] at c1; exact len5 c1))
        obtain ⟨ho, nu, re, du, wo, rfl⟩ := tuple5 (by rw [← hlen]; exact len5' c1)
        obtain ⟨v1, v2, v3, v4, v5, rfl, t1, t2, t3, t4, t5⟩ := TrAll.five l
        refine ⟨.ref a, rfl, a, _, rfl, SqT.of ha, rfl, v1, _, rfl, v2, _, rfl, v3, _, rfl, v4, _, rfl, v5, _, rfl, rfl, ?_⟩
        refine ⟨_, rfl, _, ho, 0, 5, rfl, t1, fun H1 k1 => ⟨_, rfl, ?_⟩⟩
        cases h1 : isWh 0 5 ho with
        | false => exact iteT (no _ k1 (by simp only [blockB, h1, Bool.false_and]))
        | true =>
        refine iteF ⟨_, rfl, _, rfl, _, _, rfl, rfl, _, nu, 0, cr - 1, rfl, t2.up k1, fun H2 k2 => ⟨_, rfl, ?_⟩⟩
        have k12 := k1.trans k2
        cases h2 : isWh 0 (cr - 1) nu with
        | false => exact iteT (no _ k12 (by simp only [blockB, h1, h2, Bool.false_and, Bool.and_false]))
        | true =>
        refine iteF ⟨_, rfl, _, wo, 1, 9999, rfl, t5.up k12, fun H3 k3 => ⟨_, rfl, ?_⟩⟩
        have k13 := k12.trans k3
        cases h5 : isWh 1 9999 wo with
        | false => exact iteT (no _ k13 (by simp only [blockB, h5, Bool.false_and, Bool.and_false]))
        | true =>
        refine iteF ⟨_, rfl, _, rfl, _, _, rfl, rfl, _, re, 0, hh - 1, rfl, t3.up k13, fun H4 k4 => ⟨_, rfl, ?_⟩⟩
        have k14 := k13.trans k4
        cases h3 : isWh 0 (hh - 1) re with
        | false => exact iteF (no _ k14 (by simp only [blockB, h3, Bool.false_and, Bool.and_false]))
        | true =>
        obtain ⟨r, rfl, _, _⟩ := isWh_int h3
        cases t3
        refine iteT ⟨_, rfl, rfl, _, rfl, ?_⟩
        rw [isNone_v t4]
        cases h4 : isNone du with
        | true =>
          have := q _ k14
          simp only [blockB, h1, h2, h3, h4, h5, Bool.true_and, Bool.true_or, Bool.and_true] at this
          exact iteT this
        | false =>
          refine iteF ⟨v4, rfl, _, rfl, _, rfl, _, _, rfl, rfl, v4, du, r, hh - 1, rfl, t4.up k14, fun H5 k5 => ?_⟩
          have := q _ (k14.trans k5)
          simp only [blockB, h1, h2, h3, h4, h5, Bool.true_and, Bool.false_or, Bool.and_true] at this
          exact this
      | _ => exact absurd rfl c
theorem st_not {t : TT} {σ : L2.St} {H : Hp} {Q : Bool → Hp → Prop} (h : t σ H fun c H1 => Q (!c) H1) : tNot t σ H Q := h
theorem st_b {t : TE} {σ : L2.St} {H : Hp} {Q : Bool → Hp → Prop} (h : t σ H fun x H1 => ∃ c, x = .bl c ∧ Q c H1) : tB t σ H Q := h
theorem st_call {sp : Sp} {dvs : List V} {E : XK} {t : TA} {σ : L2.St} {H : Hp} {Q : VK} (h : t σ H fun vs H1 => sp (vs ++ dvs) H1 Q E) : tCall sp dvs E t σ H Q := h
theorem szAll_filter (p : PyData → Bool) : ∀ ds : List PyData, szAll (ds.filter p) ≤ szAll ds
  | [] => Nat.le_refl _
  | d :: ds => by
    have ih := szAll_filter p ds
    rw [List.filter_cons]
    split <;> simp only [szAll] <;> omega
theorem all_filter {p : PyData → Bool} : ∀ ds : List PyData, (ds.filter fun x => !isNone x).all p = ds.all fun a => isNone a || p a
  | [] => rfl
  | d :: ds => by
    have ih := all_filter (p := p) ds
    rw [List.filter_cons, List.all_cons]
    cases h : isNone d with
    | true => simpa [h] using ih
    | false => simp only [Bool.not_false, if_true, List.all_cons, Bool.false_or, ih]
theorem in4 (n : Nat) : inV (.int (n : Int)) [.int 1, .int 2, .int 3, .int 4] = (decide (1 ≤ (n : Int)) && decide ((n : Int) ≤ 4)) := by
  rw [Bool.eq_iff_iff]
  simp [inV, eqV]
  omega
theorem in3 (n : Nat) : inV (.int (n : Int)) [.int 1, .int 2, .int 3] = (decide (1 ≤ (n : Int)) && decide ((n : Int) ≤ 3)) := by
  rw [Bool.eq_iff_iff]
  simp [inV, eqV]
  omega
theorem isi_list {d : PyData} (h : isiD "list" d = false) {lo hi : Int} : isLs lo hi d = false := by
  cases d <;> first | rfl | exact absurd (h.symm.trans rfl : false = true) Bool.false_ne_true
theorem isi_list' {d : PyData} (h : isiD "list" d = true) : ∃ ds, d = .list ds := by
  cases d with
  | list ds => exact ⟨ds, rfl⟩
  | _ => cases h
end
end Law

set_option Elab.async false
set_option linter.all false
set_option maxRecDepth 100000
set_option maxHeartbeats 4000000
namespace Law
open PySem PySem.Spec PyProof.Rows L2 GxR GX Tree Kit Data Loops Comps Purse Sets Small Ib
section
variable {P : Program} {w : World} {K : PySem.W.Frag} {mg : Str → Option Value} {base : Heap} {fa : String → Addr} {fd : String → FuncData} {ca ta : String → Addr}
def sp_law_is_day : Sp := fun vs H Q _ => ∃ v d, vs = [v] ∧ Tr [] H v d ∧ sz d ≤ 100000 ∧ ∀ H', Kx [] H H' → Q (.bl (isDayB d)) H'
theorem ok__law_is_day (Y : Facts K mg base fa fd ca ta) : FnOk P w K mg base CX0 4 (fa "_law_is_day") (fd "_law_is_day") ["thing"] sp_law_is_day := by
  refine Y.d__law_is_day.ok sc__law_is_day (fun vs H Q E h => ?_) (fun cdv A outer s H vs Q E hcd hr h => ?_)
  · obtain ⟨v, d, rfl, _⟩ := h; rfl
  · obtain ⟨v, d, rfl, ht, hz, q⟩ := h
    refine ⟨_, (pss_cons (ps_if ((pw_or (pt_not (pt_val (pe_callB (call_isiK' K rfl) (by rfl) Y.b.isinstance (by decide +kernel) (pa_cons (pv 0) (pa_cons (pe_bltn (v := .ty "tuple") (by rfl) Y.b.tuple (by decide +kernel) rfl) pa_nil))))) (pw_or (pt_cmpR op_ne (pe_callB (call_lenK K rfl) (by rfl) Y.b.len (by decide +kernel) (pa_cons (pv 0) pa_nil)) pe_int (nomark _)) (pw_or1 (pt_not (pt_val (pe_call (ok__law_whole Y) (hr.mono (by decide)) (by rfl) Y.d__law_whole.g Y.d__law_whole.kp Y.d__law_whole.b .nil pass0 (pa_cons (pe_ix (ix_tupK K rfl) (pv 0) pe_int (fun _ _ => rfl)) (pa_cons pe_int (pa_cons pe_int pa_nil)))))))))).pt (pss_one (ps_ret pe_bl)) pss_nil)
      (pss_cons (ps_asg (pv 0) (pg_tupK (n := 5) K rfl rfl (pgs_cons (pg_name (i := 1) sc__law_is_day.nd rfl (by first | exact Or.inl rfl | exact Or.inr rfl)) (pgs_cons (pg_name (i := 2) sc__law_is_day.nd rfl (by first | exact Or.inl rfl | exact Or.inr rfl)) (pgs_cons (pg_name (i := 3) sc__law_is_day.nd rfl (by first | exact Or.inl rfl | exact Or.inr rfl)) (pgs_cons (pg_name (i := 4) sc__law_is_day.nd rfl (by first | exact Or.inl rfl | exact Or.inr rfl)) (pgs_cons (pg_name (i := 5) sc__law_is_day.nd rfl (by first | exact Or.inl rfl | exact Or.inr rfl)) pgs_nil)))))))
      (pss_cons (ps_if ((pw_or (pt_not (pt_val (pe_call (ok__law_each Y) (hr.mono (by decide)) (by rfl) Y.d__law_each.g Y.d__law_each.kp Y.d__law_each.b .nil pass0 (pa_cons (pv 2) (pa_cons pe_int (pa_cons pe_int pa_nil)))))) (pw_or (pt_not (pt_val (pe_callB (call_isiK' K rfl) (by rfl) Y.b.isinstance (by decide +kernel) (pa_cons (pv 3) (pa_cons (pe_bltn (v := .ty "list") (by rfl) Y.b.list (by decide +kernel) rfl) pa_nil))))) (pw_or1 (pt_not (pt_val (pe_callB (call_isiK' K rfl) (by rfl) Y.b.isinstance (by decide +kernel) (pa_cons (pv 4) (pa_cons (pe_bltn (v := .ty "list") (by rfl) Y.b.list (by decide +kernel) rfl) pa_nil))))))))).pt (pss_one (ps_ret pe_bl)) pss_nil)
      (pss_cons (ps_if ((pw_or (pt_not (pt_val (pe_callB (call_isiK' K rfl) (by rfl) Y.b.isinstance (by decide +kernel) (pa_cons (pv 5) (pa_cons (pe_bltn (v := .ty "list") (by rfl) Y.b.list (by decide +kernel) rfl) pa_nil))))) (pw_or (pt_cmpR (op_notInK K rfl) (pe_callB (call_lenK K rfl) (by rfl) Y.b.len (by decide +kernel) (pa_cons (pv 2) pa_nil)) (pe_lst (pa_cons pe_int (pa_cons pe_int (pa_cons pe_int (pa_cons pe_int pa_nil))))) (by rfl)) (pw_or1 (pt_cmpR (op_notInK K rfl) (pe_callB (call_lenK K rfl) (by rfl) Y.b.len (by decide +kernel) (pa_cons (pv 3) pa_nil)) (pe_lst (pa_cons pe_int (pa_cons pe_int (pa_cons pe_int pa_nil)))) (by rfl)))))).pt (pss_one (ps_ret pe_bl)) pss_nil)
      (pss_cons (ps_if ((pw_or (pt_cmpR op_ne (pe_callB (call_lenK K rfl) (by rfl) Y.b.len (by decide +kernel) (pa_cons (pv 4) pa_nil)) (pe_callB (call_lenK K rfl) (by rfl) Y.b.len (by decide +kernel) (pa_cons (pv 3) pa_nil)) (nomark _)) (pw_or1 (pt_cmpR op_gt (pe_callB (call_lenK K rfl) (by rfl) Y.b.len (by decide +kernel) (pa_cons (pv 5) pa_nil)) pe_int (nomark _))))).pt (pss_one (ps_ret pe_bl)) pss_nil)
      (pss_cons (ps_if (pt_not (pt_val (pe_call (ok__law_each Y) (hr.mono (by decide)) (by rfl) Y.d__law_each.g Y.d__law_each.kp Y.d__law_each.b .nil pass0 (pa_cons (pe_lc (own := [("one", 8)]) (g := gName 8) rfl sc__law_is_day.nd (pi_listK K rfl (pv 4)) (blkOk_by (N := ["thing", "hours", "stores", "sights", "asks", "blocks", "sight", "block", "one"]) (sc := defScope s__law_is_day) (by decide +kernel)) (fun _ _ _ _ _ => (pg_name (i := 8) sc__law_is_day.nd rfl (by first | exact Or.inl rfl | exact Or.inr rfl))) (fun _ _ _ _ _ => (pts_one (pt_cmpR op_notN (pv 8) pe_non (nomark _)))) (fun _ _ _ _ _ => (pv 8))) (pa_cons pe_int (pa_cons pe_int pa_nil)))))) (pss_one (ps_ret pe_bl)) pss_nil)
      (pss_cons (ps_if (pt_cmpR (op_neNil hr.units0) (pe_lc (own := [("sight", 6)]) (g := gName 6) rfl sc__law_is_day.nd (pi_listK K rfl (pv 3)) (blkOk_by (N := ["thing", "hours", "stores", "sights", "asks", "blocks", "sight", "block", "one"]) (sc := defScope s__law_is_day) (by decide +kernel)) (fun _ _ _ _ _ => (pg_name (i := 6) sc__law_is_day.nd rfl (by first | exact Or.inl rfl | exact Or.inr rfl))) (fun _ _ _ _ _ => (pts_one (pt_not (pt_val (pe_call (ok__law_is_sight Y) (hr.mono (by decide)) (by rfl) Y.d__law_is_sight.g Y.d__law_is_sight.kp Y.d__law_is_sight.b .nil pass0 (pa_cons (pv 6) (pa_cons (pv 1) (pa_cons (pe_callB (call_lenK K rfl) (by rfl) Y.b.len (by decide +kernel) (pa_cons (pv 2) pa_nil)) pa_nil)))))))) (fun _ _ _ _ _ => (pv 6))) (pe_lst pa_nil) (nomark _)) (pss_one (ps_ret pe_bl)) pss_nil)
      (pss_one (ps_ret (pe_cmpR (op_eqNil hr.units0) (pe_lc (own := [("block", 7)]) (g := gName 7) rfl sc__law_is_day.nd (pi_listK K rfl (pv 5)) (blkOk_by (N := ["thing", "hours", "stores", "sights", "asks", "blocks", "sight", "block", "one"]) (sc := defScope s__law_is_day) (by decide +kernel)) (fun _ _ _ _ _ => (pg_name (i := 7) sc__law_is_day.nd rfl (by first | exact Or.inl rfl | exact Or.inr rfl))) (fun _ _ _ _ _ => (pts_one (pt_not (pt_val (pe_call (ok__law_is_block Y) (hr.mono (by decide)) (by rfl) Y.d__law_is_block.g Y.d__law_is_block.kp Y.d__law_is_block.b .nil pass0 (pa_cons (pv 7) (pa_cons (pv 1) (pa_cons (pe_callB (call_lenK K rfl) (by rfl) Y.b.len (by decide +kernel) (pa_cons (pv 2) pa_nil)) pa_nil)))))))) (fun _ _ _ _ _ => (pv 7))) (pe_lst pa_nil) (nomark _))))))))))), ?_⟩
    have no : ∀ H', Kx [] H H' → isDayB d = false → Q (.bl false) H' := fun H' k e => by
      have := q H' k
      rwa [e] at this
    refine ⟨v, rfl, v, .ty "tuple", _, _, _, rfl, .ty _, ht.ty, kit_tuple d, _, rfl, ite2 (fun c => ?_) (fun c => ?_)⟩
    · exact no H (Kx.refl H) (not_tuple (by simpa using c) isDayB_tp)
    · cases ht with
      | tup m ha l =>
        rename_i a xs ds
        have hlen := l.length
        refine ⟨_, rfl, a, xs, rfl, .inr (SqT.of ha), rfl, _, rfl, ite2 (fun c1 => ?_) (fun c1 => ?_)⟩
        · exact no H (Kx.refl H) (isDayB_tp _ (by rw [hlen] at c1; exact len5 c1))
        obtain ⟨ho, st, si, as, bl, rfl⟩ := tuple5 (by rw [← hlen]; exact len5' c1)
        obtain ⟨v1, v2, v3, v4, v5, rfl, t1, t2, t3, t4, t5⟩ := TrAll.five l
        refine ⟨.ref a, rfl, a, _, 0, v1, rfl, rfl, SqT.of ha, rfl, v1, ho, 1, 10, rfl, t1, fun H1 k1 => ⟨_, rfl, ?_⟩⟩
        cases h1 : isWh 1 10 ho with
        | false => exact iteT (no _ k1 (by simp only [isDayB, h1, Bool.false_and]))
        | true =>
        obtain ⟨hh, rfl, _, _⟩ := isWh_int h1
        cases t1
        have ha1 := k1.tup (by simp) ha
        refine iteF ⟨.ref a, rfl, a, _, rfl, SqT.of ha1, rfl, _, _, rfl, v2, _, rfl, v3, _, rfl, v4, _, rfl, v5, _, rfl, rfl, ?_⟩
        -- the stores are whole numbers; sights, asks are lists
        refine ⟨_, rfl, v2, st, 0, 5, rfl, t2.up k1, sz_inT (by simp) hz, fun H2 k2 => ⟨_, rfl, ?_⟩⟩
        have k12 := k1.trans k2
        cases h2 : listAll (isWh 0 5) st with
        | false => exact iteT (no _ k12 (by simp only [isDayB, storesB, h2, Bool.false_and, Bool.and_false]))
        | true =>
        obtain ⟨sts, rfl⟩ : ∃ sts, st = .list sts := by
          cases st with
          | list sts => exact ⟨sts, rfl⟩
          | _ => cases h2
        refine iteF ⟨v3, rfl, v3, .ty "list", _, _, _, rfl, .ty _, (t3.up k12).ty, kit_list si, _, rfl, ?_⟩
        cases h3 : isiD "list" si with
        | false => exact iteT (no _ k12 (by simp only [isDayB, sightsB, isi_list h3, Bool.false_and, Bool.and_false]))
        | true =>
        obtain ⟨sis, rfl⟩ := isi_list' h3
        refine iteF ⟨v4, rfl, v4, .ty "list", _, _, _, rfl, .ty _, (t4.up k12).ty, kit_list as, _, rfl, ?_⟩
        cases h4 : isiD "list" as with
        | false => exact iteT (no _ k12 (by simp only [isDayB, asksB, isi_list h4, Bool.false_and, Bool.and_false]))
        | true =>
        obtain ⟨ass, rfl⟩ := isi_list' h4
        -- blocks is a list; how many
        refine iteF ⟨v5, rfl, v5, .ty "list", _, _, _, rfl, .ty _, (t5.up k12).ty, kit_list bl, _, rfl, ?_⟩
        cases h5 : isiD "list" bl with
        | false => exact iteT (no _ k12 (by simp only [isDayB, blocksB, isi_list h5, Bool.false_and, Bool.and_false]))
        | true =>
        obtain ⟨bls, rfl⟩ := isi_list' h5
        obtain ⟨a2, x2, rfl, e2, l2⟩ := t2.listV
        obtain ⟨a3, x3, rfl, e3, l3⟩ := t3.listV
        obtain ⟨a4, x4, rfl, e4, l4⟩ := t4.listV
        obtain ⟨a5, x5, rfl, e5, l5⟩ := t5.listV
        have n2 := l2.length
        have n3 := l3.length
        have n4 := l4.length
        have n5 := l5.length
        refine iteF ⟨.ref a2, rfl, a2, x2, rfl, .inl (SqL.of (k12.lst (by simp) e2)), len_ok, fun N1 hN1 => ?_⟩
        have kN1 := k12.trans (Kx.new (o := .lst [.int 1, .int 2, .int 3, .int 4]) hN1)
        refine ⟨N1, _, rfl, .inl (SqL.of upd_same), rfl, rfl, _, rfl, ?_⟩
        rw [if_pos rfl, in4]
        cases h6 : (decide (1 ≤ (x2.length : Int)) && decide ((x2.length : Int) ≤ 4)) with
        | false => exact iteT (no _ kN1 (by rw [n2] at h6; simp only [isDayB, storesB, isLs, h6, Bool.false_and, Bool.and_false]))
        | true =>
        refine iteF ⟨.ref a3, rfl, a3, x3, rfl, .inl (SqL.of (kN1.lst (by simp) e3)), len_ok, fun N2 hN2 => ?_⟩
        generalize hq : upd _ N2 _ = H3
        have kN2 : Kx [] H H3 := hq ▸ kN1.trans (Kx.new (o := .lst [.int 1, .int 2, .int 3]) hN2)
        have eN2 : H3 N2 = some (.lst [.int 1, .int 2, .int 3]) := hq ▸ upd_same
        clear hq
        refine ⟨N2, _, rfl, .inl (SqL.of eN2), rfl, rfl, _, rfl, ?_⟩
        rw [if_pos rfl, in3]
        cases h7 : (decide (1 ≤ (x3.length : Int)) && decide ((x3.length : Int) ≤ 3)) with
        | false => exact iteT (no _ kN2 (by rw [n3] at h7; simp only [isDayB, sightsB, isLs, h7, Bool.false_and, Bool.and_false]))
        | true =>
        refine iteF ⟨.ref a4, rfl, a4, x4, rfl, .inl (SqL.of (kN2.lst (by simp) e4)), .ref a3, rfl, a3, x3, rfl, .inl (SqL.of (kN2.lst (by simp) e3)), rfl, _, rfl, ?_⟩
        cases h8 : decide (V.int (x4.length : Int) = V.int (x3.length : Int)) with
        | false =>
          have n34 : ¬ (ass.length : Int) = (sis.length : Int) := fun z => by
            have := of_decide_eq_false h8
            rw [n3, n4, z] at this
            exact this rfl
          have ea : isLs (sis.length : Int) (sis.length : Int) (.list ass) = false := by
            show (decide ((sis.length : Int) ≤ (ass.length : Int)) && decide ((ass.length : Int) ≤ (sis.length : Int))) = false
            rw [Bool.eq_false_iff]
            intro z
            simp only [Bool.and_eq_true, decide_eq_true_eq] at z
            omega
          exact iteT (no _ kN2 (by simp only [isDayB, asksB, lenD, ea, Bool.false_and, Bool.and_false]))
        | true =>
        have n34 : (ass.length : Int) = (sis.length : Int) := by
          have := V.int.inj (of_decide_eq_true h8)
          omega
        have ea : isLs (sis.length : Int) (sis.length : Int) (.list ass) = true := by
          show (decide ((sis.length : Int) ≤ (ass.length : Int)) && decide ((ass.length : Int) ≤ (sis.length : Int))) = true
          simp only [Bool.and_eq_true, decide_eq_true_eq]
          omega
        refine iteF ⟨.ref a5, rfl, a5, x5, rfl, .inl (SqL.of (kN2.lst (by simp) e5)), _, _, rfl, rfl, _, rfl, ?_⟩
        cases h9 : decide ((14 : Int) < (x5.length : Int)) with
        | true =>
          have eb : isLs 0 14 (.list bls) = false := by
            have := of_decide_eq_true h9
            show (decide ((0 : Int) ≤ (bls.length : Int)) && decide ((bls.length : Int) ≤ 14)) = false
            rw [Bool.eq_false_iff]
            intro z
            simp only [Bool.and_eq_true, decide_eq_true_eq] at z
            omega
          exact iteT (no _ kN2 (by simp only [isDayB, blocksB, eb, Bool.false_and, Bool.and_false]))
        | false =>
        have eb : isLs 0 14 (.list bls) = true := by
          have := of_decide_eq_false h9
          show (decide ((0 : Int) ≤ (bls.length : Int)) && decide ((bls.length : Int) ≤ 14)) = true
          simp only [Bool.and_eq_true, decide_eq_true_eq]
          omega
        have szs : szAll sts + szAll sis + szAll ass + szAll bls ≤ 90000 ∨ True := .inr trivial
        have zA : sz (.list ass) ≤ 100000 := sz_inT (by simp) hz
        have zS : sz (.list sis) ≤ 100000 := sz_inT (by simp) hz
        have zB : sz (.list bls) ≤ 100000 := sz_inT (by simp) hz
        have small : ∀ {xs : List PyData}, sz (.list xs) ≤ 100000 → xs.length < sizeLine := fun {xs} h => by
          have := szAll_len xs
          simp only [sz] at h
          unfold sizeLine
          omega
        -- the asks
        refine iteF ?_
        refine st_next ?_
        dsimp only
        refine st_seq (st_ifs (st_not (st_b (st_call (st_cons (lc_use ?_))))))
        refine ⟨.ref a4, rfl, a4, rfl, ⟨x4, SqL.of (kN2.lst (by simp) e4)⟩, ?_⟩
        refine lc_filter (fun x => !isNone x) (kN2.lst (by simp) e4) (l4.up kN2) (small zA) (fun x d H' hd t k R R0 hR hR0 => ?_) fun D ys H4 k4 hD hdd ty => ?_
        · refine ⟨rfl, x, rfl, rfl, _, rfl, ?_⟩
          rw [isNone_v t]
          exact ite2 (fun c => ⟨x, rfl, hR c H' (Kx.refl _)⟩) (fun c => hR0 (notE c) H' (Kx.refl _))
        have kk4 := kN2.trans k4
        refine ⟨_, .list (ass.filter fun x => !isNone x), 0, 999, rfl, .lst (by simp) hdd ty, ?_, fun H5 k5 => ⟨_, rfl, ?_⟩⟩
        · have := szAll_filter (fun x => !isNone x) ass
          simp only [sz] at zA ⊢
          omega
        have kk5 := kk4.trans k5
        have eA : listAll (isWh 0 999) (.list (ass.filter fun x => !isNone x)) = listAll (fun a => isNone a || isWh 0 999 a) (.list ass) := all_filter ass
        rw [eA]
        cases hA : listAll (fun a => isNone a || isWh 0 999 a) (.list ass) with
        | false => exact iteT (no _ kk5 (by simp only [isDayB, asksB, hA, Bool.false_and, Bool.and_false]))
        | true =>
        -- the sights
        refine iteF ?_
        refine st_next ?_
        dsimp only
        refine st_seq (st_ifs (st_test (st_op (lc_use ?_))))
        refine ⟨.ref a3, rfl, a3, rfl, ⟨x3, SqL.of (kk5.lst (by simp) e3)⟩, ?_⟩
        refine lc_filter (fun x => !sightB hh (x2.length : Int) x) (kk5.lst (by simp) e3) (l3.up kk5) (small zS) (fun x d H' hd t k R R0 hR hR0 => ?_) fun D2 ys2 H6 k6 hD2 hdd2 ty2 => ?_
        · refine ⟨rfl, x, rfl, .int hh, rfl, .ref a2, rfl, a2, x2, rfl, .inl (SqL.of ((kk5.trans k).lst (by simp) e2)), x, d, hh, (x2.length : Int), rfl, t, sz_in hd zS, by have := h6; simp only [Bool.and_eq_true, decide_eq_true_eq] at this; omega, fun H'' k2 => ?_⟩
          exact ⟨_, rfl, ite2 (fun c => ⟨x, rfl, hR c H'' k2⟩) (fun c => hR0 (notE c) H'' k2)⟩
        have kk6 := kk5.trans k6
        refine ⟨len_ok, fun N3 hN3 => ⟨D2, N3, ys2, rfl, rfl, (Kx.new (B := []) hN3).lst (by simp) hdd2, upd_same, _, rfl, ?_⟩⟩
        have kk7 := kk6.trans (Kx.new (o := .lst []) hN3)
        generalize upd H6 N3 (.lst []) = H7 at kk7 ⊢
        have eS : ys2.isEmpty = listAll (sightB hh (x2.length : Int)) (.list sis) := by
          rw [trAll_empty ty2, filter_not_nil]
          rfl
        rw [eS]
        cases hS : listAll (sightB hh (x2.length : Int)) (.list sis) with
        | false => exact iteT (no _ kk7 (by rw [n2] at hS; simp only [isDayB, sightsB, lenD, intOf, hS, Bool.false_and, Bool.and_false]))
        | true =>
        -- the blocks
        refine iteF ?_
        refine st_next ?_
        dsimp only
        refine st_ret (st_op (lc_use ?_))
        refine ⟨.ref a5, rfl, a5, rfl, ⟨x5, SqL.of (kk7.lst (by simp) e5)⟩, ?_⟩
        refine lc_filter (fun x => !blockB hh (x2.length : Int) x) (kk7.lst (by simp) e5) (l5.up kk7) (small zB) (fun x d H' hd t k R R0 hR hR0 => ?_) fun D3 ys3 H8 k8 hD3 hdd3 ty3 => ?_
        · refine ⟨rfl, x, rfl, .int hh, rfl, .ref a2, rfl, a2, x2, rfl, .inl (SqL.of ((kk7.trans k).lst (by simp) e2)), x, d, hh, (x2.length : Int), rfl, t, fun H'' k2 => ?_⟩
          exact ⟨_, rfl, ite2 (fun c => ⟨x, rfl, hR c H'' k2⟩) (fun c => hR0 (notE c) H'' k2)⟩
        refine ⟨len_ok, fun N4 hN4 => ⟨D3, N4, ys3, rfl, rfl, (Kx.new (B := []) hN4).lst (by simp) hdd3, upd_same, ?_⟩⟩
        have eB : ys3.isEmpty = listAll (blockB hh (x2.length : Int)) (.list bls) := by
          rw [trAll_empty ty3, filter_not_nil]
          rfl
        have fin := q _ ((kk7.trans k8).trans (Kx.new (o := .lst []) hN4))
        have e0 : isDayB (.tuple [.int hh, .list sts, .list sis, .list ass, .list bls]) = listAll (blockB hh (x2.length : Int)) (.list bls) := by
          rw [n2] at h6 hS ⊢
          rw [n3] at h7
          have h6' : isLs 1 4 (.list sts) = true := h6
          have h7' : isLs 1 3 (.list sis) = true := h7
          simp only [isDayB, storesB, sightsB, asksB, blocksB, lenD, intOf, h1, h2, h6', h7', hS, hA, ea, eb, Bool.true_and]
        rw [e0] at fin
        rw [eB]
        exact fin
      | _ => exact absurd rfl c
end
end Law

set_option Elab.async false
set_option linter.all false
set_option maxRecDepth 100000
set_option maxHeartbeats 4000000
namespace Law
open PySem PySem.Spec PyProof.Rows L2 GxR GX Tree Kit Data Loops Loops2 Comps Purse Day SetG SetL Lit Sets Ib Small
section
variable {P : Program} {w : World} {K : PySem.W.Frag} {mg : Str → Option Value} {base : Heap} {fa : String → Addr} {fd : String → FuncData} {ca ta : String → Addr}
/-! ### sizes -/
theorem day_sm {d : PyData} {most blocks : Int} (hm : most ≤ 10) (hb : blocks ≤ 14) (g : DayG most blocks d) : Sm 20 1000000 400 4 d := by
  obtain ⟨hh, sts, sis, ask, bls, rfl, h1, h2, s1, s2, i1, i2, a1, b1, g1, g2, g3, g4, -⟩ := g
  have l1 := Sm.list g1 (show sts.length ≤ 5 by omega) (by decide)
  have l2 := Sm.list g2 (show sis.length ≤ 4 by omega) (by decide)
  have l3 := Sm.list g3 (show ask.length ≤ 4 by omega) (by decide)
  have l4 := Sm.list g4 (show bls.length ≤ 15 by omega) (by decide)
  have l0 : Sm 20 1000000 1 0 (.int hh) := Sm.int (by omega)
  refine Sm.mkTuple (by simp) ?_ (fun d hd => ?_) (by decide)
  · have := l1.sz
    have := l2.sz
    have := l3.sz
    have := l4.sz
    have := l0.sz
    simp only [szAll]
    omega
  · simp only [List.mem_cons, List.mem_singleton, List.not_mem_nil, or_false] at hd
    rcases hd with rfl | rfl | rfl | rfl | rfl
    · exact ⟨l0.bd, by have := l0.dp; omega⟩
    · exact ⟨l1.bd, by have := l1.dp; omega⟩
    · exact ⟨l2.bd, by have := l2.dp; omega⟩
    · exact ⟨l3.bd, by have := l3.dp; omega⟩
    · exact ⟨l4.bd, by have := l4.dp; omega⟩
theorem day_typed {d : PyData} {most blocks : Int} (hm : most ≤ 10) (hb : blocks ≤ 14) (g : DayG most blocks d) : ∃ D, d = dayD D ∧ DayV D ∧ Sm 20 1000000 400 4 (dayD D) := by
  have hs := day_sm hm hb g
  obtain ⟨hh, sts, sis, ask, bls, e, h1, h2, s1, s2, i1, i2, a1, b1, g1, g2, g3, g4, gd⟩ := g
  obtain ⟨D, eD, hD⟩ := day_of gd
  rw [eD] at hs gd
  exact ⟨D, eD, ⟨hD, gd, Nat.le_trans hs.sz (by decide)⟩, hs⟩
theorem pass_sm {D : Dy} (hD : DyOk D) {p : Pass} (h : passT D p = true) : Sm 20 1000000 5 1 (passD p) := by
  obtain ⟨b1, b2, b3, b4, -⟩ := passT_of h
  have t1 := hD.t1
  have s1 := hD.s1
  have g1 := hD.g1
  have bl := hD.bl
  refine Sm.tuple (N := 4) (S := 1) (D := 0) (fun d hd => ?_) (by simp) (by decide)
  simp only [List.mem_cons, List.mem_singleton, List.not_mem_nil, or_false] at hd
  rcases hd with rfl | rfl | rfl | rfl
  · exact Sm.int (by omega)
  · exact Sm.int (by omega)
  · exact Sm.int (by omega)
  · exact Sm.int (by omega)
theorem plan_sm {D : Dy} (hD : DyOk D) {ps : List Pass} (h : ∀ p ∈ ps, passT D p = true) (hl : ps.length ≤ 14) : Sm 20 1000000 71 2 (.list (ps.map passD)) :=
  Sm.list (N := 14) (S := 5) (D := 1) (fun d hd => by
    obtain ⟨p, hp, rfl⟩ := List.mem_map.mp hd
    exact pass_sm hD (h p hp)) (by rw [List.length_map]; exact hl) (by decide)
theorem two_sm {a b : PyData} {S1 S2 D1 D2 : Nat} (h1 : Sm 20 1000000 S1 D1 a) (h2 : Sm 20 1000000 S2 D2 b) (hS : S1 + S2 + 1 ≤ 2000) (hD1 : D1 + 1 ≤ 9) (hD2 : D2 + 1 ≤ 9) : Sm 20 1000000 2000 9 (.list [a, b]) := by
  have z1 := h1.sz
  have z2 := h2.sz
  have p1 := h1.dp
  have p2 := h2.dp
  refine Sm.mkList (by simp) (by simp only [szAll]; omega) (fun d hd => ?_) (by decide)
  simp only [List.mem_cons, List.mem_singleton, List.not_mem_nil, or_false] at hd
  rcases hd with rfl | rfl
  · exact ⟨h1.bd, by omega⟩
  · exact ⟨h2.bd, by omega⟩
theorem keptL_sub {D : Dy} {ps qs : List Pass} (s : List.Sublist qs ps) (c h : Int) : (keptL D qs c h).length ≤ (keptL D ps c h).length := ((s.filter _).map _).length_le
theorem fitB_sub {D : Dy} {ps qs : List Pass} (s : List.Sublist qs ps) (h : fitB D ps = true) : fitB D qs = true :=
  List.all_eq_true.mpr fun c hc => List.all_eq_true.mpr fun t ht => decide_eq_true (by
    have := of_decide_eq_true (List.all_eq_true.mp (List.all_eq_true.mp h c hc) t ht)
    have := keptL_sub (D := D) s c t
    omega)
theorem Plan.fit {D : Dy} {ps : List Pass} (h : Plan D ps) : fitB D ps = true := (Bool.and_eq_true_iff.mp (Bool.and_eq_true_iff.mp h.pl).2).2
/-- a part of a drawn plan is a plan -/
theorem Dr.plan {D : Dy} {ps qs : List Pass} {h d : Int} (x : Dr D h d ps) (pl : Plan D ps) (s : List.Sublist qs ps) : Plan D qs := by
  have y := x.sub s
  refine ⟨y.ok, ?_, Nat.lt_of_le_of_lt s.length_le pl.len⟩
  unfold planT
  rw [y.rises, y.clash, fitB_sub s pl.fit]
  rfl
theorem plan_nil {D : Dy} (hD : DyOk D) : Plan D [] := by
  refine ⟨fun p hp => (nomatch hp), ?_, by decide⟩
  have e : fitB D [] = true := fitB_of fun t ht c hc => by
    show ((keptL D [] c t).length : Int) ≤ _
    rw [getD_at _ _ hc]
    exact (hD.sb _ (List.getElem_mem hc)).1
  unfold planT
  rw [e]
  rfl
end
end Law

set_option Elab.async false
set_option linter.all false
set_option maxRecDepth 100000
set_option maxHeartbeats 4000000
namespace Law
open PySem PySem.Spec PyProof.Rows L2 GxR GX Tree Kit Data Loops Loops2 Comps Purse Day SetG SetL Lit Sets Ib Small
/-! ### a typed day is a day -/
theorem and_mk {a b : Bool} (h1 : a = true) (h2 : b = true) : (a && b) = true := by rw [h1, h2]; rfl
theorem all_map_ok {α : Type} {f : α → PyData} {g : PyData → Bool} {l : List α} (h : ∀ a ∈ l, g (f a) = true) : (l.map f).all g = true := by
  rw [List.all_map]
  exact List.all_eq_true.mpr h
theorem isLs_mk {lo hi : Int} {xs : List PyData} (h1 : lo ≤ (xs.length : Int)) (h2 : (xs.length : Int) ≤ hi) : isLs lo hi (.list xs) = true := and_mk (decide_eq_true h1) (decide_eq_true h2)
theorem isDayB_ok {D : Dy} (h : DyOk D) : isDayB (dayD D) = true := by
  have s0 := h.s0
  have s1 := h.s1
  have g0 := h.g0
  have g1 := h.g1
  have bl := h.bl
  have al := h.al
  have lS : lenD (.list (D.stores.map PyData.int)) = (D.stores.length : Int) := by show (((D.stores.map PyData.int).length : Nat) : Int) = _; rw [List.length_map]
  have lI : lenD (.list (D.sights.map sightD)) = (D.sights.length : Int) := by show (((D.sights.map sightD).length : Nat) : Int) = _; rw [List.length_map]
  show (isWh 1 10 (.int D.hours) && (storesB (.list (D.stores.map .int)) && (sightsB D.hours (lenD (.list (D.stores.map .int))) (.list (D.sights.map sightD)) && (asksB (lenD (.list (D.sights.map sightD))) (.list (D.asks.map optD)) && blocksB D.hours (lenD (.list (D.stores.map .int))) (.list (D.blocks.map blkD)))))) = true
  rw [lS, lI]
  refine and_mk (isWh_mk h.t0 h.t1) (and_mk ?_ (and_mk ?_ (and_mk ?_ ?_)))
  · exact and_mk (isLs_mk (by rw [List.length_map]; omega) (by rw [List.length_map]; omega)) (all_map_ok fun n hn => isWh_mk (h.sb n hn).1 (h.sb n hn).2)
  · refine and_mk (isLs_mk (by rw [List.length_map]; omega) (by rw [List.length_map]; omega)) (all_map_ok fun s hs => ?_)
    refine and_mk (isLs_mk (by rw [List.length_map, h.gl s hs]; omega) (by rw [List.length_map, h.gl s hs]; omega)) (all_map_ok fun r hr => ?_)
    have o := h.gr s hs r hr
    refine and_mk (all_map_ok fun n hn => isWh_mk (o.bd n hn).1 (by have := (o.bd n hn).2; omega)) ?_
    rw [ints_back]
    exact decide_eq_true o.up
  · refine and_mk (isLs_mk (by rw [List.length_map]; omega) (by rw [List.length_map]; omega)) (all_map_ok fun a ha => ?_)
    cases a with
    | none => rfl
    | some i =>
      have := h.ab i ha
      show (false || isWh 0 999 (.int i)) = true
      rw [isWh_mk this.1 this.2]
      rfl
  · refine and_mk (isLs_mk (by rw [List.length_map]; omega) (by rw [List.length_map]; omega)) (all_map_ok fun b hb => ?_)
    have o := h.bb b hb
    have w0 := o.w0
    refine (blk5 (.int b.house) (.int b.craft) (.int b.ready) (optD b.due) (.int b.worth)).trans ?_
    refine and_mk (isWh_mk o.h0 o.h1) (and_mk (isWh_mk o.c0 (by have := o.c1; omega)) (and_mk (isWh_mk o.r0 (by have := o.r1; omega)) (and_mk ?_ (isWh_mk o.w0 o.w1))))
    cases hd : b.due with
    | none => rfl
    | some u =>
      have := o.du u hd
      show (false || (true && isWh b.ready (D.hours - 1) (.int u))) = true
      rw [isWh_mk this.1 (by omega)]
      rfl
theorem szL {α : Type} {f : α → PyData} {l : List α} {S N : Nat} (h : ∀ a ∈ l, sz (f a) ≤ S) (hN : l.length ≤ N) : sz (.list (l.map f)) ≤ N * S + 1 := by
  have h1 := szAll_le (xs := l.map f) (S := S) fun d hd => by
    obtain ⟨a, ha, rfl⟩ := List.mem_map.mp hd
    exact h a ha
  rw [List.length_map] at h1
  have h2 := Nat.mul_le_mul_right S hN
  simp only [sz]
  omega
theorem row_len {c : Nat} {r : List Int} (o : RowOk c r) : r.length ≤ c := nodup_ints_le (o.up.imp fun {a b} h e => by omega) o.bd
theorem dayV_ok {D : Dy} (h : DyOk D) : DayV D := by
  refine ⟨h, isDayB_ok h, ?_⟩
  have z1 : sz (.list (D.stores.map PyData.int)) ≤ 4 * 1 + 1 := szL (fun a _ => Nat.le_refl _) h.s1
  have z2 : sz (.list (D.sights.map sightD)) ≤ 3 * (10 * (4 * 1 + 1) + 1) + 1 := szL (fun s hs => szL (fun r hr => szL (fun a _ => Nat.le_refl _) (Nat.le_trans (row_len (h.gr s hs r hr)) h.s1)) (by have := h.gl s hs; have := h.t1; omega)) h.g1
  have z3 : sz (.list (D.asks.map optD)) ≤ 3 * 1 + 1 := szL (fun a _ => by cases a <;> exact Nat.le_refl _) (by rw [h.al]; exact h.g1)
  have z4 : sz (.list (D.blocks.map blkD)) ≤ 14 * 6 + 1 := szL (fun b _ => by cases hd : b.due <;> simp [blkD, sz, szAll, optD, hd]) h.bl
  unfold dayD
  simp only [sz, szAll] at z1 z2 z3 z4 ⊢
  omega
/-! ### lists in another order -/
theorem trAll_perm {B : List Addr} {H : Hp} {ys xs : List V} (p : ys.Perm xs) : ∀ {ds : List PyData}, TrAll B H xs ds → ∃ es, es.Perm ds ∧ TrAll B H ys es := by
  induction p with
  | nil => exact fun {ds} t => ⟨ds, .refl _, t⟩
  | cons a _ ih =>
    intro ds t
    cases t with
    | cons h t =>
      obtain ⟨es, p1, t1⟩ := ih t
      exact ⟨_ :: es, p1.cons _, .cons h t1⟩
  | swap a b l =>
    intro ds t
    cases t with
    | cons h t =>
      cases t with
      | cons h2 t => exact ⟨_, .swap _ _ _, .cons h2 (.cons h t)⟩
  | trans _ _ h1 h2 =>
    intro ds t
    obtain ⟨es, p1, t1⟩ := h2 t
    obtain ⟨fs, p2, t2⟩ := h1 t1
    exact ⟨fs, p2.trans p1, t2⟩
theorem passes_perm {B : List Addr} {H : Hp} {ys xs : List V} {ps : List Pass} (p : ys.Perm xs) (t : TrAll B H xs (ps.map passD)) : ∃ qs : List Pass, qs.Perm ps ∧ TrAll B H ys (qs.map passD) := by
  obtain ⟨es, p1, t1⟩ := trAll_perm p t
  have e : es = (es.map passOf).map passD := by
    rw [List.map_map]
    conv => lhs; rw [← List.map_id es]
    refine List.map_congr_left fun d hd => ?_
    obtain ⟨q, hq, rfl⟩ := List.mem_map.mp (p1.subset hd)
    rfl
  refine ⟨es.map passOf, ?_, e ▸ t1⟩
  have := p1.map passOf
  rwa [List.map_map, show passOf ∘ passD = id from rfl, List.map_id] at this
/-! ### rules that name K -/
theorem cr_sortedIK {X : Cx} (K : PySem.W.Frag) (h : X.K = K) : CallR X (.builtin "sorted") (rSortedI K) := h ▸ cr_sortedI
theorem cr_sortTK {X : Cx} (K : PySem.W.Frag) (h : X.K = K) : CallR X (.builtin "sorted") (rSortU K 4 100) := h ▸ cr_sortT (by decide)
theorem op_notInDK {X : Cx} (K : PySem.W.Frag) (h : X.K = K) (hu : X.A.units + 65 < cLine) : OpR X (compareOp .NotIn) (rNotInD K) := h ▸ op_notInD hu
/-! ### passes in order -/
theorem code_hd {B : Int} {a b : Pass} (ha : TS.Bd B (passI a)) (hb : TS.Bd B (passI b)) (h : TS.code B (passI a) ≤ TS.code B (passI b)) : a.hour < b.hour ∨ (a.hour = b.hour ∧ a.dish ≤ b.dish) := by
  have tl : ∀ {x : Int} {r : List Int}, TS.Bd B (x :: r) → TS.Bd B r := fun h m hm => h m (List.mem_cons_of_mem _ hm)
  by_cases h1 : a.hour < b.hour
  · exact .inl h1
  by_cases h2 : b.hour < a.hour
  · have := TS.code_lt (B := B) (d := b.hour) (e := a.hour) (r := [b.dish, b.craft, b.block]) (q := [a.dish, a.craft, a.block]) rfl (tl hb) (tl ha) h2
    unfold passI at h
    omega
  have e : a.hour = b.hour := by omega
  refine .inr ⟨e, ?_⟩
  by_cases h3 : a.dish ≤ b.dish
  · exact h3
  · have := TS.code_lt (B := B) (d := b.dish) (e := a.dish) (r := [b.craft, b.block]) (q := [a.craft, a.block]) rfl (tl (tl hb)) (tl (tl ha)) (by omega)
    unfold passI at h
    rw [TS.code, TS.code.eq_2 B b.hour, e] at h
    have e2 : [a.dish, a.craft, a.block].length = [b.dish, b.craft, b.block].length := rfl
    rw [e2] at h
    omega
theorem pass_bd {D : Dy} (hD : DyOk D) {p : Pass} (h : passT D p = true) : TS.Bd 100 (passI p) := fun m hm => by
  obtain ⟨a1, a2, a3, a4, -⟩ := passT_of h
  have t1 := hD.t1
  have s1 := hD.s1
  have g1 := hD.g1
  have bl := hD.bl
  unfold passI at hm
  simp only [List.mem_cons, List.not_mem_nil, or_false] at hm
  rcases hm with rfl | rfl | rfl | rfl <;> omega
section
variable {K : PySem.W.Frag}
theorem pass_vals {B : List Addr} {H : Hp} {x : V} {p : Pass} (t : Tr B H x (passD p)) : TupI K H x (passI p) := by
  obtain ⟨a, rfl, e⟩ := pass_tr t
  exact ⟨a, rfl, SqT.of e⟩
/-- sorted of a list of passes -/
theorem sort_use {C : List Addr} {H : Hp} {a : Addr} {ps : List Pass} (al : ∀ c ∈ C, H c ≠ none) (t : Tr C H (.ref a) (.list (ps.map passD))) (bd : ∀ p ∈ ps, TS.Bd 100 (passI p)) (hl : ps.length < 64) {Q : VK}
    (q : ∀ (S : Addr) (qs : List Pass) (H' : Hp), Kx [] H H' → H S = none → qs.Perm ps → qs.Pairwise (fun a b => a.hour < b.hour ∨ (a.hour = b.hour ∧ a.dish ≤ b.dish)) → Tr C H' (.ref S) (.list (qs.map passD)) → Q (.ref S) H') : rSortU K 4 100 [.ref a] H Q := by
  obtain ⟨xs, ex, tx⟩ := t.items
  have lx := tx.length
  rw [List.length_map] at lx
  refine ⟨a, xs, rfl, SqL.of ex, by omega, fun x hx => ?_, fun ys p perm up hp => ?_⟩
  · obtain ⟨i, hi, rfl⟩ := List.getElem_of_mem hx
    obtain ⟨d, e1, e2⟩ := tx.get (List.getElem?_eq_getElem hi)
    obtain ⟨pp, hp, rfl⟩ := List.mem_map.mp (List.mem_of_getElem? e1)
    exact ⟨_, pass_vals e2, rfl, bd pp hp⟩
  · obtain ⟨qs, pq, tq⟩ := passes_perm perm tx
    have ly := tq.length
    rw [List.length_map] at ly
    obtain ⟨k, e, t2⟩ := mk_lst al tq hp
    refine q p qs _ k hp pq ?_ t2
    refine List.pairwise_iff_getElem.mpr fun i j hi hj hij => ?_
    have ei : ∀ i (hi : i < qs.length), TupI K H (ys[i]'(by omega)) (passI qs[i]) := fun i hi => by
      obtain ⟨d, e1, e2⟩ := tq.get (List.getElem?_eq_getElem (show i < ys.length by omega))
      rw [List.getElem?_map, List.getElem?_eq_getElem hi] at e1
      cases e1
      exact pass_vals e2
    have := List.pairwise_iff_getElem.mp up i j (by omega) (by omega) hij _ _ (ei i hi) (ei j hj)
    exact code_hd (bd _ (pq.subset (List.getElem_mem hi))) (bd _ (pq.subset (List.getElem_mem hj))) this
end
end Law

set_option Elab.async false
set_option linter.all false
set_option maxRecDepth 100000
set_option maxHeartbeats 2000000
namespace Law
open PySem PySem.Spec PyProof.Rows L2 GxR GX Tree Kit Data Loops Loops2 Comps Purse Day SetG SetL Lit Sets Small Ib
/-! ### order by code -/
theorem lex_code {B : Int} : ∀ {ns ms : List Int}, ns.length = ms.length → TS.Bd B ns → TS.Bd B ms → HT.lexLt ns ms = decide (TS.code B ns < TS.code B ms)
  | [], [], _, _, _ => (decide_eq_false (Int.lt_irrefl _)).symm
  | [], _ :: _, h, _, _ => by simp at h
  | _ :: _, [], h, _, _ => by simp at h
  | p :: ns, q :: ms, h, h1, h2 => by
    have hl : ns.length = ms.length := by simpa using h
    rw [HT.lexLt_cons]
    by_cases e : p = q
    · subst e
      rw [if_pos rfl, lex_code hl h1.tail h2.tail]
      exact decide_eq_decide.mpr (TS.code_same hl).symm
    · rw [if_neg e]
      refine decide_eq_decide.mpr ⟨fun x => TS.code_lt hl h1.tail h2.tail x, fun x => ?_⟩
      rcases Int.lt_trichotomy p q with y | y | y
      · exact y
      · exact absurd y e
      · have := TS.code_lt hl.symm h2.tail h1.tail y
        omega
theorem code_inj {B : Int} : ∀ {ns ms : List Int}, ns.length = ms.length → TS.Bd B ns → TS.Bd B ms → TS.code B ns = TS.code B ms → ns = ms
  | [], [], _, _, _, _ => rfl
  | [], _ :: _, h, _, _, _ => by simp at h
  | _ :: _, [], h, _, _, _ => by simp at h
  | p :: ns, q :: ms, h, h1, h2, e => by
    have hl : ns.length = ms.length := by simpa using h
    rcases Int.lt_trichotomy p q with y | y | y
    · have := TS.code_lt hl h1.tail h2.tail y; omega
    · subst y
      have s1 := TS.code_same (B := B) (d := p) hl
      have s2 := TS.code_same (B := B) (d := p) hl.symm
      rw [code_inj hl h1.tail h2.tail (by
        rcases Int.lt_trichotomy (TS.code B ns) (TS.code B ms) with z | z | z
        · have := s1.mpr z; omega
        · exact z
        · have := s2.mpr z; omega)]
    · have := TS.code_lt hl.symm h2.tail h1.tail y; omega
theorem passI_inj {a b : Pass} (h : passI a = passI b) : a = b := by
  obtain ⟨a1, a2, a3, a4⟩ := a
  obtain ⟨b1, b2, b3, b4⟩ := b
  unfold passI at h
  injection h with h1 h
  injection h with h2 h
  injection h with h3 h
  injection h with h4 h
  dsimp only at h1 h2 h3 h4
  subst h1 h2 h3 h4
  rfl
abbrev codeP (p : Pass) : Int := TS.code 100 (passI p)
theorem rises_iff {ps : List Pass} (bd : ∀ p ∈ ps, TS.Bd 100 (passI p)) : risesP ps = true ↔ ps.Pairwise fun a b => codeP a < codeP b := by
  have adj : ∀ i (h : i + 1 < ps.length), HT.lexLt (passI (ps.getD i p0)) (passI (ps.getD (i + 1) p0)) = decide (codeP ps[i] < codeP ps[i + 1]) := fun i h => by
    rw [getD_at ps p0 (by omega), getD_at ps p0 h]
    exact lex_code rfl (bd _ (List.getElem_mem _)) (bd _ (List.getElem_mem _))
  constructor
  · intro h
    have step : ∀ i (hi : i + 1 < ps.length), codeP ps[i] < codeP ps[i + 1] := fun i hi => by
      have := List.all_eq_true.mp h i (List.mem_range.mpr (by omega))
      rw [adj i hi] at this
      exact of_decide_eq_true this
    refine List.pairwise_iff_getElem.mpr fun i j hi hj hij => ?_
    induction j with
    | zero => omega
    | succ j ih =>
      have s := step j hj
      by_cases e : i = j
      · subst e; exact s
      · have := ih (by omega) (by omega)
        omega
  · intro h
    refine List.all_eq_true.mpr fun i hi => ?_
    have hi := List.mem_range.mp hi
    rw [adj i (by omega)]
    exact decide_eq_true (List.pairwise_iff_getElem.mp h i (i + 1) (by omega) (by omega) (by omega))
/-- in order and without a clash, told by sorting -/
theorem sorted_iff {ps qs : List Pass} (bd : ∀ p ∈ ps, TS.Bd 100 (passI p)) (pm : qs.Perm ps) (up : qs.Pairwise fun a b => codeP a ≤ codeP b) (hc : clashB ps = true) : ps = qs ↔ risesP ps = true := by
  rw [rises_iff bd]
  constructor
  · intro e
    subst e
    have nb : (ps.map fun p => p.block).Nodup := by
      unfold clashB at hc
      rw [Bool.and_eq_true, Bool.and_eq_true] at hc
      exact of_decide_eq_true hc.2.2
    have nb := List.pairwise_map.mp nb
    refine (up.and nb).imp_of_mem fun {a b} ha hb h => ?_
    refine Int.lt_iff_le_and_ne.mpr ⟨h.1, fun z => h.2 ?_⟩
    have e : passI a = passI b := code_inj (B := 100) rfl (bd a ha) (bd b hb) z
    rw [passI_inj e]
  · intro h
    refine (List.Perm.eq_of_pairwise (le := fun a b => codeP a ≤ codeP b) (fun a b ha hb h1 h2 => ?_) up (h.imp fun h => Int.le_of_lt h) pm).symm
    have e : passI a = passI b := code_inj (B := 100) rfl (bd a (pm.subset ha)) (bd b hb) (Int.le_antisymm h1 h2)
    exact passI_inj e
/-! ### marks -/
def mk3 (h : Int) (s : Str) (d : Int) : List Key := [.inl h, .inr s, .inl d]
theorem mk3_inj {h d h' d' : Int} {s s' : Str} (e : mk3 h s d = mk3 h' s' d') : h = h' ∧ s = s' ∧ d = d' := by
  unfold mk3 at e
  injection e with e1 e
  injection e with e2 e
  injection e with e3 e
  exact ⟨Sum.inl.inj e1, Sum.inr.inj e2, Sum.inl.inj e3⟩
def marksOf (ps : List Pass) : List (List Key) := (ps.map fun p => mk3 p.hour "dish" p.dish) ++ (ps.map fun p => mk3 p.hour "craft" p.craft) ++ ps.map fun p => mk3 0 "block" p.block
theorem marks_iff (ps : List Pass) : (marksOf ps).Nodup ↔ clashB ps = true := by
  have ne1 : ("dish" : Str) ≠ "craft" := by decide +kernel
  have ne2 : ("dish" : Str) ≠ "block" := by decide +kernel
  have ne3 : ("craft" : Str) ≠ "block" := by decide +kernel
  have c1 : (ps.map fun p => mk3 p.hour "dish" p.dish).Nodup ↔ (ps.map fun p => [p.hour, p.dish]).Nodup := by
    unfold List.Nodup
    rw [List.pairwise_map, List.pairwise_map]
    refine ⟨fun h => h.imp fun h z => h ?_, fun h => h.imp fun h z => h ?_⟩
    · injection z with z1 z; injection z with z2 z; rw [z1, z2]
    · obtain ⟨z1, -, z2⟩ := mk3_inj z; rw [z1, z2]
  have c2 : (ps.map fun p => mk3 p.hour "craft" p.craft).Nodup ↔ (ps.map fun p => [p.hour, p.craft]).Nodup := by
    unfold List.Nodup
    rw [List.pairwise_map, List.pairwise_map]
    refine ⟨fun h => h.imp fun h z => h ?_, fun h => h.imp fun h z => h ?_⟩
    · injection z with z1 z; injection z with z2 z; rw [z1, z2]
    · obtain ⟨z1, -, z2⟩ := mk3_inj z; rw [z1, z2]
  have c3 : (ps.map fun p => mk3 0 "block" p.block).Nodup ↔ (ps.map fun p => p.block).Nodup := by
    unfold List.Nodup
    rw [List.pairwise_map, List.pairwise_map]
    refine ⟨fun h => h.imp fun h z => h ?_, fun h => h.imp fun h z => h ?_⟩
    · rw [z]
    · exact (mk3_inj z).2.2
  unfold marksOf clashB
  rw [List.nodup_append, List.nodup_append, c1, c2, c3, Bool.and_eq_true, Bool.and_eq_true, decide_eq_true_eq, decide_eq_true_eq, decide_eq_true_eq]
  constructor
  · rintro ⟨⟨h1, h2, -⟩, h3, -⟩
    exact ⟨h1, h2, h3⟩
  · rintro ⟨h1, h2, h3⟩
    refine ⟨⟨h1, h2, fun a ha b hb e => ?_⟩, h3, fun a ha b hb e => ?_⟩
    · obtain ⟨p, _, rfl⟩ := List.mem_map.mp ha
      obtain ⟨q, _, rfl⟩ := List.mem_map.mp hb
      exact ne1 (mk3_inj e).2.1
    · obtain ⟨q, _, rfl⟩ := List.mem_map.mp hb
      rcases List.mem_append.mp ha with ha | ha
      · obtain ⟨p, _, rfl⟩ := List.mem_map.mp ha
        exact ne2 (mk3_inj e).2.1
      · obtain ⟨p, _, rfl⟩ := List.mem_map.mp ha
        exact ne3 (mk3_inj e).2.1
/-! ### what is aboard -/
def cumP (D : Dy) (c h : Int) (p : Pass) : Int := if keeps D c h p = true then 1 else 0
def stepP (D : Dy) (c h : Int) (p : Pass) : Int := if p.craft = c ∧ (blkAt D p.block).due.isNone = true then (if (blkAt D p.block).ready = h then 1 else 0) - (if p.hour = h then 1 else 0) else 0
theorem step_eq {D : Dy} {p : Pass} (hp : passT D p = true) (c h : Int) : cumP D c h p = cumP D c (h - 1) p + stepP D c h p := by
  have hm := (passT_of hp).2.2.2.2.2.2
  unfold mayB at hm
  have hr := of_decide_eq_true (and3 hm).1
  unfold cumP stepP keeps
  cases e : (blkAt D p.block).due.isNone with
  | false => simp
  | true =>
    by_cases c1 : p.craft = c
    · simp only [c1, decide_true, Bool.true_and, Bool.and_eq_true, decide_eq_true_eq, true_and, if_true]
      repeat' split
      all_goals omega
    · simp [c1]
def cntL (D : Dy) (ps : List Pass) (c h : Int) : Int := (ps.map (cumP D c h)).sum
theorem cnt_len (D : Dy) (ps : List Pass) (c h : Int) : cntL D ps c h = ((keptL D ps c h).length : Int) := by
  unfold cntL keptL
  rw [List.length_map]
  induction ps with
  | nil => rfl
  | cons p r ih =>
    rw [List.map_cons, List.sum_cons, ih, List.filter_cons]
    unfold cumP
    cases keeps D c h p with
    | true => simp; omega
    | false => simp
theorem cnt_zero {D : Dy} (hD : DyOk D) {ps : List Pass} (ok : ∀ p ∈ ps, passT D p = true) (c : Int) : cntL D ps c (-1) = 0 := by
  unfold cntL
  have : ∀ p ∈ ps, cumP D c (-1) p = 0 := fun p hp => by
    have b := (passT_of (ok p hp)).2.2.2.1
    have r0 := (blkAt_ok hD b.1 (by omega)).r0
    unfold cumP keeps
    rw [show decide ((blkAt D p.block).ready ≤ -1) = false from decide_eq_false (by omega)]
    simp
  induction ps with
  | nil => rfl
  | cons p r ih => rw [List.map_cons, List.sum_cons, this p List.mem_cons_self, ih (fun q hq => ok q (List.mem_cons_of_mem _ hq)) fun q hq => this q (List.mem_cons_of_mem _ hq)]; rfl
def partL (D : Dy) (ps : List Pass) (h : Int) (i : Nat) (c : Int) : Int := cntL D ps c (h - 1) + ((ps.take i).map (stepP D c h)).sum
theorem part_zero (D : Dy) (ps : List Pass) (h c : Int) : partL D ps h 0 c = cntL D ps c (h - 1) := by simp [partL]
theorem part_next (D : Dy) (ps : List Pass) (h : Int) (i : Nat) (hi : i < ps.length) (c : Int) : partL D ps h (i + 1) c = partL D ps h i c + stepP D c h ps[i] := by
  unfold partL
  rw [List.take_add_one, List.getElem?_eq_getElem hi, List.map_append, List.sum_append]
  simp
  omega
theorem part_all {D : Dy} {ps : List Pass} (ok : ∀ p ∈ ps, passT D p = true) (h c : Int) : partL D ps h ps.length c = cntL D ps c h := by
  unfold partL cntL
  rw [List.take_length]
  induction ps with
  | nil => rfl
  | cons p r ih =>
    have := ih fun q hq => ok q (List.mem_cons_of_mem _ hq)
    have s := step_eq (ok p List.mem_cons_self) c h
    simp only [List.map_cons, List.sum_cons]
    omega
end Law

set_option Elab.async false
set_option linter.all false
set_option maxRecDepth 100000
set_option maxHeartbeats 2000000
namespace Law
open PySem PySem.Spec PyProof.Rows L2 GxR GX Tree Kit Data Loops Loops2 Comps Purse Day SetG SetL Lit Sets Small Ib
section
variable {P : Program} {w : World} {K : PySem.W.Frag} {mg : Str → Option Value} {base : Heap} {fa : String → Addr} {fd : String → FuncData} {ca ta : String → Addr}
/-! ### the law's own look at a pass -/
def sp_law_is_pass : Sp := fun vs H Q _ => ∃ dv D v d, vs = [dv, v] ∧ Tr [] H dv (dayD D) ∧ DyOk D ∧ Tr [] H v d ∧ sz d ≤ 100000 ∧ ∀ H', Kx [] H H' → Q (.bl (passB D d)) H'
theorem ok__law_is_pass (Y : Facts K mg base fa fd ca ta) : FnOk P w K mg base CX0 3 (fa "_law_is_pass") (fd "_law_is_pass") ["day", "one"] sp_law_is_pass := by
  refine Y.d__law_is_pass.ok sc__law_is_pass (fun vs H Q E h => ?_) (fun cdv A outer s H vs Q E hcd hr h => ?_)
  · obtain ⟨dv, D, v, d, rfl, _⟩ := h; rfl
  · obtain ⟨dv, D, v, d, rfl, hdt, hD, ht, hz, q⟩ := h
    refine ⟨_, (pss_cons (ps_asg (pv 0) (pg_tupK (n := 5) K rfl rfl (pgs_cons (pg_name (i := 2) sc__law_is_pass.nd rfl (by first | exact Or.inl rfl | exact Or.inr rfl)) (pgs_cons (pg_name (i := 3) sc__law_is_pass.nd rfl (by first | exact Or.inl rfl | exact Or.inr rfl)) (pgs_cons (pg_name (i := 4) sc__law_is_pass.nd rfl (by first | exact Or.inl rfl | exact Or.inr rfl)) (pgs_cons (pg_name (i := 5) sc__law_is_pass.nd rfl (by first | exact Or.inl rfl | exact Or.inr rfl)) (pgs_cons (pg_name (i := 6) sc__law_is_pass.nd rfl (by first | exact Or.inl rfl | exact Or.inr rfl)) pgs_nil)))))))
      (pss_cons (ps_if ((pw_or (pt_not (pt_val (pe_callB (call_isiK' K rfl) (by rfl) Y.b.isinstance (by decide +kernel) (pa_cons (pv 1) (pa_cons (pe_bltn (v := .ty "tuple") (by rfl) Y.b.tuple (by decide +kernel) rfl) pa_nil))))) (pw_or (pt_cmpR op_ne (pe_callB (call_lenK K rfl) (by rfl) Y.b.len (by decide +kernel) (pa_cons (pv 1) pa_nil)) pe_int (nomark _)) (pw_or1 (pt_not (pt_val (pe_call (ok__law_each Y) (hr.mono (by decide)) (by rfl) Y.d__law_each.g Y.d__law_each.kp Y.d__law_each.b .nil pass0 (pa_cons (pe_callTy (call_listK K rfl) (by rfl) Y.b.list (by decide +kernel) (pa_cons (pv 1) pa_nil)) (pa_cons pe_int (pa_cons pe_int pa_nil)))))))))).pt (pss_one (ps_ret pe_bl)) pss_nil)
      (pss_cons (ps_asg (pv 1) (pg_tupK (n := 4) K rfl rfl (pgs_cons (pg_name (i := 7) sc__law_is_pass.nd rfl (by first | exact Or.inl rfl | exact Or.inr rfl)) (pgs_cons (pg_name (i := 8) sc__law_is_pass.nd rfl (by first | exact Or.inl rfl | exact Or.inr rfl)) (pgs_cons (pg_name (i := 9) sc__law_is_pass.nd rfl (by first | exact Or.inl rfl | exact Or.inr rfl)) (pgs_cons (pg_name (i := 10) sc__law_is_pass.nd rfl (by first | exact Or.inl rfl | exact Or.inr rfl)) pgs_nil))))))
      (pss_cons (ps_if ((pw_or (pt_cmpR op_ge (pv 7) (pv 2) (nomark _)) (pw_or (pt_cmpR op_ge (pv 8) (pe_callB (call_lenK K rfl) (by rfl) Y.b.len (by decide +kernel) (pa_cons (pv 4) pa_nil)) (nomark _)) (pw_or (pt_cmpR op_ge (pv 10) (pe_callB (call_lenK K rfl) (by rfl) Y.b.len (by decide +kernel) (pa_cons (pv 6) pa_nil)) (nomark _)) (pw_or1 (pt_cmpR (op_notInK K rfl) (pv 9) (pe_ix (ix_listK K rfl) (pe_ix (ix_listK K rfl) (pv 4) (pv 8) (fun _ _ => rfl)) (pv 7) (fun _ _ => rfl)) (by rfl))))))).pt (pss_one (ps_ret pe_bl)) pss_nil)
      (pss_one (ps_ret (pe_and (pe_cmpR op_eq (pe_ix (ix_tupK K rfl) (pe_ix (ix_listK K rfl) (pv 6) (pv 10) (fun _ _ => rfl)) pe_int (fun _ _ => rfl)) (pv 9) (nomark _)) (pe_one (pe_call (ok__law_may Y) (hr.mono (by decide)) (by rfl) Y.d__law_may.g Y.d__law_may.kp Y.d__law_may.b .nil pass0 (pa_cons (pe_ix (ix_listK K rfl) (pv 6) (pv 10) (fun _ _ => rfl)) (pa_cons (pv 7) pa_nil))))))))))), ?_⟩
    have no : ∀ H', Kx [] H H' → passB D d = false → Q (.bl false) H' := fun H' k e => by
      have := q H' k
      rwa [e] at this
    obtain ⟨da, dx, rfl, edx, tdx⟩ := hdt.tupV
    obtain ⟨y1, y2, y3, y4, y5, rfl, u1, u2, u3, u4, u5⟩ := TrAll.five tdx
    cases u1
    refine ⟨.ref da, rfl, da, _, rfl, SqT.of edx, rfl, _, _, rfl, y2, _, rfl, y3, _, rfl, y4, _, rfl, y5, _, rfl, rfl, ?_⟩
    obtain ⟨aS, xS, rfl, eS, tS⟩ := u2.listV
    obtain ⟨aI, xI, rfl, eI, tI⟩ := u3.listV
    obtain ⟨aB, xB, rfl, eB, tB⟩ := u5.listV
    have lS := tS.length
    have lI := tI.length
    have lB := tB.length
    rw [List.length_map] at lS lI lB
    have b1 := hD.t1
    have b2 := hD.g1
    have b3 := hD.s1
    have b4 := hD.bl
    refine ⟨v, rfl, v, .ty "tuple", _, _, _, rfl, .ty _, ht.ty, kit_tuple d, _, rfl, ite2 (fun c => ?_) (fun c => ?_)⟩
    · refine no H (Kx.refl H) (passB_tp d ?_)
      have c : isiD "tuple" d = false := by simpa using c
      cases d <;> first | rfl | exact absurd (c.symm.trans rfl : false = true) Bool.false_ne_true
    cases ht with
    | tup m ha l =>
      rename_i a xs ds
      have hlen := l.length
      refine ⟨_, rfl, a, xs, rfl, .inr (SqT.of ha), rfl, _, rfl, ite2 (fun c1 => ?_) (fun c1 => ?_)⟩
      · refine no H (Kx.refl H) (passB_tp _ (decide_eq_false fun z => ?_))
        rw [hlen, z] at c1
        simp at c1
      have c1 : (ds.length : Int) = 4 := by
        have := notE c1
        simp only [Bool.not_eq_false', decide_eq_true_eq] at this
        have := V.int.inj this
        omega
      obtain ⟨d1, d2, d3, d4, rfl⟩ := four_of c1
      refine ⟨_, rfl, a, xs, rfl, .inr (SqT.of ha), fun L hL => ?_⟩
      obtain ⟨kL, eL, tL⟩ := mk_lst (C := []) (fun c hc => nomatch hc) l hL
      generalize upd H L (.lst xs) = H1 at kL eL tL ⊢
      refine ⟨.ref L, _, 0, 13, rfl, tL, by simpa only [sz] using hz, fun H2 k2 => ⟨_, rfl, ?_⟩⟩
      have k02 := kL.trans k2
      have bd : passB D (.tuple [d1, d2, d3, d4]) = true → listAll (isWh 0 13) (.list [d1, d2, d3, d4]) = true := fun e => by
        obtain ⟨p, ep, hp⟩ := passB_of e
        obtain ⟨a1, a2, a3, a4, -⟩ := passT_of hp
        unfold passD at ep
        injection ep with ep
        injection ep with e1 ep
        injection ep with e2 ep
        injection ep with e3 ep
        injection ep with e4 ep
        subst e1 e2 e3 e4
        show (isWh 0 13 (.int p.hour) && (isWh 0 13 (.int p.dish) && (isWh 0 13 (.int p.craft) && (isWh 0 13 (.int p.block) && true)))) = true
        rw [isWh_mk a1.1 (by omega), isWh_mk a2.1 (by omega), isWh_mk a3.1 (by omega), isWh_mk a4.1 (by omega)]
        rfl
      cases hE : listAll (isWh 0 13) (.list [d1, d2, d3, d4]) with
      | false =>
        refine iteT (no H2 k02 ?_)
        cases z : passB D (.tuple [d1, d2, d3, d4]) with
        | false => rfl
        | true => rw [bd z] at hE; cases hE
      | true =>
      have hE : (isWh 0 13 d1 && (isWh 0 13 d2 && (isWh 0 13 d3 && (isWh 0 13 d4 && true)))) = true := hE
      obtain ⟨q1, hE⟩ := and3 hE
      obtain ⟨q2, hE⟩ := and3 hE
      obtain ⟨q3, hE⟩ := and3 hE
      obtain ⟨q4, -⟩ := and3 hE
      obtain ⟨i, rfl, i0, i1⟩ := isWh_int q1
      obtain ⟨j, rfl, j0, j1⟩ := isWh_int q2
      obtain ⟨k, rfl, c0, c1'⟩ := isWh_int q3
      obtain ⟨n, rfl, n0, n1⟩ := isWh_int q4
      obtain ⟨w1, w2, w3, w4, rfl, t1, t2, t3, t4⟩ := TrAll.four l
      cases t1
      cases t2
      cases t3
      cases t4
      have u3 := u3.up k02
      have u5 := u5.up k02
      have eI2 := k02.lst (by simp) eI
      have eB2 := k02.lst (by simp) eB
      have ha2 := k02.tup (by simp) ha
      have no2 : passT D ⟨i, j, k, n⟩ = false → Q (.bl false) H2 := no H2 k02
      have yes : ∀ {b : Bool}, passT D ⟨i, j, k, n⟩ = b → Q (.bl b) H2 := fun {b} e => by
        have := q H2 k02
        rwa [show passB D (.tuple [.int i, .int j, .int k, .int n]) = b from e] at this
      have not : ¬ (passT D ⟨i, j, k, n⟩ = true) → Q (.bl false) H2 := fun z => no2 (by simpa using z)
      clear q no
      refine iteF (st_next ?_)
      dsimp only
      refine ⟨.ref a, rfl, a, _, rfl, SqT.of ha2, rfl, .int i, _, rfl, .int j, _, rfl, .int k, _, rfl, .int n, _, rfl, rfl, ?_⟩
      refine ⟨.int i, rfl, .int D.hours, rfl, i, D.hours, rfl, rfl, decide (D.hours ≤ i), rfl, ite2 (fun g => ?_) (fun g => ?_)⟩
      · have g := of_decide_eq_true g
        exact not fun z => by have := (passT_of z).1; dsimp only at this; omega
      have g1 : ¬ D.hours ≤ i := of_decide_eq_false (notE g)
      refine ⟨.int j, rfl, .ref aI, rfl, aI, xI, rfl, .inl (SqL.of eI2), j, _, rfl, rfl, decide ((xI.length : Int) ≤ j), rfl, ite2 (fun g => ?_) (fun g => ?_)⟩
      · have g := of_decide_eq_true g
        exact not fun z => by have := (passT_of z).2.1; dsimp only at this; omega
      have g2 : ¬ (xI.length : Int) ≤ j := of_decide_eq_false (notE g)
      refine ⟨.int n, rfl, .ref aB, rfl, aB, xB, rfl, .inl (SqL.of eB2), n, _, rfl, rfl, decide ((xB.length : Int) ≤ n), rfl, ite2 (fun g => ?_) (fun g => ?_)⟩
      · have g := of_decide_eq_true g
        exact not fun z => by have := (passT_of z).2.2.2.1; dsimp only at this; omega
      have g3 : ¬ (xB.length : Int) ≤ n := of_decide_eq_false (notE g)
      obtain ⟨_, xI', g, e, eI', at1, tg⟩ := ixT u3 j0 (by rw [List.length_map]; omega)
      cases e
      rw [getD_map sightD D.sights j.toNat [] _ (by omega)] at tg
      have sm : D.sights.getD j.toNat [] ∈ D.sights := by
        rw [List.getD_eq_getElem?_getD, List.getElem?_eq_getElem (by omega)]
        exact List.getElem_mem _
      have sl := hD.gl _ sm
      obtain ⟨gA, gx, r, rfl, eg, at2, tr⟩ := ixT tg i0 (by rw [List.length_map]; omega)
      rw [getD_map rowD _ i.toNat [] _ (by omega)] at tr
      obtain ⟨rA, rx, rfl, er, trx⟩ := tr.listV
      have erx := TrAll.intsV trx (by rw [ints_back])
      rw [ints_back] at erx
      rw [erx] at er
      refine ⟨.int k, rfl, .ref aI, rfl, .int j, rfl, aI, xI', j, .ref gA, rfl, rfl, SqL.of eI', at1, .int i, rfl, gA, gx, i, .ref rA, rfl, rfl, SqL.of eg, at2, rA, _, rfl, .inl (SqL.of er), rfl, flat_ints _, ?_⟩
      rw [if_pos rfl, inV_ints]
      refine ⟨_, rfl, ite2 (fun g => ?_) (fun g => ?_)⟩
      · refine not fun z => ?_
        have := (passT_of z).2.2.2.2.1
        have g : (!(heardAt D j i).contains k) = true := g
        rw [Bool.not_eq_true'] at g
        rw [List.contains_iff_mem.mpr this] at g
        cases g
      have g : ¬ (!(heardAt D j i).contains k) = true := g
      have g4 : k ∈ heardAt D j i := by
        cases h : (heardAt D j i).contains k with
        | true => exact List.contains_iff_mem.mp h
        | false => exact absurd (by rw [h]; rfl) g
      refine st_next ?_
      dsimp only
      obtain ⟨_, xB', bv, e, eB', at3, tb⟩ := ixT u5 n0 (by rw [List.length_map]; omega)
      cases e
      rw [getD_map blkD D.blocks n.toNat ⟨0, 0, 0, none, 0⟩ _ (by omega)] at tb
      have tb0 := tb
      obtain ⟨bA, bx, rfl, eb, tbx⟩ := tb.tupV
      obtain ⟨z1, z2, z3, z4, z5, rfl, f1, f2, f3, f4, f5⟩ := TrAll.five tbx
      cases f2
      refine ⟨.ref aB, rfl, .int n, rfl, aB, xB', n, .ref bA, rfl, rfl, SqL.of eB', at3, bA, _, 1, _, rfl, rfl, SqT.of eb, rfl, .int k, rfl, rfl, _, rfl, ?_⟩
      have ec : decide (V.int (blkAt D n).craft = V.int k) = decide (k = (blkAt D n).craft) := by
        rw [eqV_int]
        exact decide_eq_decide.mpr ⟨fun z => z.symm, fun z => z.symm⟩
      show if decide (V.int (blkAt D n).craft = V.int k) = true then _ else _
      rw [ec]
      refine ite2 (fun g => ?_) (fun g => ?_)
      · have g5 : k = (blkAt D n).craft := of_decide_eq_true g
        refine ⟨.ref aB, rfl, .int n, rfl, aB, xB', n, .ref bA, rfl, rfl, SqL.of eB', at3, .int i, rfl, .ref bA, blkAt D n, i, rfl, tb0, yes ?_⟩
        have ob := blkAt_ok hD n0 (by omega)
        cases hm : mayB (blkAt D n) i with
        | true => exact passT_mk ⟨i0, by show i < D.hours; omega⟩ ⟨j0, by show j < _; omega⟩ ⟨c0, by show k < _; have := ob.c1; omega⟩ ⟨n0, by show n < _; omega⟩ g4 g5 hm
        | false =>
          cases z : passT D ⟨i, j, k, n⟩ with
          | false => rfl
          | true =>
            have := (passT_of z).2.2.2.2.2.2
            dsimp only at this
            rw [hm] at this
            cases this
      · exact not fun z => (of_decide_eq_false (notE g)) ((passT_of z).2.2.2.2.2.1)
    | _ => exact absurd rfl c
end
end Law

set_option Elab.async false
set_option linter.all false
set_option maxRecDepth 100000
set_option maxHeartbeats 2000000
namespace Law
open PySem PySem.Spec PyProof.Rows L2 GxR GX Tree Kit Data Loops Loops2 Comps Purse Day SetG SetL Lit Sets Small Ib Enum MixSets Picks
/-! ### comprehensions of marks, sorting, comparing -/
theorem lc_keys {K : PySem.W.Frag} {g : TG} {te : TE} {vs : List Nat} {σ : L2.St} {H : Hp} {Q : VK} {a : Addr} {xs : List V} (f : Nat → List Key) (ha : H a = some (.lst xs)) (hN : xs.length < sizeLine)
    (step : ∀ i H', i < xs.length → Kx [] H H' → ∀ (R : V → Hp → Prop), (∀ T H'', Kx [] H' H'' → H' T = none → H'' T = some (.tup ((f i).map kV)) → R (.ref T) H'') →
      g (xs.getD i .non) (wipe σ vs) H' fun σ2 H2 => wipe σ2 vs = wipe σ vs ∧ te σ2 H2 R)
    (q : ∀ D (L : List (Addr × List Key)) H', Kx [] H H' → H' D = some (.lst (L.map fun p => V.ref p.1)) → (∀ p ∈ L, H' p.1 = some (.tup (p.2.map kV))) → L.map (·.2) = (List.range xs.length).map f → Q (.ref D) H') : CompG (Itl K a) g tYes te vs σ H Q := by
  intro D hD
  refine lc_gen (B := []) (itl_at (B := []) ha (by simp)) hN hD (A := fun i acc H' => ∃ L : List (Addr × List Key), acc = L.map (fun p => V.ref p.1) ∧ (∀ p ∈ L, H' p.1 = some (.tup (p.2.map kV))) ∧ L.map (·.2) = (List.range i).map f)
    ⟨[], rfl, fun p h => (nomatch h), rfl⟩ (fun i H' acc hi k hd ⟨L, e1, e2, e3⟩ R R0 hR hR0 => ?_) fun acc H' k hd ⟨L, e1, e2, e3⟩ => ?_
  · subst e1
    have st := step i H' hi k R fun T H'' k2 hT eT => hR (.ref T) H'' (k.trans k2) (k2.lst (by simp) hd) ⟨L ++ [(T, f i)], by rw [List.map_append]; rfl, fun p hp => ?_, by rw [List.map_append, e3, List.range_succ, List.map_append]; rfl⟩
    · exact st
    · have nD : ∀ {b : Addr} {zs : List V}, H'' b = some (.tup zs) → b ≠ D := fun e z => by rw [z, k2.lst (by simp) hd] at e; cases e
      rcases List.mem_append.mp hp with z | z
      · have := k2.tup (by simp) (e2 p z)
        rw [upd_ne (nD this)]; exact this
      · rw [List.mem_singleton.mp z, upd_ne (nD eT)]; exact eT
  · subst e1
    exact q D L H' k hd e2 e3
section
variable {P : Program} {w : World} {K : PySem.W.Frag} {mg : Str → Option Value} {base : Heap} {fa : String → Addr} {fd : String → FuncData} {ca ta : String → Addr}
theorem sort_code {C : List Addr} {H : Hp} {a : Addr} {ps : List Pass} (al : ∀ c ∈ C, H c ≠ none) (t : Tr C H (.ref a) (.list (ps.map passD))) (bd : ∀ p ∈ ps, TS.Bd 100 (passI p)) (hl : ps.length < 64) {Q : VK}
    (q : ∀ (S : Addr) (qs : List Pass) (H' : Hp), Kx [] H H' → H S = none → qs.Perm ps → qs.Pairwise (fun a b => codeP a ≤ codeP b) → Tr C H' (.ref S) (.list (qs.map passD)) → Q (.ref S) H') : rSortU K 4 100 [.ref a] H Q := by
  obtain ⟨xs, ex, tx⟩ := t.items
  have lx := tx.length
  rw [List.length_map] at lx
  refine ⟨a, xs, rfl, SqL.of ex, by omega, fun x hx => ?_, fun ys p perm up hp => ?_⟩
  · obtain ⟨i, hi, rfl⟩ := List.getElem_of_mem hx
    obtain ⟨d, e1, e2⟩ := tx.get (List.getElem?_eq_getElem hi)
    obtain ⟨pp, hp, rfl⟩ := List.mem_map.mp (List.mem_of_getElem? e1)
    exact ⟨_, pass_vals e2, rfl, bd pp hp⟩
  · obtain ⟨qs, pq, tq⟩ := passes_perm perm tx
    have ly := tq.length
    rw [List.length_map] at ly
    obtain ⟨k, e, t2⟩ := mk_lst al tq hp
    refine q p qs _ k hp pq ?_ t2
    refine List.pairwise_iff_getElem.mpr fun i j hi hj hij => ?_
    have ei : ∀ i (hi : i < qs.length), TupI K H (ys[i]'(by omega)) (passI qs[i]) := fun i hi => by
      obtain ⟨d, e1, e2⟩ := tq.get (List.getElem?_eq_getElem (show i < ys.length by omega))
      rw [List.getElem?_map, List.getElem?_eq_getElem hi] at e1
      cases e1
      exact pass_vals e2
    exact List.pairwise_iff_getElem.mp up i j (by omega) (by omega) hij _ _ (ei i hi) (ei j hj)
theorem eqv_iff : ∀ {ps qs : List Pass}, PyData.eqv (.list (ps.map passD)) (.list (qs.map passD)) = true ↔ ps = qs
  | [], [] => ⟨fun _ => rfl, fun _ => rfl⟩
  | [], q :: qs => ⟨fun h => absurd (show false = true from h) Bool.false_ne_true, fun h => nomatch h⟩
  | p :: ps, [] => ⟨fun h => absurd (show false = true from h) Bool.false_ne_true, fun h => nomatch h⟩
  | p :: ps, q :: qs => by
    have ih := eqv_iff (ps := ps) (qs := qs)
    show (samePass p q && PyData.eqv (.list (ps.map passD)) (.list (qs.map passD))) = true ↔ _
    rw [Bool.and_eq_true, same_iff, ih, List.cons.injEq]
theorem can_passes (ps : List Pass) : PyData.canLay0 (.list (ps.map passD)) = true := canAll fun d hd => by
  obtain ⟨p, _, rfl⟩ := List.mem_map.mp hd
  rfl
theorem shaped_passes (ps : List Pass) : SeqAt.shaped (.list (ps.map passD)) = true := shaped_by (k := 2) (can_passes ps) (depAll fun d hd => by
  obtain ⟨p, _, rfl⟩ := List.mem_map.mp hd
  exact Nat.le_refl 1)
theorem cat_vs {H : Hp} {A B : Addr} {as bs : List V} {Q : VK} (ea : H A = some (.lst as)) (eb : H B = some (.lst bs)) (hl : as.length + bs.length ≤ sizeLine)
    (q : ∀ (S : Addr) (H' : Hp), Kx [] H H' → H S = none → H' S = some (.lst (as ++ bs)) → Q (.ref S) H') : rCat (.ref A) (.ref B) H Q := ⟨A, B, _, _, rfl, rfl, ea, eb, hl, fun S hS => q S _ (Kx.new hS) hS upd_same⟩
theorem st_orT {t1 t2 : TT} {σ : L2.St} {H : Hp} {Q : Bool → Hp → Prop} (h : t1 σ H fun c H1 => if c = true then Q true H1 else t2 σ H1 Q) : tOr t1 t2 σ H Q := h
theorem st_lit {t : TS} {D : Ends} {σ : L2.St} {H : Hp} (σ' : L2.St) (e : σ = σ') (h : t D σ' H) : t D σ H := e ▸ h
theorem st_tup {ts : TA} {σ : L2.St} {H : Hp} {Q : VK} (h : ts σ H fun xs H1 => xs.length ≤ sizeLine ∧ ∀ p, H1 p = none → Q (.ref p) (upd H1 p (.tup xs))) : tTup ts σ H Q := h
theorem st_nil {σ : L2.St} {H : Hp} {Q : List V → Hp → Prop} (h : Q [] H) : tNil σ H Q := h
theorem st_c {v : V} {σ : L2.St} {H : Hp} {Q : VK} (h : Q v H) : tC v σ H Q := h
/-! ### what is aboard, as a list -/
def abV (f : Int → Int) (S : Nat) : List V := (List.range S).map fun c : Nat => V.int (f c)
theorem abV_len (f : Int → Int) (S : Nat) : (abV f S).length = S := by simp [abV]
theorem abV_congr {f g : Int → Int} {S : Nat} (h : ∀ c : Nat, c < S → f c = g c) : abV f S = abV g S := List.map_congr_left fun c hc => by rw [h c (List.mem_range.mp hc)]
theorem abV_get {f : Int → Int} {S : Nat} {c : Nat} (h : c < S) : (abV f S)[c]? = some (.int (f c)) := by
  unfold abV
  rw [List.getElem?_map, List.getElem?_range h]
  rfl
theorem abV_at {f : Int → Int} {S : Nat} {c : Int} (h0 : 0 ≤ c) (h1 : c < S) : atI (abV f S) c = some (.int (f c)) := by
  have := atI_nat (abV_get (f := f) (show c.toNat < S by omega))
  rwa [show ((c.toNat : Nat) : Int) = c by omega] at this
theorem abV_ix {f : Int → Int} {S : Nat} {c : Int} (h0 : 0 ≤ c) (h1 : c < S) : ixN (abV f S).length c = some c.toNat := by
  unfold ixN
  rw [if_pos h0, abV_len, if_pos h1]
theorem abV_set {f : Int → Int} {S : Nat} {c v : Int} (h0 : 0 ≤ c) : (abV f S).set c.toNat (.int v) = abV (fun d => if d = c then v else f d) S := by
  refine List.ext_getElem? fun n => ?_
  rw [List.getElem?_set, abV_len]
  by_cases hn : n < S
  · rw [abV_get hn, abV_get hn]
    by_cases e : c.toNat = n
    · rw [if_pos e, if_pos (by omega), if_pos (by omega)]
    · rw [if_neg e, if_neg (by omega)]
  · have z : ∀ g, (abV g S)[n]? = none := fun g => List.getElem?_eq_none (by rw [abV_len]; omega)
    rw [z, z]
    by_cases e : c.toNat = n
    · rw [if_pos e, if_neg (by omega)]
    · rw [if_neg e]
theorem fit_false {D : Dy} {ps : List Pass} {c i : Nat} (hc : c < D.stores.length) (hi : i < D.hours.toNat) (h : D.stores.getD c 0 < cntL D ps c i) : fitB D ps = false := by
  cases e : fitB D ps with
  | false => rfl
  | true =>
    have := of_decide_eq_true (List.all_eq_true.mp (List.all_eq_true.mp e c (List.mem_range.mpr hc)) i (List.mem_range.mpr hi))
    rw [cnt_len] at h
    omega
theorem fit_true {D : Dy} {ps : List Pass} (h : ∀ t : Nat, t < D.hours.toNat → ∀ c : Nat, c < D.stores.length → cntL D ps c t ≤ D.stores.getD c 0) : fitB D ps = true :=
  List.all_eq_true.mpr fun c hc => List.all_eq_true.mpr fun t ht => decide_eq_true (by
    have := h t (List.mem_range.mp ht) c (List.mem_range.mp hc)
    rwa [cnt_len] at this)
/-! ### the law's own look at a plan -/
def sp_law_is_plan : Sp := fun vs H Q _ => ∃ (dv : V) (D : Dy) (v : V) (d : PyData), vs = [dv, v] ∧ Tr [] H dv (dayD D) ∧ DyOk D ∧ Tr [] H v d ∧ sz d ≤ 100000 ∧ (∀ ds, d = .list ds → ds.length ≤ 20) ∧ ∀ H', Kx [] H H' → Q (.bl (planB D d)) H'
theorem ok__law_is_plan (Y : Facts K mg base fa fd ca ta) : FnOk P w K mg base CX0 4 (fa "_law_is_plan") (fd "_law_is_plan") ["day", "thing"] sp_law_is_plan := by
  refine Y.d__law_is_plan.ok sc__law_is_plan (fun vs H Q E h => ?_) (fun cdv A outer s H vs Q E hcd hr h => ?_)
  · obtain ⟨dv, D, v, d, rfl, _⟩ := h; rfl
  · obtain ⟨dv, D, v, d, rfl, hdt, hD, ht, hz, hl, q⟩ := h
    refine ⟨_, (pss_cons (ps_asg (pv 0) (pg_tupK (n := 5) K rfl rfl (pgs_cons (pg_name (i := 2) sc__law_is_plan.nd rfl (by first | exact Or.inl rfl | exact Or.inr rfl)) (pgs_cons (pg_name (i := 3) sc__law_is_plan.nd rfl (by first | exact Or.inl rfl | exact Or.inr rfl)) (pgs_cons (pg_name (i := 4) sc__law_is_plan.nd rfl (by first | exact Or.inl rfl | exact Or.inr rfl)) (pgs_cons (pg_name (i := 5) sc__law_is_plan.nd rfl (by first | exact Or.inl rfl | exact Or.inr rfl)) (pgs_cons (pg_name (i := 6) sc__law_is_plan.nd rfl (by first | exact Or.inl rfl | exact Or.inr rfl)) pgs_nil)))))))
      (pss_cons (ps_if ((pw_or (pt_not (pt_val (pe_callB (call_isiK' K rfl) (by rfl) Y.b.isinstance (by decide +kernel) (pa_cons (pv 1) (pa_cons (pe_bltn (v := .ty "list") (by rfl) Y.b.list (by decide +kernel) rfl) pa_nil))))) (pw_or1 (pt_cmpR (op_neNil hr.units0) (pe_lc (own := [("one", 15)]) (g := gName 15) rfl sc__law_is_plan.nd (pi_listK K rfl (pv 1)) (blkOk_by (N := ["day", "thing", "hours", "stores", "sights", "asks", "blocks", "marks", "aboard", "hour", "when", "dish", "craft", "number", "step", "one"]) (sc := defScope s__law_is_plan) (by decide +kernel)) (fun _ _ _ _ _ => (pg_name (i := 15) sc__law_is_plan.nd rfl (by first | exact Or.inl rfl | exact Or.inr rfl))) (fun _ _ _ _ _ => (pts_one (pt_not (pt_val (pe_call (ok__law_is_pass Y) (hr.mono (by decide)) (by rfl) Y.d__law_is_pass.g Y.d__law_is_pass.kp Y.d__law_is_pass.b .nil pass0 (pa_cons (pv 0) (pa_cons (pv 15) pa_nil))))))) (fun _ _ _ _ _ => (pv 15))) (pe_lst pa_nil) (nomark _))))).pt (pss_one (ps_ret pe_bl)) pss_nil)
      (pss_cons (ps_set (i := 7) sc__law_is_plan.nd rfl (by first | exact Or.inl rfl | exact Or.inr rfl) (pe_op op_cat (pe_lc (own := [("one", 15)]) (g := gName 15) (tt := tYes) rfl sc__law_is_plan.nd (pi_listK K rfl (pv 1)) (blkOk_by (N := ["day", "thing", "hours", "stores", "sights", "asks", "blocks", "marks", "aboard", "hour", "when", "dish", "craft", "number", "step", "one"]) (sc := defScope s__law_is_plan) (by decide +kernel)) (fun _ _ _ _ _ => (pg_name (i := 15) sc__law_is_plan.nd rfl (by first | exact Or.inl rfl | exact Or.inr rfl))) (fun _ _ _ _ _ => pts_nil) (fun _ _ _ _ _ => (pe_tup (pa_cons (pe_ix (ix_tupK K rfl) (pv 15) pe_int (fun _ _ => rfl)) (pa_cons pe_str (pa_cons (pe_ix (ix_tupK K rfl) (pv 15) pe_int (fun _ _ => rfl)) pa_nil)))))) (pe_lc (own := [("one", 15)]) (g := gName 15) (tt := tYes) rfl sc__law_is_plan.nd (pi_listK K rfl (pv 1)) (blkOk_by (N := ["day", "thing", "hours", "stores", "sights", "asks", "blocks", "marks", "aboard", "hour", "when", "dish", "craft", "number", "step", "one"]) (sc := defScope s__law_is_plan) (by decide +kernel)) (fun _ _ _ _ _ => (pg_name (i := 15) sc__law_is_plan.nd rfl (by first | exact Or.inl rfl | exact Or.inr rfl))) (fun _ _ _ _ _ => pts_nil) (fun _ _ _ _ _ => (pe_tup (pa_cons (pe_ix (ix_tupK K rfl) (pv 15) pe_int (fun _ _ => rfl)) (pa_cons pe_str (pa_cons (pe_ix (ix_tupK K rfl) (pv 15) pe_int (fun _ _ => rfl)) pa_nil))))))))
      (pss_cons (ps_set (i := 7) sc__law_is_plan.nd rfl (by first | exact Or.inl rfl | exact Or.inr rfl) (pe_op op_cat (pv 7) (pe_lc (own := [("one", 15)]) (g := gName 15) (tt := tYes) rfl sc__law_is_plan.nd (pi_listK K rfl (pv 1)) (blkOk_by (N := ["day", "thing", "hours", "stores", "sights", "asks", "blocks", "marks", "aboard", "hour", "when", "dish", "craft", "number", "step", "one"]) (sc := defScope s__law_is_plan) (by decide +kernel)) (fun _ _ _ _ _ => (pg_name (i := 15) sc__law_is_plan.nd rfl (by first | exact Or.inl rfl | exact Or.inr rfl))) (fun _ _ _ _ _ => pts_nil) (fun _ _ _ _ _ => (pe_tup (pa_cons pe_int (pa_cons pe_str (pa_cons (pe_ix (ix_tupK K rfl) (pv 15) pe_int (fun _ _ => rfl)) pa_nil))))))))
      (pss_cons (ps_if ((pw_or (pt_cmpR (op_neDK K rfl hr.units) (pv 1) (pe_callB (cr_sortTK K rfl) (by rfl) Y.b.sorted (by decide +kernel) (pa_cons (pv 1) pa_nil)) (nomark _)) (pw_or1 (pt_cmpR op_lt (pe_callB (MixSets.call_lenM P w rfl rfl) (by rfl) Y.b.len (by decide +kernel) (pa_cons (pe_callTy (MixSets.call_setM K P w rfl rfl rfl rfl hr.units) (by rfl) Y.b.set (by decide +kernel) (pa_cons (pv 7) pa_nil)) pa_nil)) (pe_callB (call_lenK K rfl) (by rfl) Y.b.len (by decide +kernel) (pa_cons (pv 7) pa_nil)) (nomark _))))).pt (pss_one (ps_ret pe_bl)) pss_nil)
      (pss_cons (ps_set (i := 8) sc__law_is_plan.nd rfl (by first | exact Or.inl rfl | exact Or.inr rfl) (pe_op op_rep (pe_lst (pa_cons pe_int pa_nil)) (pe_callB (call_lenK K rfl) (by rfl) Y.b.len (by decide +kernel) (pa_cons (pv 3) pa_nil))))
      (pss_cons (ps_for PassesOwn.never rfl (pi_range1 (by rfl) Y.b.range (pa_cons (pv 2) pa_nil)) (pg_name (i := 9) sc__law_is_plan.nd rfl (by first | exact Or.inl rfl | exact Or.inr rfl)) (pss_cons (ps_for PassesOwn.never rfl (pi_listK K rfl (pv 1)) (pg_tupK (n := 4) K rfl rfl (pgs_cons (pg_name (i := 10) sc__law_is_plan.nd rfl (by first | exact Or.inl rfl | exact Or.inr rfl)) (pgs_cons (pg_name (i := 11) sc__law_is_plan.nd rfl (by first | exact Or.inl rfl | exact Or.inr rfl)) (pgs_cons (pg_name (i := 12) sc__law_is_plan.nd rfl (by first | exact Or.inl rfl | exact Or.inr rfl)) (pgs_cons (pg_name (i := 13) sc__law_is_plan.nd rfl (by first | exact Or.inl rfl | exact Or.inr rfl)) pgs_nil))))) (pss_one (ps_if (pt_cmpR op_isN (pe_ix (ix_tupK K rfl) (pe_ix (ix_listK K rfl) (pv 6) (pv 13) (fun _ _ => rfl)) pe_int (fun _ _ => rfl)) pe_non (nomark _)) (pss_cons (ps_set (i := 14) sc__law_is_plan.nd rfl (by first | exact Or.inl rfl | exact Or.inr rfl) (pe_op op_sub (pe_callTy call_int1 (by rfl) Y.b.int (by decide +kernel) (pa_cons (pe_cmpR op_eq (pe_ix (ix_tupK K rfl) (pe_ix (ix_listK K rfl) (pv 6) (pv 13) (fun _ _ => rfl)) pe_int (fun _ _ => rfl)) (pv 9) (nomark _)) pa_nil)) (pe_callTy call_int1 (by rfl) Y.b.int (by decide +kernel) (pa_cons (pe_cmpR op_eq (pv 10) (pv 9) (nomark _)) pa_nil))))
      (pss_one (ps_asg (pe_op op_add (pe_ix (ix_listK K rfl) (pv 8) (pv 12) (fun _ _ => rfl)) (pv 14)) (pg_sub (pv 8) (pv 12) set_list)))) pss_nil)))
      (pss_one (ps_if (pt_cmpR (op_neNil hr.units0) (pe_lc (own := [("craft", 12)]) (g := gName 12) rfl sc__law_is_plan.nd (pi_range1 (by rfl) Y.b.range (pa_cons (pe_callB (call_lenK K rfl) (by rfl) Y.b.len (by decide +kernel) (pa_cons (pv 3) pa_nil)) pa_nil)) (blkOk_by (N := ["day", "thing", "hours", "stores", "sights", "asks", "blocks", "marks", "aboard", "hour", "when", "dish", "craft", "number", "step", "one"]) (sc := defScope s__law_is_plan) (by decide +kernel)) (fun _ _ _ _ _ => (pg_name (i := 12) sc__law_is_plan.nd rfl (by first | exact Or.inl rfl | exact Or.inr rfl))) (fun _ _ _ _ _ => (pts_one (pt_cmpR op_gt (pe_ix (ix_listK K rfl) (pv 8) (pv 12) (fun _ _ => rfl)) (pe_ix (ix_listK K rfl) (pv 3) (pv 12) (fun _ _ => rfl)) (nomark _)))) (fun _ _ _ _ _ => (pv 12))) (pe_lst pa_nil) (nomark _)) (pss_one (ps_ret pe_bl)) pss_nil))))
      (pss_one (ps_ret pe_bl))))))))), ?_⟩
    have no : ∀ H', Kx [] H H' → planB D d = false → Q (.bl false) H' := fun H' k e => by
      have := q H' k
      rwa [e] at this
    obtain ⟨da, dx, rfl, edx, tdx⟩ := hdt.tupV
    obtain ⟨y1, y2, y3, y4, y5, rfl, u1, u2, u3, u4, u5⟩ := TrAll.five tdx
    cases u1
    refine ⟨.ref da, rfl, da, _, rfl, SqT.of edx, rfl, _, _, rfl, y2, _, rfl, y3, _, rfl, y4, _, rfl, y5, _, rfl, rfl, ?_⟩
    obtain ⟨aS, xS, rfl, eS, tS⟩ := u2.listV
    obtain ⟨aI, xI, rfl, eI, tI⟩ := u3.listV
    obtain ⟨aB, xB, rfl, eB, tB⟩ := u5.listV
    have lS := tS.length
    have lB := tB.length
    rw [List.length_map] at lS lB
    refine ⟨v, rfl, v, .ty "list", _, _, _, rfl, .ty _, ht.ty, kit_list d, _, rfl, ite2 (fun c => ?_) (fun c => ?_)⟩
    · refine no H (Kx.refl H) ?_
      have c : isiD "list" d = false := by simpa using c
      cases d <;> first | rfl | exact absurd (c.symm.trans rfl : false = true) Bool.false_ne_true
    cases ht with
    | lst m h l =>
      rename_i a xs ds
      have hl := hl ds rfl
      have hlen := l.length
      refine st_test (st_op (lc_use ⟨.ref a, rfl, a, rfl, ⟨xs, SqL.of h⟩, ?_⟩))
      refine lc_filter (fun x => !passB D x) h l (by unfold sizeLine; omega) (fun x d H' hd t k R R0 hR hR0 => ?_) fun D1 ys H1 k1 hD1 hd1 ty1 => ?_
      · exact ⟨rfl, .ref da, rfl, x, rfl, .ref da, D, x, d, rfl, hdt.up k, hD, t, sz_in hd hz, fun H'' k2 => ⟨_, rfl, ite2 (fun c => ⟨x, rfl, hR c H'' k2⟩) (fun c => hR0 (notE c) H'' k2)⟩⟩
      refine ⟨len_ok, fun N hN => ⟨D1, N, ys, rfl, rfl, (Kx.new (B := []) hN).lst (by simp) hd1, upd_same, _, rfl, ?_⟩⟩
      have kN := k1.trans (Kx.new (o := .lst []) hN)
      have e : ys.isEmpty = ds.all (passB D) := by rw [trAll_empty ty1, filter_not_nil]
      rw [e]
      refine ite2 (fun c2 => ?_) (fun c2 => ?_)
      · refine no _ kN ?_
        have c2 : ds.all (passB D) = false := by simpa using c2
        show (ds.all (passB D) && _) = false
        rw [c2]; rfl
      have c2 : ds.all (passB D) = true := by simpa using c2
      obtain ⟨eds, okp⟩ := passes_back c2
      have qq : ∀ (b : Bool) H', Kx [] H H' → planT D (ds.map passOf) = b → Q (.bl b) H' := fun b H' k e => by
        have := q H' k
        rwa [show planB D (.list ds) = b by show (ds.all (passB D) && planT D (ds.map passOf)) = b; rw [c2, e]; rfl] at this
      have lps : (ds.map passOf).length = ds.length := List.length_map _
      generalize ds.map passOf = ps at eds okp qq lps
      subst eds
      rw [List.length_map] at hl hlen
      clear q no c2 e ty1 hd1 lps
      have hN2 := kN.lst (by simp) h
      generalize hq : upd H1 N (.lst []) = H2 at kN hN2
      have l2 := l.up kN
      refine st_next ?_
      dsimp only
      have xp : xs.length < sizeLine := by unfold sizeLine; omega
      have pa : ∀ {H'}, Kx [] H2 H' → ∀ i (hi : i < ps.length), ∃ at_, xs.getD i .non = .ref at_ ∧ H' at_ = some (.tup [.int ps[i].hour, .int ps[i].dish, .int ps[i].craft, .int ps[i].block]) := fun {H'} k i hi => by
        obtain ⟨at_, e1, e2⟩ := pass_at (l2.up k) hi
        rw [getD_at ps p0 hi] at e2
        exact ⟨at_, e1, e2⟩
      -- the marks
      refine st_set (st_op (lc_use ⟨.ref a, rfl, a, rfl, ⟨xs, SqL.of hN2⟩, ?_⟩))
      refine lc_keys (fun i => mk3 (ps.getD i p0).hour "dish" (ps.getD i p0).dish) hN2 xp (fun i H' hi k R hR => ?_) fun M1 L1 H3 k3 m1 m1t m1k => ?_
      · have hi : i < ps.length := by omega
        obtain ⟨at_, e1, e2⟩ := pa k i hi
        rw [e1]
        rw [getD_at ps p0 hi] at hR
        refine ⟨rfl, st_tup (st_cons (st_op ⟨.ref at_, rfl, at_, _, 0, _, rfl, rfl, SqT.of e2, rfl, st_cons (st_c (st_cons (st_op ⟨.ref at_, rfl, at_, _, 1, _, rfl, rfl, SqT.of e2, rfl, st_nil ⟨len_ok, fun T hT => hR T _ (Kx.new hT) hT upd_same⟩⟩)))⟩))⟩
      have hN3 := k3.lst (by simp) hN2
      refine lc_use ⟨.ref a, rfl, a, rfl, ⟨xs, SqL.of hN3⟩, ?_⟩
      refine lc_keys (fun i => mk3 (ps.getD i p0).hour "craft" (ps.getD i p0).craft) hN3 xp (fun i H' hi k R hR => ?_) fun M2 L2 H4 k4 m2 m2t m2k => ?_
      · have hi : i < ps.length := by omega
        obtain ⟨at_, e1, e2⟩ := pa (k3.trans k) i hi
        rw [e1]
        rw [getD_at ps p0 hi] at hR
        refine ⟨rfl, st_tup (st_cons (st_op ⟨.ref at_, rfl, at_, _, 0, _, rfl, rfl, SqT.of e2, rfl, st_cons (st_c (st_cons (st_op ⟨.ref at_, rfl, at_, _, 2, _, rfl, rfl, SqT.of e2, rfl, st_nil ⟨len_ok, fun T hT => hR T _ (Kx.new hT) hT upd_same⟩⟩)))⟩))⟩
      have n1 : L1.length = ps.length := by have := congrArg List.length m1k; simpa [hlen] using this
      have n2 : L2.length = ps.length := by have := congrArg List.length m2k; simpa [hlen] using this
      refine cat_vs (k4.lst (by simp) m1) m2 (by simp only [List.length_map]; unfold sizeLine; omega) fun M3 H5 k5 nM3 m3 => ?_
      rw [← List.map_append] at m3
      have k35 := k3.trans (k4.trans k5)
      have hN5 := k35.lst (by simp) hN2
      refine st_set (st_op ⟨.ref M3, rfl, lc_use ⟨.ref a, rfl, a, rfl, ⟨xs, SqL.of hN5⟩, ?_⟩⟩)
      refine lc_keys (fun i => mk3 0 "block" (ps.getD i p0).block) hN5 xp (fun i H' hi k R hR => ?_) fun M4 L4 H6 k6 m4 m4t m4k => ?_
      · have hi : i < ps.length := by omega
        obtain ⟨at_, e1, e2⟩ := pa (k35.trans k) i hi
        rw [e1]
        rw [getD_at ps p0 hi] at hR
        refine ⟨rfl, st_tup (st_cons (st_c (st_cons (st_c (st_cons (st_op ⟨.ref at_, rfl, at_, _, 3, _, rfl, rfl, SqT.of e2, rfl, st_nil ⟨len_ok, fun T hT => hR T _ (Kx.new hT) hT upd_same⟩⟩))))))⟩
      have n4 : L4.length = ps.length := by have := congrArg List.length m4k; simpa [hlen] using this
      refine cat_vs (k6.lst (by simp) m3) m4 (by simp only [List.length_map, List.length_append]; unfold sizeLine; omega) fun M5 H7 k7 nM5 m5 => ?_
      rw [← List.map_append] at m5
      have mt : ∀ p ∈ L1 ++ L2 ++ L4, H7 p.1 = some (.tup (p.2.map kV)) := fun p hp => by
        rcases List.mem_append.mp hp with hp | hp
        · rcases List.mem_append.mp hp with hp | hp
          · exact (k4.trans (k5.trans (k6.trans k7))).tup (by simp) (m1t p hp)
          · exact (k5.trans (k6.trans k7)).tup (by simp) (m2t p hp)
        · exact k7.tup (by simp) (m4t p hp)
      have mk : (L1 ++ L2 ++ L4).map (·.2) = marksOf ps := by
        rw [List.map_append, List.map_append, m1k, m2k, m4k, hlen, range_getD (fun p : Pass => mk3 p.hour "dish" p.dish) ps p0, range_getD (fun p : Pass => mk3 p.hour "craft" p.craft) ps p0, range_getD (fun p : Pass => mk3 0 "block" p.block) ps p0]
        rfl
      have ml : (L1 ++ L2 ++ L4).length = 3 * ps.length := by simp only [List.length_append]; omega
      generalize L1 ++ L2 ++ L4 = LL at m5 mt mk ml
      have k27 := k35.trans (k6.trans k7)
      have kH7 := kN.trans k27
      have t7 : Tr [] H7 (.ref a) (.list (ps.map passD)) := .lst (by simp) (k27.lst (by simp) hN2) (l2.up k27)
      refine st_lit [some (.ref da), some (.ref a), some (.int D.hours), some (.ref aS), some (.ref aI), some y4, some (.ref aB), some (.ref M5), none, none, none, none, none, none, none, none] rfl ?_
      have al0 : ∀ {H : Hp}, ∀ c ∈ ([] : List Addr), H c ≠ none := fun c hc => nomatch hc
      have bd : ∀ p ∈ ps, TS.Bd 100 (passI p) := fun p hp => pass_bd hD (okp p hp)
      refine st_seq (st_ifs (st_orT (st_test (st_op ⟨.ref a, rfl, st_cb (st_cons ⟨.ref a, rfl, st_nil (sort_code (C := []) al0 t7 bd (by omega) fun S qs H8 k8 nS pm up tq => ?_)⟩)⟩))))
      refine ⟨_, _, tr_dp _ _ (t7.up k8) (can_passes ps), tr_dp _ _ tq (can_passes qs), shaped_passes ps, shaped_passes qs, _, rfl, ?_⟩
      cases e1 : PyData.eqv (.list (ps.map passD)) (.list (qs.map passD)) with
      | false =>
        refine iteT (iteT (qq false H8 (kH7.trans k8) ?_))
        unfold planT
        cases hc : clashB ps with
        | false => rw [Bool.false_and, Bool.and_false]
        | true =>
          cases hr : risesP ps with
          | false => rfl
          | true =>
            rw [eqv_iff.mpr ((sorted_iff bd pm up hc).mpr hr)] at e1
            cases e1
      | true =>
      have eqs := eqv_iff.mp e1
      refine iteF (st_test (st_op (st_cb (st_cons (st_cb (st_cons ⟨.ref M5, rfl, st_nil ⟨M5, LL, rfl, SqL.of (k8.lst (by simp) m5), fun p hp => SqT.of (k8.tup (by simp) (mt p hp)), by omega, fun st SS hst le iff => st_nil ⟨st, SS, rfl, upd_same, ?_⟩⟩⟩))))))
      have k9 : Kx [] H8 (upd H8 st (MixO P w st SS)) := Kx.new hst
      generalize upd H8 st (MixO P w st SS) = H9 at k9 ⊢
      have k79 := k8.trans k9
      have kH9 := kH7.trans k79
      refine ⟨.ref M5, rfl, M5, _, rfl, .inl (SqL.of (k79.lst (by simp) m5)), _, _, rfl, rfl, decide ((SS.length : Int) < ((LL.map fun p => V.ref p.1).length : Int)), rfl, ?_⟩
      rw [mk, marks_iff] at iff
      cases hc : clashB ps with
      | false =>
        rw [decide_eq_true (by
          rw [List.length_map]
          have : SS.length ≠ LL.length := fun z => by rw [iff.mp z] at hc; cases hc
          omega)]
        exact iteT (qq false H9 kH9 (by unfold planT; rw [hc, Bool.false_and, Bool.and_false]))
      | true =>
      rw [decide_eq_false (by rw [List.length_map]; have := iff.mpr hc; omega)]
      have hr : risesP ps = true := (sorted_iff bd pm up hc).mp eqs
      have q : ∀ (b : Bool) H', Kx [] H H' → fitB D ps = b → Q (.bl b) H' := fun b H' k e => qq b H' k (by unfold planT; rw [hr, hc, e]; rfl)
      refine iteF (st_next ?_)
      dsimp only
      -- what is aboard
      have eS9 := kH9.lst (by simp) eS
      have u5 := u5.up kH9
      have hN9 := (k27.trans k79).lst (by simp) hN2
      have exS := TrAll.intsV tS (by rw [ints_back])
      rw [ints_back] at exS
      subst exS
      refine st_set (st_op (st_lst (st_cons (st_c (st_nil ⟨len_ok, fun Z hZ => ?_⟩)))))
      have kZ : Kx [] H9 (upd H9 Z (.lst [.int 0])) := Kx.new hZ
      have eZ : (upd H9 Z (.lst [V.int 0])) Z = some (.lst [.int 0]) := upd_same
      generalize upd H9 Z (.lst [.int 0]) = HZ at kZ eZ ⊢
      have s4 := hD.s1
      have t10 := hD.t1
      have t00 := hD.t0
      refine st_cb (st_cons ⟨.ref aS, rfl, st_nil ⟨aS, _, rfl, .inl (SqL.of (kZ.lst (by simp) eS9)), Z, _, _, rfl, rfl, eZ, by rw [lS]; omega, by rw [lS]; omega, by rw [lS, Int.toNat_natCast, List.length_singleton]; unfold sizeLine; omega, fun AB hAB => ?_⟩⟩)
      have kB9 : Kx [] H9 (upd HZ AB (.lst (List.replicate (((D.stores.map V.int).length : Nat) : Int).toNat [V.int 0]).flatten)) := kZ.trans (Kx.new hAB)
      have eB9 : (upd HZ AB (.lst (List.replicate (((D.stores.map V.int).length : Nat) : Int).toNat [V.int 0]).flatten)) AB = some (.lst (abV (fun c => cntL D ps c (((0 : Nat) : Int) - 1)) D.stores.length)) := by
        rw [upd_same, lS, Int.toNat_natCast, List.flatten_replicate_singleton]
        refine congrArg (fun z => some (HO.lst z)) (List.eq_replicate_iff.mpr ⟨abV_len _ _, fun b hb => ?_⟩).symm
        obtain ⟨c, _, rfl⟩ := List.mem_map.mp hb
        show V.int (cntL D ps c (-1)) = _
        rw [cnt_zero hD okp]
      have nAB : H9 AB = none := kZ.free (by simp) hAB
      generalize upd HZ AB (.lst (List.replicate (((D.stores.map V.int).length : Nat) : Int).toNat [V.int 0]).flatten) = HB at kB9 eB9 ⊢
      have nab : ∀ {b : Addr} {o : HO}, H9 b = some o → b ∉ [AB] := fun e z => by rw [List.mem_singleton.mp z, nAB] at e; cases e
      have back : ∀ {H' : Hp}, Kx [AB] HB H' → Kx [] H9 H' := fun k => Kx.weak (kB9.of.trans k) fun b hb => .inr (by rw [List.mem_singleton.mp hb]; exact nAB)
      refine st_seq (st_for ?_)
      refine ⟨_, rfl, D.hours, rfl, by omega, by omega, ?_⟩
      refine for_gen (itr_at D.hours.toNat) (B := [AB]) (Iv := fun i σ' H' => (∃ z9 z10 z11 z12 z13 z14 z15, σ' = [some (.ref da), some (.ref a), some (.int D.hours), some (.ref aS), some (.ref aI), some y4, some (.ref aB), some (.ref M5), some (.ref AB), z9, z10, z11, z12, z13, z14, z15]) ∧ H' AB = some (.lst (abV (fun c => cntL D ps c ((i : Int) - 1)) D.stores.length)) ∧ ∀ t : Nat, t < i → ∀ c : Nat, c < D.stores.length → cntL D ps c t ≤ D.stores.getD c 0)
        ⟨⟨_, _, _, _, _, _, _, rfl⟩, eB9, fun t ht => absurd ht (Nat.not_lt_zero _)⟩ (fun i σ' K1 hi k1 ⟨⟨z9, z10, z11, z12, z13, z14, z15, e⟩, eA, hf⟩ Nn hN => ?_) fun σ' K1 k1 ⟨⟨z9, z10, z11, z12, z13, z14, z15, e⟩, eA, hf⟩ => ?_
      · subst e
        have b1 := back k1
        refine st_name ?_
        dsimp only
        refine st_seq (st_for (st_ilist ⟨.ref a, rfl, a, rfl, ⟨xs, SqL.of (b1.lst (by simp) hN9)⟩, ?_⟩))
        refine for_gen (itl_at (b1.lst (by simp) hN9) (nab hN9)) (B := [AB]) (Iv := fun j σ' H' => (∃ z10 z11 z12 z13 z14 z15, σ' = [some (.ref da), some (.ref a), some (.int D.hours), some (.ref aS), some (.ref aI), some y4, some (.ref aB), some (.ref M5), some (.ref AB), some (.int i), z10, z11, z12, z13, z14, z15]) ∧ H' AB = some (.lst (abV (partL D ps i j) D.stores.length)))
          ⟨⟨_, _, _, _, _, _, rfl⟩, by rw [eA]; exact congrArg (fun z => some (HO.lst z)) (abV_congr fun c _ => (part_zero D ps i c).symm)⟩ (fun j σ' K2 hj k2 ⟨⟨z10, z11, z12, z13, z14, z15, e⟩, eA2⟩ Nm hNm => ?_) fun σ' K2 k2 ⟨⟨z10, z11, z12, z13, z14, z15, e⟩, eA2⟩ => ?_
        · subst e
          have hj : j < ps.length := by omega
          have b2 := back (k1.trans k2)
          obtain ⟨at_, e1, e2⟩ := pa ((k27.trans k79).trans b2) j hj
          have op := okp ps[j] (List.getElem_mem hj)
          have bp := passT_of op
          have hnm : ∀ σ'' H'', Kx [AB] K1 H'' → ((∃ z10 z11 z12 z13 z14 z15, σ'' = [some (.ref da), some (.ref a), some (.int D.hours), some (.ref aS), some (.ref aI), some y4, some (.ref aB), some (.ref M5), some (.ref AB), some (.int i), z10, z11, z12, z13, z14, z15]) ∧ H'' AB = some (.lst (abV (fun c => partL D ps i j c + stepP D c i ps[j]) D.stores.length))) → Nm σ'' H'' := fun σ'' H'' k h => hNm σ'' H'' k ⟨h.1, by rw [h.2]; exact congrArg (fun z => some (HO.lst z)) (abV_congr fun c _ => (part_next D ps i j hj c).symm)⟩
          clear hNm
          generalize ps[j] = p at e2 op bp hnm
          rw [e1]
          refine ⟨at_, _, rfl, SqT.of e2, rfl, _, _, rfl, st_name ⟨_, _, rfl, st_name ⟨_, _, rfl, st_name ⟨_, _, rfl, st_name ⟨rfl, ?_⟩⟩⟩⟩⟩
          dsimp only
          obtain ⟨xB3, bA, b1', b4, eB3, a3, eb3, f4, -⟩ := blk_ix (u5.up b2) bp.2.2.2.1.1 (by have := bp.2.2.2.1.2; omega)
          refine st_ifs (st_test (st_op (st_op (st_op ⟨.ref aB, rfl, .int p.block, rfl, aB, xB3, _, .ref bA, rfl, rfl, SqL.of eB3, a3, st_c ⟨bA, _, 3, b4, rfl, rfl, SqT.of eb3, rfl, st_c ⟨rfl, _, rfl, ?_⟩⟩⟩))))
          have c2 : decide (b4 = V.non) = (blkAt D p.block).due.isNone := by
            rw [isNone_v f4]
            show isNone (optD (blkAt D p.block).due) = _
            cases (blkAt D p.block).due <;> rfl
          rw [c2]
          cases c3 : (blkAt D p.block).due.isNone with
          | false =>
            refine iteF (st_next (hnm _ _ k2 ⟨⟨_, _, _, _, _, _, rfl⟩, ?_⟩))
            rw [eA2]
            refine congrArg (fun z => some (HO.lst z)) (abV_congr fun c _ => ?_)
            rw [show stepP D c i p = 0 by unfold stepP; rw [c3]; simp, Int.add_zero]
          | true =>
            have hcr := bp.2.2.1
            have ak : atI (abV (partL D ps i j) D.stores.length) p.craft = some (.int (partL D ps i j p.craft)) := abV_at hcr.1 (by omega)
            refine iteT (st_set ?_)
            have g1 : SqT K K2 bA _ := SqT.of eb3
            refine st_op (st_cb (st_cons (st_op (st_op (st_op ⟨.ref aB, rfl, .int p.block, rfl, aB, xB3, _, .ref bA, rfl, rfl, SqL.of eB3, a3, st_c ⟨bA, _, 2, .int (blkAt D p.block).ready, rfl, rfl, g1, rfl, .int i, rfl, rfl, st_nil (.inr ⟨_, rfl, ?_⟩)⟩⟩)))))
            refine st_cb (st_cons (st_op ⟨.int p.hour, rfl, .int i, rfl, rfl, st_nil (.inr ⟨_, rfl, _, _, rfl, rfl, ?_⟩)⟩))
            rw [eqV_int, eqV_int]
            refine st_asg (st_op (st_op ⟨.ref AB, rfl, .int p.craft, rfl, AB, _, p.craft, _, rfl, rfl, SqL.of eA2, ak, _, rfl, _, _, rfl, rfl, .ref AB, rfl, .int p.craft, rfl, AB, _, p.craft, p.craft.toNat, rfl, rfl, eA2, abV_ix hcr.1 (by omega), ?_⟩))
            refine hnm _ _ (k2.trans (Kx.put (by simp))) ⟨⟨_, _, _, _, _, _, rfl⟩, ?_⟩
            rw [upd_same, abV_set hcr.1]
            refine congrArg (fun z => some (HO.lst z)) (abV_congr fun c _ => ?_)
            have es : stepP D c i p = if p.craft = c then (if (blkAt D p.block).ready = i then 1 else 0) - (if p.hour = i then 1 else 0) else 0 := by
              unfold stepP
              rw [c3]
              simp
            rw [es]
            by_cases z : (c : Int) = p.craft
            · rw [if_pos z, if_pos z.symm, z]
              simp only [decide_eq_true_eq]
            · rw [if_neg z, if_neg (fun y => z y.symm), Int.add_zero]
        · subst e
          have b2 := back (k1.trans k2)
          have k12 := k1.trans k2
          rw [hlen] at eA2
          have eA3 : K2 AB = some (.lst (abV (fun c => cntL D ps c i) D.stores.length)) := by rw [eA2]; exact congrArg (fun z => some (HO.lst z)) (abV_congr fun c _ => part_all okp i c)
          dsimp only
          refine st_ifs (st_test (st_op (lc_use ⟨.ref aS, rfl, aS, _, rfl, .inl (SqL.of (b2.lst (by simp) eS9)), (D.stores.length : Int), by rw [lS], by omega, by omega, ?_⟩)))
          rw [Int.toNat_natCast]
          refine lc_pickV (itr_at D.stores.length) (by unfold sizeLine; omega) (fun c => decide (D.stores.getD c 0 < cntL D ps c i)) (fun c => .int c) (fun c K3 hc k3 R R0 hR hR0 => ?_) fun DD K3 k3 _ eD => ?_
          · refine ⟨rfl, st_test (st_op (st_op ⟨.ref AB, rfl, .int c, rfl, AB, _, c, _, rfl, rfl, SqL.of (k3.lst (by simp) eA3), abV_at (by omega) (by omega), st_op ⟨.ref aS, rfl, .int c, rfl, aS, _, c, .int (D.stores.getD c 0), rfl, rfl, SqL.of ((b2.trans k3).lst (by simp) eS9), ?_, _, _, rfl, rfl, _, rfl, ?_⟩⟩))⟩
            · refine atI_nat ?_
              rw [List.getElem?_map, List.getElem?_eq_getElem hc, getD_at _ _ hc]; rfl
            · exact ite2 (fun z => ⟨.int c, rfl, hR z K3 (Kx.refl _)⟩) (fun z => hR0 (by simpa using z) K3 (Kx.refl _))
          · refine st_lst (st_nil ⟨len_ok, fun E hE => ⟨DD, E, _, rfl, rfl, (Kx.new (B := []) hE).lst (by simp) eD, upd_same, _, rfl, ?_⟩⟩)
            have kE : Kx [] K2 (upd K3 E (.lst [])) := k3.trans (Kx.new hE)
            generalize upd K3 E (.lst []) = K4 at kE ⊢
            refine ite2 (fun z => st_ret (st_c (q false K4 (kH9.trans (b2.trans kE)) ?_))) (fun z => st_next (hN _ _ (k12.trans kE.of) ⟨⟨_, _, _, _, _, _, _, rfl⟩, ?_, fun t ht c hc => ?_⟩))
            · have z : (List.range D.stores.length).filter (fun c => decide (D.stores.getD c 0 < cntL D ps c i)) ≠ [] := fun y => by rw [y] at z; cases z
              obtain ⟨c, hc⟩ := List.exists_mem_of_ne_nil _ z
              obtain ⟨hc, hl⟩ := List.mem_filter.mp hc
              exact fit_false (List.mem_range.mp hc) hi (of_decide_eq_true hl)
            · rw [kE.lst (by simp) eA3]
              refine congrArg (fun z => some (HO.lst z)) (abV_congr fun c _ => ?_)
              rw [show ((i + 1 : Nat) : Int) - 1 = i by omega]
            · by_cases y : t < i
              · exact hf t y c hc
              · have y : t = i := by omega
                subst y
                have z : (List.range D.stores.length).filter (fun c => decide (D.stores.getD c 0 < cntL D ps c t)) = [] := by
                  cases y : (List.range D.stores.length).filter (fun c => decide (D.stores.getD c 0 < cntL D ps c t)) with
                  | nil => rfl
                  | cons u v => rw [y] at z; exact absurd rfl z
                refine Int.not_lt.mp fun w => ?_
                have : c ∈ (List.range D.stores.length).filter (fun c => decide (D.stores.getD c 0 < cntL D ps c t)) := List.mem_filter.mpr ⟨List.mem_range.mpr hc, decide_eq_true w⟩
                rw [z] at this
                cases this
      · subst e
        have f1 := q true K1 (kH9.trans (back k1)) (fit_true hf)
        exact f1
    | _ => exact absurd rfl c
end
end Law

set_option Elab.async false
set_option linter.all false
set_option maxRecDepth 100000
set_option maxHeartbeats 1000000
namespace Law
open PySem PySem.Spec PyProof.Rows L2 GxR GX Tree Kit Data Loops Loops2 Comps Purse Day SetG SetL Loops3 Obj Enum Wipe Txts Lit Ib Sep Raised Picks
section
variable {P : Program} {w : World} {K : PySem.W.Frag} {mg : Str → Option Value} {base : Heap} {fa : String → Addr} {fd : String → FuncData} {ca ta : String → Addr} {cs : String → Addr} {fm : String → String → Addr} {fdm : String → String → FuncData}
/-! ### which refusal -/
def bsOf (nm : String) (l : List String) : List V := l.map fun x => V.bl (decide (x = nm))
theorem st_isO {nm : String} {H : Hp} {a : Addr} {Q : VK} {σ : L2.St} (x : String) (hσ : σ[0]? = some (some (.ref a))) (h : Kept (cs nm) H a) (W : KIs K cs nm) (hx : x ∈ NM) (q : Q (.bl (decide (x = nm))) H) :
    tCB (rIsX K) (tCons (tVar 0) (tCons (tC (.ref (cs x))) tNil)) σ H Q := ⟨.ref a, hσ, is_own x h W hx q⟩
theorem pick_one (nm : String) (h : nm ∈ NM) : ((List.range (14 : Int).toNat).filter fun i => decide (NM.getD i "" = nm)).map (fun i => V.str (Str.ofString (NM.getD i ""))) = [.str (Str.ofString nm)] := by
  unfold NM at h
  simp only [List.mem_cons, List.not_mem_nil, or_false] at h
  rcases h with rfl | rfl | rfl | rfl | rfl | rfl | rfl | rfl | rfl | rfl | rfl | rfl | rfl | rfl <;> decide +kernel
theorem st_notV {ta : TE} {σ : L2.St} {H : Hp} {Q : VK} (h : ta σ H fun x H1 => ∃ c, x = .bl c ∧ Q (.bl (!c)) H1) : tNotV ta σ H Q := h
def sp_law_kinds (K : PySem.W.Frag) (cs : String → Addr) : Sp := fun vs H Q _ => ∃ (a : Addr) (nm : String), vs = [.ref a] ∧ nm ∈ NM ∧ Kept (cs nm) H a ∧ KIs K cs nm ∧ ∀ (L : Addr) (H' : Hp), Kx [] H H' → H L = none → H' L = some (.lst [.str nm]) → Q (.ref L) H'
theorem ok__law_kinds (Y : Facts K mg base fa fd ca ta) (Z : CFacts K mg cs fm fdm) : FnOk P w K mg base CX0 1 (fa "_law_kinds") (fd "_law_kinds") ["caught"] (sp_law_kinds K cs) := by
  refine Y.d__law_kinds.ok sc__law_kinds (fun vs H Q E h => ?_) (fun cdv A outer s H vs Q E hcd hr h => ?_)
  · obtain ⟨a, nm, rfl, _⟩ := h; rfl
  · obtain ⟨a, nm, rfl, hnm, hk, W, q⟩ := h
    refine ⟨_, (pss_cons (ps_set (i := 1) sc__law_kinds.nd rfl (by first | exact Or.inl rfl | exact Or.inr rfl) (pe_lst (pa_cons (pe_callB (Raised.call_isXK K rfl) (by rfl) Y.b.isinstance (by decide +kernel) (pa_cons (pv 0) (pa_cons (pe_glob (v := .ref (cs "NoDay")) (by rfl) Z.g_NoDay rfl) pa_nil))) (pa_cons (pe_callB (Raised.call_isXK K rfl) (by rfl) Y.b.isinstance (by decide +kernel) (pa_cons (pv 0) (pa_cons (pe_glob (v := .ref (cs "NoPlan")) (by rfl) Z.g_NoPlan rfl) pa_nil))) (pa_cons (pe_callB (Raised.call_isXK K rfl) (by rfl) Y.b.isinstance (by decide +kernel) (pa_cons (pv 0) (pa_cons (pe_glob (v := .ref (cs "NoNumbers")) (by rfl) Z.g_NoNumbers rfl) pa_nil))) pa_nil)))))
      (pss_cons (ps_set (i := 1) sc__law_kinds.nd rfl (by first | exact Or.inl rfl | exact Or.inr rfl) (pe_op op_cat (pv 1) (pe_lst (pa_cons (pe_callB (Raised.call_isXK K rfl) (by rfl) Y.b.isinstance (by decide +kernel) (pa_cons (pv 0) (pa_cons (pe_glob (v := .ref (cs "NoRests")) (by rfl) Z.g_NoRests rfl) pa_nil))) (pa_cons (pe_callB (Raised.call_isXK K rfl) (by rfl) Y.b.isinstance (by decide +kernel) (pa_cons (pv 0) (pa_cons (pe_glob (v := .ref (cs "NoLost")) (by rfl) Z.g_NoLost rfl) pa_nil))) (pa_cons (pe_callB (Raised.call_isXK K rfl) (by rfl) Y.b.isinstance (by decide +kernel) (pa_cons (pv 0) (pa_cons (pe_glob (v := .ref (cs "NoBlock")) (by rfl) Z.g_NoBlock rfl) pa_nil))) pa_nil))))))
      (pss_cons (ps_set (i := 1) sc__law_kinds.nd rfl (by first | exact Or.inl rfl | exact Or.inr rfl) (pe_op op_cat (pv 1) (pe_lst (pa_cons (pe_callB (Raised.call_isXK K rfl) (by rfl) Y.b.isinstance (by decide +kernel) (pa_cons (pv 0) (pa_cons (pe_glob (v := .ref (cs "NoWorth")) (by rfl) Z.g_NoWorth rfl) pa_nil))) (pa_cons (pe_callB (Raised.call_isXK K rfl) (by rfl) Y.b.isinstance (by decide +kernel) (pa_cons (pv 0) (pa_cons (pe_glob (v := .ref (cs "NoHour")) (by rfl) Z.g_NoHour rfl) pa_nil))) (pa_cons (pe_callB (Raised.call_isXK K rfl) (by rfl) Y.b.isinstance (by decide +kernel) (pa_cons (pv 0) (pa_cons (pe_glob (v := .ref (cs "TooMany")) (by rfl) Z.g_TooMany rfl) pa_nil))) pa_nil))))))
      (pss_cons (ps_set (i := 1) sc__law_kinds.nd rfl (by first | exact Or.inl rfl | exact Or.inr rfl) (pe_op op_cat (pv 1) (pe_lst (pa_cons (pe_callB (Raised.call_isXK K rfl) (by rfl) Y.b.isinstance (by decide +kernel) (pa_cons (pv 0) (pa_cons (pe_glob (v := .ref (cs "DayOver")) (by rfl) Z.g_DayOver rfl) pa_nil))) (pa_cons (pe_callB (Raised.call_isXK K rfl) (by rfl) Y.b.isinstance (by decide +kernel) (pa_cons (pv 0) (pa_cons (pe_glob (v := .ref (cs "NoName")) (by rfl) Z.g_NoName rfl) pa_nil))) (pa_cons (pe_callB (Raised.call_isXK K rfl) (by rfl) Y.b.isinstance (by decide +kernel) (pa_cons (pv 0) (pa_cons (pe_glob (v := .ref (cs "NoPlace")) (by rfl) Z.g_NoPlace rfl) pa_nil))) pa_nil))))))
      (pss_cons (ps_set (i := 1) sc__law_kinds.nd rfl (by first | exact Or.inl rfl | exact Or.inr rfl) (pe_op op_cat (pv 1) (pe_lst (pa_cons (pe_callB (Raised.call_isXK K rfl) (by rfl) Y.b.isinstance (by decide +kernel) (pa_cons (pv 0) (pa_cons (pe_glob (v := .ref (cs "NoRow")) (by rfl) Z.g_NoRow rfl) pa_nil))) (pa_cons (pe_callB (Raised.call_isXK K rfl) (by rfl) Y.b.isinstance (by decide +kernel) (pa_cons (pv 0) (pa_cons (pe_glob (v := .ref (cs "NoText")) (by rfl) Z.g_NoText rfl) pa_nil))) pa_nil)))))
      (pss_cons (ps_set (i := 2) sc__law_kinds.nd rfl (by first | exact Or.inl rfl | exact Or.inr rfl) (pe_lst (pa_cons pe_str (pa_cons pe_str (pa_cons pe_str (pa_cons pe_str (pa_cons pe_str (pa_cons pe_str (pa_cons pe_str (pa_cons pe_str (pa_cons pe_str (pa_cons pe_str pa_nil))))))))))))
      (pss_cons (ps_set (i := 2) sc__law_kinds.nd rfl (by first | exact Or.inl rfl | exact Or.inr rfl) (pe_op op_cat (pv 2) (pe_lst (pa_cons pe_str (pa_cons pe_str (pa_cons pe_str (pa_cons pe_str pa_nil)))))))
      (pss_one (ps_ret (pe_op op_cat (pe_lc (own := [("k", 3)]) (g := gName 3) rfl sc__law_kinds.nd (pi_range1 (by rfl) Y.b.range (pa_cons pe_int pa_nil)) (blkOk_by (N := ["caught", "found", "words", "k"]) (sc := defScope s__law_kinds) (by decide +kernel)) (fun _ _ _ _ _ => (pg_name (i := 3) sc__law_kinds.nd rfl (by first | exact Or.inl rfl | exact Or.inr rfl))) (fun _ _ _ _ _ => (pts_one (pt_val (pe_ix (ix_listK K rfl) (pv 1) (pv 3) (fun _ _ => rfl))))) (fun _ _ _ _ _ => (pe_ix (ix_listK K rfl) (pv 2) (pv 3) (fun _ _ => rfl)))) (pe_op op_rep (pe_lst (pa_cons pe_str pa_nil)) (pe_callTy call_int1 (by rfl) Y.b.int (by decide +kernel) (pa_cons (pe_not (pe_callB (Raised.call_isXK K rfl) (by rfl) Y.b.isinstance (by decide +kernel) (pa_cons (pv 0) (pa_cons (pe_bltn (v := .ty "ValueError") (by rfl) Y.x_ValueError (by decide +kernel) rfl) pa_nil)))) pa_nil))))))))))))), ?_⟩
    refine st_set (st_lst (st_cons (st_isO "NoDay" rfl hk W (by decide) (st_cons (st_isO "NoPlan" rfl hk W (by decide) (st_cons (st_isO "NoNumbers" rfl hk W (by decide) (st_nil ⟨len_ok, fun N1 n1 => ?_⟩))))))))
    have k1 : Kx [] H (upd H N1 (.lst (bsOf nm ["NoDay", "NoPlan", "NoNumbers"]))) := Kx.new n1
    have e1 : upd H N1 (.lst (bsOf nm ["NoDay", "NoPlan", "NoNumbers"])) N1 = some (.lst (bsOf nm ["NoDay", "NoPlan", "NoNumbers"])) := upd_same
    show tSeq _ _ _ _ (upd H N1 (.lst (bsOf nm ["NoDay", "NoPlan", "NoNumbers"])))
    generalize upd H N1 (.lst (bsOf nm ["NoDay", "NoPlan", "NoNumbers"])) = H1 at k1 e1 ⊢
    have hk1 := hk.kx k1
    try dsimp only
    refine st_set (st_op ⟨.ref N1, rfl, st_lst (st_cons (st_isO "NoRests" rfl hk1 W (by decide) (st_cons (st_isO "NoLost" rfl hk1 W (by decide) (st_cons (st_isO "NoBlock" rfl hk1 W (by decide) (st_nil ⟨len_ok, fun N2 n2 => ?_⟩)))))))⟩)
    have j2 : Kx [] H1 (upd H1 N2 (.lst (bsOf nm ["NoRests", "NoLost", "NoBlock"]))) := Kx.new n2
    have d2 : upd H1 N2 (.lst (bsOf nm ["NoRests", "NoLost", "NoBlock"])) N2 = some (.lst (bsOf nm ["NoRests", "NoLost", "NoBlock"])) := upd_same
    show rCat _ _ (upd H1 N2 (.lst (bsOf nm ["NoRests", "NoLost", "NoBlock"]))) _
    generalize upd H1 N2 (.lst (bsOf nm ["NoRests", "NoLost", "NoBlock"])) = G2 at j2 d2 ⊢
    refine cat_vs (j2.lst (by simp) e1) d2 (by unfold bsOf sizeLine; simp) fun F2 H2 c2 f2 e2 => ?_
    have k2 := k1.trans (j2.trans c2)
    have e2 : H2 F2 = some (.lst (bsOf nm ["NoDay", "NoPlan", "NoNumbers", "NoRests", "NoLost", "NoBlock"])) := e2
    have hk2 := hk.kx k2
    try dsimp only
    refine st_set (st_op ⟨.ref F2, rfl, st_lst (st_cons (st_isO "NoWorth" rfl hk2 W (by decide) (st_cons (st_isO "NoHour" rfl hk2 W (by decide) (st_cons (st_isO "TooMany" rfl hk2 W (by decide) (st_nil ⟨len_ok, fun N3 n3 => ?_⟩)))))))⟩)
    have j3 : Kx [] H2 (upd H2 N3 (.lst (bsOf nm ["NoWorth", "NoHour", "TooMany"]))) := Kx.new n3
    have d3 : upd H2 N3 (.lst (bsOf nm ["NoWorth", "NoHour", "TooMany"])) N3 = some (.lst (bsOf nm ["NoWorth", "NoHour", "TooMany"])) := upd_same
    show rCat _ _ (upd H2 N3 (.lst (bsOf nm ["NoWorth", "NoHour", "TooMany"]))) _
    generalize upd H2 N3 (.lst (bsOf nm ["NoWorth", "NoHour", "TooMany"])) = G3 at j3 d3 ⊢
    refine cat_vs (j3.lst (by simp) e2) d3 (by unfold bsOf sizeLine; simp) fun F3 H3 c3 f3 e3 => ?_
    have k3 := k2.trans (j3.trans c3)
    have e3 : H3 F3 = some (.lst (bsOf nm ["NoDay", "NoPlan", "NoNumbers", "NoRests", "NoLost", "NoBlock", "NoWorth", "NoHour", "TooMany"])) := e3
    have hk3 := hk.kx k3
    try dsimp only
    refine st_set (st_op ⟨.ref F3, rfl, st_lst (st_cons (st_isO "DayOver" rfl hk3 W (by decide) (st_cons (st_isO "NoName" rfl hk3 W (by decide) (st_cons (st_isO "NoPlace" rfl hk3 W (by decide) (st_nil ⟨len_ok, fun N4 n4 => ?_⟩)))))))⟩)
    have j4 : Kx [] H3 (upd H3 N4 (.lst (bsOf nm ["DayOver", "NoName", "NoPlace"]))) := Kx.new n4
    have d4 : upd H3 N4 (.lst (bsOf nm ["DayOver", "NoName", "NoPlace"])) N4 = some (.lst (bsOf nm ["DayOver", "NoName", "NoPlace"])) := upd_same
    show rCat _ _ (upd H3 N4 (.lst (bsOf nm ["DayOver", "NoName", "NoPlace"]))) _
    generalize upd H3 N4 (.lst (bsOf nm ["DayOver", "NoName", "NoPlace"])) = G4 at j4 d4 ⊢
    refine cat_vs (j4.lst (by simp) e3) d4 (by unfold bsOf sizeLine; simp) fun F4 H4 c4 f4 e4 => ?_
    have k4 := k3.trans (j4.trans c4)
    have e4 : H4 F4 = some (.lst (bsOf nm ["NoDay", "NoPlan", "NoNumbers", "NoRests", "NoLost", "NoBlock", "NoWorth", "NoHour", "TooMany", "DayOver", "NoName", "NoPlace"])) := e4
    have hk4 := hk.kx k4
    try dsimp only
    refine st_set (st_op ⟨.ref F4, rfl, st_lst (st_cons (st_isO "NoRow" rfl hk4 W (by decide) (st_cons (st_isO "NoText" rfl hk4 W (by decide) (st_nil ⟨len_ok, fun N5 n5 => ?_⟩)))))⟩)
    have j5 : Kx [] H4 (upd H4 N5 (.lst (bsOf nm ["NoRow", "NoText"]))) := Kx.new n5
    have d5 : upd H4 N5 (.lst (bsOf nm ["NoRow", "NoText"])) N5 = some (.lst (bsOf nm ["NoRow", "NoText"])) := upd_same
    show rCat _ _ (upd H4 N5 (.lst (bsOf nm ["NoRow", "NoText"]))) _
    generalize upd H4 N5 (.lst (bsOf nm ["NoRow", "NoText"])) = G5 at j5 d5 ⊢
    refine cat_vs (j5.lst (by simp) e4) d5 (by unfold bsOf sizeLine; simp) fun F5 H5 c5 f5 e5 => ?_
    have k5 := k4.trans (j5.trans c5)
    have e5 : H5 F5 = some (.lst (bsOf nm ["NoDay", "NoPlan", "NoNumbers", "NoRests", "NoLost", "NoBlock", "NoWorth", "NoHour", "TooMany", "DayOver", "NoName", "NoPlace", "NoRow", "NoText"])) := e5
    have hk5 := hk.kx k5
    try dsimp only
    refine st_set (st_lst (st_cons (st_c (st_cons (st_c (st_cons (st_c (st_cons (st_c (st_cons (st_c (st_cons (st_c (st_cons (st_c (st_cons (st_c (st_cons (st_c (st_cons (st_c (st_nil ⟨len_ok, fun N6 n6 => ?_⟩))))))))))))))))))))))
    have k6 : Kx [] H5 (upd H5 N6 (.lst [.str "NoDay", .str "NoPlan", .str "NoNumbers", .str "NoRests", .str "NoLost", .str "NoBlock", .str "NoWorth", .str "NoHour", .str "TooMany", .str "DayOver"])) := Kx.new n6
    have e6 : upd H5 N6 (.lst [.str "NoDay", .str "NoPlan", .str "NoNumbers", .str "NoRests", .str "NoLost", .str "NoBlock", .str "NoWorth", .str "NoHour", .str "TooMany", .str "DayOver"]) N6 = some (.lst [.str "NoDay", .str "NoPlan", .str "NoNumbers", .str "NoRests", .str "NoLost", .str "NoBlock", .str "NoWorth", .str "NoHour", .str "TooMany", .str "DayOver"]) := upd_same
    generalize upd H5 N6 (.lst [.str "NoDay", .str "NoPlan", .str "NoNumbers", .str "NoRests", .str "NoLost", .str "NoBlock", .str "NoWorth", .str "NoHour", .str "TooMany", .str "DayOver"]) = H6 at k6 e6 ⊢
    try dsimp only
    refine st_set (st_op ⟨.ref N6, rfl, st_lst (st_cons (st_c (st_cons (st_c (st_cons (st_c (st_cons (st_c (st_nil ⟨len_ok, fun N7 n7 => ?_⟩)))))))))⟩)
    have k7 : Kx [] H6 (upd H6 N7 (.lst [.str "NoName", .str "NoPlace", .str "NoRow", .str "NoText"])) := Kx.new n7
    have e7 : upd H6 N7 (.lst [.str "NoName", .str "NoPlace", .str "NoRow", .str "NoText"]) N7 = some (.lst [.str "NoName", .str "NoPlace", .str "NoRow", .str "NoText"]) := upd_same
    generalize upd H6 N7 (.lst [.str "NoName", .str "NoPlace", .str "NoRow", .str "NoText"]) = H7 at k7 e7 ⊢
    refine cat_vs (k7.lst (by simp) e6) e7 (by simp; unfold sizeLine; omega) fun F8 H8 k8 n8 e8 => ?_
    have e8 : H8 F8 = some (.lst (NM.map fun x : String => V.str (Str.ofString x))) := e8
    have k58 := k6.trans (k7.trans k8)
    have e58 := k58.lst (by simp) e5
    have hk8 := hk5.kx k58
    try dsimp only
    refine st_lit [some (.ref a), some (.ref F5), some (.ref F8), none] rfl ?_
    have e58 : H8 F5 = some (.lst (bsOf nm NM)) := e58
    have aB : ∀ i : Nat, i < 14 → atI (bsOf nm NM) (i : Int) = some (.bl (decide (NM.getD i "" = nm))) := fun i hi => atI_nat (by
      unfold bsOf
      rw [List.getElem?_map, List.getElem?_eq_getElem (show i < NM.length from hi), List.getD_eq_getElem?_getD, List.getElem?_eq_getElem (show i < NM.length from hi)]
      rfl)
    have aW : ∀ i : Nat, i < 14 → atI (NM.map fun x : String => V.str (Str.ofString x)) (i : Int) = some (.str (Str.ofString (NM.getD i ""))) := fun i hi => atI_nat (by
      rw [List.getElem?_map, List.getElem?_eq_getElem (show i < NM.length from hi), List.getD_eq_getElem?_getD, List.getElem?_eq_getElem (show i < NM.length from hi)]
      rfl)
    refine st_ret (st_op (lc_use ⟨_, rfl, by decide, by decide, ?_⟩))
    refine lc_pickV (itr_at (14 : Int).toNat) (by decide) (fun i => decide (NM.getD i "" = nm)) (fun i => .str (Str.ofString (NM.getD i ""))) (fun i H9 hi k9 R R0 hR hR0 => ?_) fun D H9 k9 nD eD => ?_
    · have hi : i < 14 := hi
      refine ⟨rfl, .ref F5, rfl, .int i, rfl, F5, _, i, _, rfl, rfl, SqL.of (k9.lst (by simp) e58), aB i hi, _, rfl, ?_⟩
      exact ite2 (fun c => ⟨.ref F8, rfl, .int i, rfl, F8, _, i, _, rfl, rfl, SqL.of (k9.lst (by simp) e8), aW i hi, hR c H9 (Kx.refl _)⟩) (fun c => hR0 (by simpa using c) H9 (Kx.refl _))
    have one : ((List.range (14 : Int).toNat).filter fun i => decide (NM.getD i "" = nm)).map (fun i => V.str (Str.ofString (NM.getD i ""))) = [.str (Str.ofString nm)] := pick_one nm hnm
    rw [one] at eD
    have hk9 := hk8.kx k9
    refine st_op (st_lst (st_cons (st_c (st_nil ⟨len_ok, fun S n10 => ?_⟩))))
    have k10 : Kx [] H9 (upd H9 S (.lst [.str "no ValueError"])) := Kx.new n10
    have e10 : upd H9 S (.lst [.str "no ValueError"]) S = some (.lst [.str "no ValueError"]) := upd_same
    generalize upd H9 S (.lst [.str "no ValueError"]) = H10 at k10 e10 ⊢
    have hk10 := hk9.kx k10
    refine Txts.st_cb (st_cons (st_notV (Txts.st_cb (st_cons ⟨.ref a, rfl, st_cons (st_c (st_nil (is_ve hk10 W ⟨_, rfl, st_nil (.inr ⟨_, rfl, ?_⟩)⟩)))⟩))))
    refine ⟨S, 0, _, rfl, rfl, e10, by decide, by decide, by simp, fun T n11 => ?_⟩
    have k11 : Kx [] H10 (upd H10 T (.lst [])) := Kx.new n11
    have e11 : upd H10 T (.lst []) T = some (.lst []) := upd_same
    show rCat _ _ (upd H10 T (.lst [])) _
    generalize upd H10 T (.lst []) = H11 at k11 e11 ⊢
    refine cat_vs ((k10.trans k11).lst (by simp) eD) e11 (by simp; unfold sizeLine; omega) fun L H12 k12 n12 e12 => ?_
    have kk := k5.trans (k58.trans (k9.trans (k10.trans k11)))
    exact q L H12 (kk.trans k12) (kk.free (by simp) n12) e12
end
end Law

set_option Elab.async false
set_option linter.all false
set_option maxRecDepth 100000
set_option maxHeartbeats 1000000
namespace Law
open PySem PySem.Spec PyProof.Rows L2 GxR GX Tree Kit Data Loops Loops2 Comps Purse Day SetG SetL Loops3 Obj Enum Wipe Txts Lit Ib Sep Raised Picks
section
variable {P : Program} {w : World} {K : PySem.W.Frag} {mg : Str → Option Value} {base : Heap} {fa : String → Addr} {fd : String → FuncData} {ca ta : String → Addr} {cs : String → Addr} {fm : String → String → Addr} {fdm : String → String → FuncData}
theorem kis_NoPlan (Z : CFacts K mg cs fm fdm) : KIs K cs "NoPlan" := ⟨Z.is_NoPlan, Z.ki_NoPlan_ValueError, by
  unfold NM
  simp only [List.forall_mem_cons]
  exact ⟨Z.ki_NoPlan_NoDay, Z.ki_NoPlan_NoPlan, Z.ki_NoPlan_NoNumbers, Z.ki_NoPlan_NoRests, Z.ki_NoPlan_NoLost, Z.ki_NoPlan_NoBlock, Z.ki_NoPlan_NoWorth, Z.ki_NoPlan_NoHour, Z.ki_NoPlan_TooMany, Z.ki_NoPlan_DayOver, Z.ki_NoPlan_NoName, Z.ki_NoPlan_NoPlace, Z.ki_NoPlan_NoRow, Z.ki_NoPlan_NoText, fun x hx => nomatch hx⟩⟩
theorem kis_NoDay (Z : CFacts K mg cs fm fdm) : KIs K cs "NoDay" := ⟨Z.is_NoDay, Z.ki_NoDay_ValueError, by
  unfold NM
  simp only [List.forall_mem_cons]
  exact ⟨Z.ki_NoDay_NoDay, Z.ki_NoDay_NoPlan, Z.ki_NoDay_NoNumbers, Z.ki_NoDay_NoRests, Z.ki_NoDay_NoLost, Z.ki_NoDay_NoBlock, Z.ki_NoDay_NoWorth, Z.ki_NoDay_NoHour, Z.ki_NoDay_TooMany, Z.ki_NoDay_DayOver, Z.ki_NoDay_NoName, Z.ki_NoDay_NoPlace, Z.ki_NoDay_NoRow, Z.ki_NoDay_NoText, fun x hx => nomatch hx⟩⟩
theorem blkD_inj {b c : Blk} (e : blkD b = blkD c) : b = c := by
  cases b with
  | mk b1 b2 b3 b4 b5 =>
    cases c with
    | mk c1 c2 c3 c4 c5 =>
      unfold blkD at e
      injection e with e
      injection e with e1 e
      injection e with e2 e
      injection e with e3 e
      injection e with e4 e
      injection e with e5 e
      cases e1; cases e2; cases e3; cases e5
      cases b4 <;> cases c4 <;> cases e4 <;> rfl
theorem dayD_inj {D E : Dy} (e : dayD D = dayD E) : D = E := by
  cases D with
  | mk d1 d2 d3 d4 d5 =>
    cases E with
    | mk e1 e2 e3 e4 e5 =>
      unfold dayD at e
      injection e with e
      injection e with h1 e
      injection e with h2 e
      injection e with h3 e
      injection e with h4 e
      injection e with h5 e
      cases h1
      injection h2 with h2
      injection h3 with h3
      injection h4 with h4
      injection h5 with h5
      have iI : ∀ x y : Int, PyData.int x = .int y → x = y := fun x y e => by cases e; rfl
      have iR : ∀ x y : List Int, rowD x = rowD y → x = y := fun x y e => by
        unfold rowD at e
        injection e with e
        exact (List.map_inj_right iI).mp e
      have iS : ∀ x y : List (List Int), sightD x = sightD y → x = y := fun x y e => by
        unfold sightD at e
        injection e with e
        exact (List.map_inj_right iR).mp e
      have iO : ∀ x y : Option Int, optD x = optD y → x = y := fun x y e => by
        cases x <;> cases y <;> cases e <;> rfl
      have h2 : d2 = e2 := (List.map_inj_right iI).mp h2
      have h3 : d3 = e3 := (List.map_inj_right iS).mp h3
      have h4 : d4 = e4 := (List.map_inj_right iO).mp h4
      have h5 : d5 = e5 := (List.map_inj_right fun _ _ => blkD_inj).mp h5
      rw [h2, h3, h4, h5]
/-- the word that a door answers -/
def Word (dd d : PyData) (door : Int) (wd : String) : Prop := (isDayB dd = false ∧ wd = "NoDay") ∨ ∃ D, dd = dayD D ∧ DyOk D ∧ isDayB dd = true ∧ ((planB D d = true ∧ wd = "none") ∨ (planB D d = false ∧ door = 0 ∧ wd = "none") ∨ (planB D d = false ∧ door ≠ 0 ∧ wd = "NoPlan"))
def sp_law_word (ta : String → Addr) : Sp := fun vs H Q _ => ∃ (door : Int) (dv : V) (dd : PyData) (v : V) (d : PyData) (wd : String), vs = [.int door, dv, v] ∧ Tr [] H dv dd ∧ sz dd ≤ 100000 ∧ Tr [] H v d ∧ (∀ ds, d = .list ds → ds.length < 64) ∧ Tb (Ts ta) H ∧ Word dd d door wd ∧
  ∀ (L : Addr) (H' : Hp), Kx [] H H' → H L = none → H' L = some (.lst [.str (Str.ofString wd)]) → Q (.ref L) H'
/-- what comes behind the try -/
def lastW (K : PySem.W.Frag) (cs : String → Addr) : TS := tRet (tIf (tTest (tOp (fun x y H Q => y = V.non ∧ Q (V.bl (decide (x = V.non))) H) (tVar 3) (tC V.non))) (tLst (tCons (tC (V.str (Str.ofString "none"))) tNil)) (tCall (sp_law_kinds K cs) [] E0 (tCons (tVar 3) tNil)))
theorem keep_x {nm : String} {H H1 : Hp} {Q : VK} {D0 : Ends} {σ0 : Int} {dv v : V} (hD : D0.rt = Q) (k1 : Kx [] H H1) (hnm : nm ∈ NM) (W : KIs K cs nm) (em : PySem.W.exmOne K (.ref (cs nm)) (.ref (cs "SkyError")) = some true)
    (q : ∀ (L : Addr) (H' : Hp), Kx [] H H' → H L = none → H' L = some (.lst [.str (Str.ofString nm)]) → Q (.ref L) H') :
    WE (Caught.wKeep K (Value.ref (cs "SkyError")) 4 (fun a => tAsg (tVar 4) (gName 3)) (fun x x_1 x_2 x_3 => False) { D0 with nx := lastW K cs D0 }) [some (.int σ0), some dv, some v, some .non, none] (.ref (cs nm)) none H1 := by
  refine ⟨true, em, fun _ a ha => ?_, fun z => nomatch z⟩
  have k2 : Kx [] H1 (upd H1 a (Caught.ExK (.ref (cs nm)) none a)) := Kx.new ha
  have e2 : upd H1 a (Caught.ExK (.ref (cs nm)) none a) a = some (Caught.ExK (.ref (cs nm)) none a) := upd_same
  generalize upd H1 a (Caught.ExK (.ref (cs nm)) none a) = H2 at k2 e2 ⊢
  have kp : Kept (cs nm) H2 a := .inr e2
  refine ⟨.ref a, rfl, st_name ?_⟩
  dsimp only
  refine st_lit [some (.int σ0), some dv, some v, some (.ref a), none] rfl ?_
  subst hD
  refine st_ret ⟨.ref a, rfl, rfl, _, rfl, ?_⟩
  rw [decide_eq_false (fun z => by cases z)]
  exact iteF ⟨.ref a, rfl, a, nm, rfl, hnm, kp, W, fun L H3 k3 n3 e3 => q L H3 ((k1.trans k2).trans k3) ((k1.trans k2).free (by simp) n3) e3⟩
theorem keep_n {H H1 : Hp} {Q : VK} {D0 : Ends} {σ0 : Int} {dv v : V} (hD : D0.rt = Q) (k1 : Kx [] H H1) (q : ∀ (L : Addr) (H' : Hp), Kx [] H H' → H L = none → H' L = some (.lst [.str (Str.ofString "none")]) → Q (.ref L) H') :
    lastW K cs D0 [some (.int σ0), some dv, some v, some .non, none] H1 := by
  subst hD
  refine st_ret ⟨.non, rfl, rfl, _, rfl, ?_⟩
  rw [decide_eq_true rfl]
  exact iteT (st_lst (st_cons (st_c (st_nil ⟨len_ok, fun L hL => q L _ (k1.trans (Kx.new hL)) (k1.free (by simp) hL) upd_same⟩))))
theorem ok__law_word (Y : Facts K mg base fa fd ca ta) (Z : CFacts K mg cs fm fdm) : FnOk P w K mg base CX0 15 (fa "_law_word") (fd "_law_word") ["door", "day", "plan"] (sp_law_word ta) := by
  refine Y.d__law_word.ok sc__law_word (fun vs H Q E h => ?_) (fun cdv A outer s H vs Q E hcd hr h => ?_)
  · obtain ⟨door, dv, dd, v, d, wd, rfl, _⟩ := h; rfl
  · obtain ⟨door, dv, dd, v, d, wd, rfl, hdt, hz, ht, hl, hT, hw, q⟩ := h
    refine ⟨_, (pss_cons (ps_set (i := 3) sc__law_word.nd rfl (by first | exact Or.inl rfl | exact Or.inr rfl) pe_non)
      (pss_cons (Caught.ps_try_keep (i := 4) (c := .ref (cs "SkyError")) rfl rfl rfl sc__law_word.nd rfl rfl ⟨rfl, by decide, .inl Z.g_SkyError⟩ takes0 (fun W pn xe tk => (pss_one (ps_if (pt_cmpR op_eq (pv 0) pe_int (nomark _)) (pss_one (ps_expr (pe_callS (ok_is_plan Y Z) (hr.mono (by decide)) (by rfl) Y.d_is_plan.g Y.d_is_plan.kp Y.d_is_plan.b (fun σ => passAt tk σ) (pa_cons (pv 1) (pa_cons (pv 2) pa_nil))))) (pss_one (ps_if (pt_cmpR op_eq (pv 0) pe_int (nomark _)) (pss_one (ps_expr (pe_callS (ok_gain_of Y Z) (hr.mono (by decide)) (by rfl) Y.d_gain_of.g Y.d_gain_of.kp Y.d_gain_of.b (fun σ => passAt tk σ) (pa_cons (pv 1) (pa_cons (pv 2) pa_nil))))) (pss_one (ps_expr (MakeS.pe_makeS Z.mk_Sky (ok_Sky___init__ Y Z) (hr.mono (by decide)) (by rfl) Z.g_Sky Z.d_Sky___init__.b (fun σ => passAt tk σ) (pa_cons (pv 1) (pa_cons (pv 2) pa_nil)))))))))) (fun a pn => (pss_one (ps_set (i := 3) sc__law_word.nd rfl (by first | exact Or.inl rfl | exact Or.inr rfl) (pv 4)))))
      (pss_one (ps_ret (pe_ifExp (pt_cmpR op_isN (pv 3) pe_non (nomark _)) (pe_lst (pa_cons pe_str pa_nil)) (pe_call (ok__law_kinds Y Z) (hr.mono (by decide)) (by rfl) Y.d__law_kinds.g Y.d__law_kinds.kp Y.d__law_kinds.b .nil pass0 (pa_cons (pv 3) pa_nil))))))), ?_⟩
    refine st_set (st_c ?_)
    refine st_lit [some (.int door), some dv, some v, some .non, none] rfl ?_
    refine st_seq ?_
    dsimp only
    have nX : ∀ {nm : String}, wd = nm → ∀ (L : Addr) (H' : Hp), Kx [] H H' → H L = none → H' L = some (.lst [.str (Str.ofString nm)]) → Q (.ref L) H' := fun e L H' => e ▸ q L H'
    refine st_ifs (st_test (st_op ⟨.int door, rfl, st_c ⟨rfl, _, rfl, ?_⟩⟩))
    rw [eqV_int]
    refine ite2 (fun c0 => ?_) (fun c0 => st_ifs (st_test (st_op ⟨.int door, rfl, st_c ⟨rfl, _, rfl, ?_⟩⟩)))
    · have c0 : door = 0 := of_decide_eq_true c0
      refine ⟨dv, rfl, v, rfl, dv, dd, v, d, rfl, hdt, hz, ht, hl, hT, fun D e hD hday H1 k1 => keep_n rfl k1 (nX ?_), fun hno H1 k1 => keep_x rfl k1 (by decide) (kis_NoDay Z) Z.em_NoDay_SkyError (nX ?_)⟩
      · rcases hw with ⟨h1, h2⟩ | ⟨D', e', hD', h1, ⟨h2, h3⟩ | ⟨h2, h3, h4⟩ | ⟨h2, h3, h4⟩⟩
        · rw [hday] at h1; cases h1
        · exact h3
        · exact h4
        · exact absurd c0 h3
      · rcases hw with ⟨h1, h2⟩ | ⟨D', e', hD', h1, _⟩
        · exact h2
        · rw [hno] at h1; cases h1
    · have c0 : door ≠ 0 := fun z => c0 (decide_eq_true z)
      have wn : ∀ D, dd = dayD D → DyOk D → isDayB dd = true → (planB D d = true → wd = "none") ∧ (planB D d = false → wd = "NoPlan") := fun D e hD hday => by
        rcases hw with ⟨h1, h2⟩ | ⟨D', e', hD', h1, h⟩
        · rw [hday] at h1; cases h1
        · have eD : planB D d = planB D' d := by rw [dayD_inj (e.symm.trans e')]
          rw [eD]
          rcases h with ⟨h2, h3⟩ | ⟨h2, h3, h4⟩ | ⟨h2, h3, h4⟩
          · exact ⟨fun _ => h3, fun z => by rw [h2] at z; cases z⟩
          · exact absurd h3 c0
          · exact ⟨fun z => (by rw [h2] at z; cases z), fun _ => h4⟩
      have wx : isDayB dd = false → wd = "NoDay" := fun hno => by
        rcases hw with ⟨h1, h2⟩ | ⟨D', e', hD', h1, _⟩
        · exact h2
        · rw [hno] at h1; cases h1
      rw [eqV_int]
      refine ite2 (fun c1 => ?_) (fun c1 => ?_)
      · exact ⟨dv, rfl, v, rfl, dv, dd, v, d, rfl, hdt, hz, ht, hl, hT, fun D e hD hday => ⟨fun hp i H1 k1 => keep_n rfl k1 (nX ((wn D e hD hday).1 hp)), fun hp H1 k1 => keep_x rfl k1 (by decide) (kis_NoPlan Z) Z.em_NoPlan_SkyError (nX ((wn D e hD hday).2 hp))⟩, fun hno H1 k1 => keep_x rfl k1 (by decide) (kis_NoDay Z) Z.em_NoDay_SkyError (nX (wx hno))⟩
      · refine ⟨dv, rfl, v, rfl, fun x dx hx hdx ne => ?_⟩
        have ka : Kx [] H (upd H dx (.own x)) := Kx.new hdx
        have hx1 : upd H dx (.own x) x = none := by rw [upd_ne (Ne.symm ne)]; exact hx
        have kb : Kx [] H (upd (upd H dx (.own x)) x (.ins (cs "Sky") dx [])) := ka.trans (Kx.new hx1)
        refine ⟨x, dx, dv, dd, v, d, rfl, upd_same, hdt.up kb, hz, ht.up kb, hl, hT.kx kb, fun D e hD hday => ⟨fun hp H1 k1 => ⟨rfl, keep_n rfl ?_ (nX ((wn D e hD hday).1 hp))⟩, fun hp H1 k1 => keep_x rfl (kb.trans k1) (by decide) (kis_NoPlan Z) Z.em_NoPlan_SkyError (nX ((wn D e hD hday).2 hp))⟩, fun hno H1 k1 => keep_x rfl (kb.trans k1) (by decide) (kis_NoDay Z) Z.em_NoDay_SkyError (nX (wx hno))⟩
        exact Kx.weak (kb.of.trans k1) fun b hb => .inr (by rw [List.mem_singleton.mp hb]; exact hx)
end
end Law

set_option Elab.async false
set_option linter.all false
set_option maxRecDepth 100000
set_option maxHeartbeats 1000000
namespace Law
open PySem PySem.Spec PyProof.Rows L2 GxR GX Tree Kit Data Loops Loops2 Comps Purse Day SetG SetL Loops3 Obj Enum Wipe Txts Lit Ib Sep Raised Picks EndG
theorem lc_mapR {g : TG} {te : TE} {vs : List Nat} {σ : L2.St} {H : Hp} {Q : VK} {C : List Addr} {n : Nat} (F : Nat → PyData) (al : ∀ c ∈ C, H c ≠ none) (hN : n < sizeLine)
    (step : ∀ D i H', H D = none → (∀ c ∈ D :: C, H' c ≠ none) → i < n → Kx [] H H' → ∀ R : V → Hp → Prop, (∀ y H'', Kx [] H' H'' → Tr (D :: C) H'' y (F i) → R y H'') →
      g (.int i) (wipe σ vs) H' fun σ2 H2 => wipe σ2 vs = wipe σ vs ∧ te σ2 H2 R)
    (q : ∀ D H', Kx [] H H' → H D = none → Tr C H' (.ref D) (.list ((List.range n).map F)) → Q (.ref D) H') :
    CompG (Itr 0 n) g tYes te vs σ H Q := by
  intro D hD
  have nD : D ∉ C := fun z => al D z hD
  refine lc_gen (B := []) (itr_at n) hN hD (A := fun i acc H' => TrAll (D :: C) H' acc ((List.range i).map F)) .nil (fun i H' acc hi k hdd hacc R R0 hR hR0 => ?_) fun acc H' k hdd hacc => ?_
  · have alD : ∀ c ∈ D :: C, H' c ≠ none := fun c hc => by
      rcases List.mem_cons.mp hc with e | e
      · rw [e, hdd]; simp
      · exact Kx.ne k (al c e)
    have st := step D i H' hD alD hi k R fun y H'' k2 t2 => hR y H'' (k.trans k2) (k2.lst (by simp) hdd) (by
      rw [List.range_succ, List.map_append]
      have t1 := hacc.up k2
      exact TrAll.kx (Kx.put (B := [D]) (by simp)) (fun b hb => by rw [List.mem_singleton.mp hb]; simp) _ _ (t1.snoc t2))
    exact st
  · exact q D H' k hD (.lst nD hdd (TrAll.less (fun b hb => List.mem_cons_of_mem _ hb) _ _ hacc))
section
variable {P : Program} {w : World} {K : PySem.W.Frag} {mg : Str → Option Value} {base : Heap} {fa : String → Addr} {fd : String → FuncData} {ca ta : String → Addr} {cs : String → Addr} {fm : String → String → Addr} {fdm : String → String → FuncData}
def wordD (wd : String) : PyData := .list [.str (Str.ofString wd)]
theorem Word.can {dd d : PyData} {door : Int} {wd : String} (h : Word dd d door wd) : (PyData.str (Str.ofString wd)).canLay0 = true := by
  rcases h with ⟨_, rfl⟩ | ⟨_, _, _, _, ⟨_, rfl⟩ | ⟨_, _, rfl⟩ | ⟨_, _, rfl⟩⟩ <;> decide +kernel
def sp_law_refused (ta : String → Addr) : Sp := fun vs H Q _ => ∃ (dv : V) (dd : PyData) (v : V) (d : PyData) (a : Addr) (w0 w1 w2 : String), vs = [dv, v, .ref a] ∧ Tr [] H dv dd ∧ sz dd ≤ 100000 ∧ Tr [] H v d ∧ (∀ ds, d = .list ds → ds.length < 64) ∧ Tb (Ts ta) H ∧
  (PyData.list [dd, d]).showable = true ∧ (PyData.list [dd, d]).depth ≤ 40 ∧ (PyData.list [dd, d]).shown.length ≤ sizeLine ∧ H a = some (.lst [.str (Str.ofString w0), .str (Str.ofString w1), .str (Str.ofString w2)]) ∧
  Word dd d 0 w0 ∧ Word dd d 1 w1 ∧ Word dd d 2 w2 ∧ ∀ H', Kx [] H H' → Q (.bl true) H'
theorem ok__law_refused (Y : Facts K mg base fa fd ca ta) (Z : CFacts K mg cs fm fdm) (hm : ∃ o, base.get? sysModules = some o) : FnG P w K mg base 16 (fa "_law_refused") (fd "_law_refused") ["day", "plan", "dues"] (sp_law_refused ta) := by
  refine fnG Y.d__law_refused.F sc__law_refused (fun vs H Q E h => ?_) (fun cdv A outer s H vs Q E hg hcd hr h => ?_)
  · obtain ⟨dv, dd, v, d, a, w0, w1, w2, rfl, _⟩ := h; rfl
  · obtain ⟨dv, dd, v, d, a, w0, w1, w2, rfl, hdt, hz, ht, hl, hT, s1, s2, s3, ha, x0, x1, x2, q⟩ := h
    refine ⟨_, (pss_cons (ps_set (i := 3) sc__law_refused.nd rfl (by first | exact Or.inl rfl | exact Or.inr rfl) (pe_callB (call_repr_tree hg hr.units hm) (by rfl) Y.b.repr (by decide +kernel) (pa_cons (pe_lst (pa_cons (pv 0) (pa_cons (pv 1) pa_nil))) pa_nil)))
      (pss_cons (ps_for PassesOwn.never rfl (pi_range1 (by rfl) Y.b.range (pa_cons pe_int pa_nil)) (pg_name (i := 4) sc__law_refused.nd rfl (by first | exact Or.inl rfl | exact Or.inr rfl)) (pss_one (ps_if (pt_cmpR (op_neDK K rfl hr.units) (pe_lc (own := [("door", 5)]) (g := gName 5) (tt := tYes) rfl sc__law_refused.nd (pi_range1 (by rfl) Y.b.range (pa_cons pe_int pa_nil)) (blkOk_by (N := ["day", "plan", "dues", "text", "again", "door", "due"]) (sc := defScope s__law_refused) (by decide +kernel)) (fun _ _ _ _ _ => (pg_name (i := 5) sc__law_refused.nd rfl (by first | exact Or.inl rfl | exact Or.inr rfl))) (fun _ _ _ _ _ => pts_nil) (fun _ _ _ _ _ => (pe_call (ok__law_word Y Z) (hr.mono (by decide)) (by rfl) Y.d__law_word.g Y.d__law_word.kp Y.d__law_word.b .nil pass0 (pa_cons (pv 5) (pa_cons (pv 0) (pa_cons (pv 1) pa_nil)))))) (pe_lc (own := [("due", 6)]) (g := gName 6) (tt := tYes) rfl sc__law_refused.nd (pi_listK K rfl (pv 2)) (blkOk_by (N := ["day", "plan", "dues", "text", "again", "door", "due"]) (sc := defScope s__law_refused) (by decide +kernel)) (fun _ _ _ _ _ => (pg_name (i := 6) sc__law_refused.nd rfl (by first | exact Or.inl rfl | exact Or.inr rfl))) (fun _ _ _ _ _ => pts_nil) (fun _ _ _ _ _ => (pe_lst (pa_cons (pv 6) pa_nil)))) (nomark _)) (pss_one (ps_ret pe_bl)) pss_nil)))
      (pss_one (ps_ret (pe_cmpR op_eq (pe_callB (call_repr_tree hg hr.units hm) (by rfl) Y.b.repr (by decide +kernel) (pa_cons (pe_lst (pa_cons (pv 0) (pa_cons (pv 1) pa_nil))) pa_nil)) (pv 3) (nomark _)))))), ?_⟩
    refine st_set (Txts.st_cb (st_cons (st_lst (st_cons ⟨dv, rfl, st_cons ⟨v, rfl, st_nil ⟨len_ok, fun N hN => st_nil ?_⟩⟩⟩))))
    have k1 : Kx [] H (upd H N (.lst [dv, v])) := Kx.new hN
    have t1 : Tr [] (upd H N (.lst [dv, v])) (.ref N) (.list [dd, d]) := .lst (by simp) upd_same (.cons (hdt.up k1) (.cons (ht.up k1) .nil))
    generalize upd H N (.lst [dv, v]) = H1 at k1 t1 ⊢
    refine ⟨.ref N, _, rfl, t1, s1, s2, s3, ?_⟩
    refine st_lit [some dv, some v, some (.ref a), some (.str (PyData.list [dd, d]).shown), none, none, none] rfl ?_
    refine st_seq (st_for ⟨_, rfl, by decide, by decide, ?_⟩)
    have hW : ∀ i : Nat, i < 3 → Word dd d (i : Int) ((if i = 0 then w0 else if i = 1 then w1 else w2) : String) := fun i hi => by
      have : i = 0 ∨ i = 1 ∨ i = 2 := by omega
      rcases this with rfl | rfl | rfl
      · exact x0
      · exact x1
      · exact x2
    refine for_gen (itr_at (2 : Int).toNat) (B := []) (Iv := fun i σ' H' => ∃ z4, σ' = [some dv, some v, some (.ref a), some (.str (PyData.list [dd, d]).shown), z4, none, none]) ⟨_, rfl⟩ (fun i σ' H2 hi k2 ⟨z4, e⟩ Nn hN => ?_) fun σ' H2 k2 ⟨z4, e⟩ => ?_
    · subst e
      refine st_name ?_
      dsimp only
      refine st_ifs (st_test (st_op (lc_use ⟨_, rfl, by decide, by decide, ?_⟩)))
      refine lc_mapR (n := (3 : Int).toNat) (C := []) (fun i => wordD ((if i = 0 then w0 else if i = 1 then w1 else w2) : String)) (fun _ z => nomatch z) (by decide) (fun D i H3 hD al hi k3 R hR => ?_) fun D H3 k3 nD tD => ?_
      · have hi : i < 3 := hi
        have kk := k1.trans (k2.trans k3)
        refine ⟨rfl, .int i, rfl, dv, rfl, v, rfl, i, dv, dd, v, d, _, rfl, hdt.up kk, hz, ht.up kk, hl, hT.kx kk, hW i hi, fun L H4 k4 n4 e4 => hR (.ref L) H4 k4 (.lst ?_ e4 (.cons (.str _) .nil))⟩
        exact fun z => al D (by simp) (by rw [← List.mem_singleton.mp z]; exact n4)
      have kk := k1.trans (k2.trans k3)
      have can : PyData.canLay0 (.list [wordD w0, wordD w1, wordD w2]) = true := canAll fun d hd => by
        simp only [List.mem_cons, List.not_mem_nil, or_false] at hd
        rcases hd with rfl | rfl | rfl
        · exact canAll fun d hd => by rw [List.mem_singleton.mp hd]; exact x0.can
        · exact canAll fun d hd => by rw [List.mem_singleton.mp hd]; exact x1.can
        · exact canAll fun d hd => by rw [List.mem_singleton.mp hd]; exact x2.can
      have shp : SeqAt.shaped (.list [wordD w0, wordD w1, wordD w2]) = true := shaped_by (k := 2) can (depAll fun d hd => by
        simp only [List.mem_cons, List.not_mem_nil, or_false] at hd
        rcases hd with rfl | rfl | rfl <;> exact Nat.le_refl _)
      refine lc_use ⟨.ref a, rfl, a, rfl, ⟨_, SqL.of (kk.lst (by simp) ha)⟩, ?_⟩
      refine lc_mapC (C := []) (ds := [.str (Str.ofString w0), .str (Str.ofString w1), .str (Str.ofString w2)]) (fun d => .list [d]) (fun _ z => nomatch z) (kk.lst (by simp) ha) (.cons (.str _) (.cons (.str _) (.cons (.str _) .nil))) (by unfold sizeLine; simp) (fun D2 x d' H4 hD2 al hd tx k4 R hR => ?_) fun D2 H4 k4 nD2 t2 => ?_
      · refine ⟨rfl, st_lst (st_cons ⟨x, rfl, st_nil ⟨len_ok, fun L hL => hR (.ref L) _ (Kx.new hL) (.lst ?_ upd_same ?_)⟩⟩)⟩
        · exact fun z => al D2 (by simp) (by rw [← List.mem_singleton.mp z]; exact hL)
        · simp only [List.mem_cons, List.not_mem_nil, or_false] at hd
          rcases hd with rfl | rfl | rfl <;> (cases tx; exact .cons (.str _) .nil)
      · refine ⟨.list [wordD w0, wordD w1, wordD w2], .list [wordD w0, wordD w1, wordD w2], tr_dp _ _ (tD.up k4) can, tr_dp _ _ t2 can, shp, shp, _, rfl, ?_⟩
        rw [SeqAt.eqv_refl _ can]
        exact iteF (st_next (hN _ _ (k2.trans (k3.trans k4)) ⟨_, rfl⟩))
    · subst e
      dsimp only
      have k02 := k1.trans k2
      refine st_ret (st_op (Txts.st_cb (st_cons (st_lst (st_cons ⟨dv, rfl, st_cons ⟨v, rfl, st_nil ⟨len_ok, fun N2 hN2 => st_nil ?_⟩⟩⟩)))))
      have k3 : Kx [] H2 (upd H2 N2 (.lst [dv, v])) := Kx.new hN2
      have t3 : Tr [] (upd H2 N2 (.lst [dv, v])) (.ref N2) (.list [dd, d]) := .lst (by simp) upd_same (.cons (hdt.up (k02.trans k3)) (.cons (ht.up (k02.trans k3)) .nil))
      refine ⟨.ref N2, _, rfl, t3, s1, s2, s3, ⟨_, rfl, rfl, ?_⟩⟩
      rw [decide_eq_true rfl]
      exact q _ (k02.trans k3)
end
end Law

set_option Elab.async false
set_option linter.all false
set_option maxRecDepth 100000
set_option maxHeartbeats 4000000
namespace Law
open PySem PySem.Spec PyProof.Rows L2 GxR GX Tree Kit Data Loops Loops2 Comps Purse Day SetG SetL Loops3 Obj Enum Wipe Txts Lit Ib Sep Raised Picks Small EndG Sets
section
variable {P : Program} {w : World} {K : PySem.W.Frag} {mg : Str → Option Value} {base : Heap} {fa : String → Addr} {fd : String → FuncData} {ca ta : String → Addr} {cs : String → Addr} {fm : String → String → Addr} {fdm : String → String → FuncData}
/-! ### what is asked with -/
def SD (L : Nat) (d : PyData) : Prop := Sm L 1001000000 801 5 d
theorem SD.sz {L : Nat} {d : PyData} (h : SD L d) : sz d ≤ 100000 := Nat.le_trans (Small.Sm.sz h) (by decide)
theorem SD.up {L L' : Nat} {d : PyData} (h : SD L d) (l : L ≤ L') : SD L' d := Small.Sm.mono h l (Nat.le_refl _) (Nat.le_refl _) (Nat.le_refl _)
theorem SD.len {L : Nat} {d : PyData} (h : SD L d) : ∀ ds, d = .list ds → ds.length ≤ L := fun ds e => by
  subst e
  exact (Sm.items h).1
theorem SD.two {dd d : PyData} (h1 : SD 21 dd) (h2 : SD 21 d) : (PyData.list [dd, d]).showable = true ∧ (PyData.list [dd, d]).depth ≤ 40 ∧ (PyData.list [dd, d]).shown.length ≤ sizeLine :=
  Shown.shows (Sm.list (L := 21) (M := 1001000000) (N := 2) (S := 801) (D := 5) (fun e he => by
    simp only [List.mem_cons, List.not_mem_nil, or_false] at he
    rcases he with rfl | rfl
    · exact h1
    · exact h2) (by simp) (by decide)) (by decide) (by decide) (by decide)
theorem refuse {dv v : V} {dd d : PyData} {a : Addr} {w0 w1 w2 : String} {H : Hp} {Q : VK} {E : XK} (t1 : Tr [] H dv dd) (h1 : SD 21 dd) (t2 : Tr [] H v d) (h2 : SD 21 d) (hT : Tb (Ts ta) H) (ha : H a = some (.lst [.str (Str.ofString w0), .str (Str.ofString w1), .str (Str.ofString w2)]))
    (x0 : Word dd d 0 w0) (x1 : Word dd d 1 w1) (x2 : Word dd d 2 w2) (q : ∀ H', Kx [] H H' → Q (.bl true) H') : sp_law_refused ta [dv, v, .ref a] H Q E :=
  ⟨dv, dd, v, d, a, w0, w1, w2, rfl, t1, h1.sz, t2, (fun ds e => Nat.lt_of_le_of_lt (h2.len ds e) (by decide)), hT, (h1.two h2).1, (h1.two h2).2.1, (h1.two h2).2.2, ha, x0, x1, x2, q⟩
theorem rep3 {σ : L2.St} {H : Hp} {Q : VK} {x : Str} (q : ∀ (S : Addr) (H' : Hp), Kx [] H H' → H' S = some (.lst [.str x, .str x, .str x]) → Q (.ref S) H') : tOp rRep (tLst (tCons (tC (.str x)) tNil)) (tC (.int 3)) σ H Q := by
  refine st_op (st_lst (st_cons (st_c (st_nil ⟨len_ok, fun S1 m1 => ?_⟩))))
  have k1 : Kx [] H (upd H S1 (.lst [.str x])) := Kx.new m1
  have e1 : upd H S1 (.lst [.str x]) S1 = some (.lst [.str x]) := upd_same
  generalize upd H S1 (.lst [.str x]) = H1 at k1 e1 ⊢
  exact st_c ⟨S1, 3, _, rfl, rfl, e1, by decide, by decide, by simp; unfold sizeLine; omega, fun S2 m2 => q S2 _ (k1.trans (Kx.new m2)) upd_same⟩
section
variable {σ : L2.St} {C : List Addr} {H : Hp} {te : TE} {ds : List PyData}
theorem cat_tr {a : Addr} {v : V} {es : List PyData} {Q : VK} (al : ∀ c ∈ C, H c ≠ none) (ta : Tr C H (.ref a) (.list ds)) (tb : Tr C H v (.list es)) (hl : ds.length + es.length ≤ 1000)
    (q : ∀ (S : Addr) (H' : Hp), Kx [] H H' → Tr C H' (.ref S) (.list (ds ++ es)) → Q (.ref S) H') : rCat (.ref a) v H Q := by
  obtain ⟨xs, ex, tx⟩ := ta.items
  obtain ⟨b, ys, rfl, ey, ty⟩ := tb.listV
  have lx := tx.length
  have ly := ty.length
  refine ⟨a, b, xs, ys, rfl, rfl, ex, ey, by unfold sizeLine; omega, fun S hS => ?_⟩
  obtain ⟨k, e, t⟩ := mk_lst al (tx.append ty) hS
  exact q S _ k t
theorem lit_listT (al : ∀ c ∈ C, H c ≠ none) {j : Nat} {a : Addr} (hσ : σ[j]? = some (some (.ref a))) (t : Tr C H (.ref a) (.tuple ds)) : LitE σ C H (tCB (rListK K) (tCons (tVar j) tNil)) (.list ds) := fun H1 k Q q => by
  obtain ⟨xs, ex, tx⟩ := (t.up k).itemsT
  refine ⟨.ref a, hσ, a, xs, rfl, .inr (SqT.of ex), fun p hp => ?_⟩
  obtain ⟨k4, e4, t4⟩ := mk_lst (al_up al k) tx hp
  exact q _ _ k4 t4
theorem lit_catT (al : ∀ c ∈ C, H c ≠ none) {j : Nat} {a : Addr} (hσ : σ[j]? = some (some (.ref a))) (t : Tr C H (.ref a) (.tuple ds)) (hne : 0 < ds.length) (hl : ds.length ≤ 1000) : LitE σ C H (tOp (rCatA K) (tVar j) (tTup (tCons (tC (.int 1)) tNil))) (.tuple (ds ++ [.int 1])) := fun H1 k Q q => by
  obtain ⟨xs, ex, tx⟩ := (t.up k).itemsT
  have lx := tx.length
  refine st_op ⟨.ref a, hσ, st_tup (st_cons (st_c (st_nil ⟨len_ok, fun N hN => ?_⟩)))⟩
  have kN : Kx [] H1 (upd H1 N (.tup [.int 1])) := Kx.new hN
  have eN : upd H1 N (.tup [.int 1]) N = some (.tup [.int 1]) := upd_same
  refine ⟨a, N, xs, [.int 1], rfl, rfl, SqT.of (kN.tup (by simp) ex), SqT.of eN, by simp; unfold sizeLine; omega, fun z => by rw [z] at lx; simp at lx; omega, fun _ z => (by cases z), fun _ _ T hT => ?_⟩
  obtain ⟨k4, e4, t4⟩ := mk_tup (al_up al (k.trans kN)) ((tx.up kN).append (.cons (.int 1) .nil)) hT
  exact q _ _ (kN.trans k4) t4
theorem lit_tupL (al : ∀ c ∈ C, H c ≠ none) (a : LitE σ C H te (.list ds)) : LitE σ C H (tCB (rTupleK K) (tCons te tNil)) (.tuple ds) := fun H1 k Q q =>
  Txts.st_cb (st_cons (a H1 k _ fun v H2 k2 t => st_nil (by
    obtain ⟨x, xs, rfl, ex, tx⟩ := t.listV
    refine ⟨x, xs, rfl, .inl ⟨SqL.of ex, fun p hp => ?_⟩⟩
    obtain ⟨k4, e4, t4⟩ := mk_tup (al_up al (k.trans k2)) tx hp
    exact q _ _ (k2.trans k4) t4)))
end
theorem sm_pass {D : Dy} (hD : DyOk D) {L M : Nat} (hL : 4 ≤ L) (hM : 20 ≤ M) {p : Pass} (h : passT D p = true) : Sm L M 5 1 (passD p) := by
  have t := passT_of h
  have h1 := hD.t1
  have h2 := hD.g1
  have h3 := hD.s1
  have h4 := hD.bl
  refine Sm.tuple (N := 4) (S := 1) (D := 0) (fun e he => ?_) (by simp) hL
  simp only [List.mem_cons, List.not_mem_nil, or_false] at he
  rcases he with rfl | rfl | rfl | rfl <;> exact Sm.int (by omega)
def sp_law (K : PySem.W.Frag) (ta : String → Addr) : Sp := fun vs H Q _ => ∃ (a : Addr) (ns : List Int), vs = [.ref a] ∧ SqL K H a (ns.map V.int) ∧ ns.length ≤ 63 ∧ Tb (Ts ta) H ∧ ∀ H', Q (.bl true) H'
theorem sqL_kx {H H' : Hp} {a : Addr} {xs : List V} (h : SqL K H a xs) (k : Kx [] H H') : SqL K H' a xs := by
  rcases h with (h | ⟨o, h⟩) | h
  · exact .inl (.inl (k.lst (by simp) h))
  · exact .inl (.inr ⟨o, k.at (by simp) h fun _ z => by cases z⟩)
  · exact .inr h
theorem kx_drop {p : Addr} {H H' H0 : Hp} (k0 : Kx [] H0 H) (hp : H0 p = none) (k : Kx [p] H H') : Kx [] H0 H' := Kx.weak (k0.of.trans k) fun b hb => .inr (by rw [List.mem_singleton.mp hb]; exact hp)
theorem ok_law (Y : Facts K mg base fa fd ca ta) (Z : CFacts K mg cs fm fdm) {f : Addr} {fl : FuncData} (F : FunD K "law" "law" (defArgs s_law) (defBody s_law) (defScope s_law) [] [] f fl) (hm : ∃ o, base.get? sysModules = some o) : FnG P w K mg base 17 f fl ["script"] (sp_law K ta) := by
  refine fnG F sc_law (fun vs H Q E h => ?_) (fun cdv A outer s H vs Q E hg hcd hr h => ?_)
  · obtain ⟨a, ns, rfl, _⟩ := h; rfl
  · obtain ⟨a, ns, rfl, ha, hl, hT, q⟩ := h
    refine ⟨_, (pss_cons (ps_for PassesOwn.never rfl (pi_range1 (by rfl) Y.b.range (pa_cons (pe_callB (call_max2 rfl) (by rfl) Y.b.max (by decide +kernel) (pa_cons pe_int (pa_cons (pe_callB (call_min2 rfl) (by rfl) Y.b.min (by decide +kernel) (pa_cons pe_int (pa_cons (pe_callB (call_lenK K rfl) (by rfl) Y.b.len (by decide +kernel) (pa_cons (pv 0) pa_nil)) pa_nil))) pa_nil))) pa_nil)) (pg_name (i := 1) sc_law.nd rfl (by first | exact Or.inl rfl | exact Or.inr rfl)) (pss_cons (ps_set (i := 2) sc_law.nd rfl (by first | exact Or.inl rfl | exact Or.inr rfl) (pe_call (ok__law_purse Y) (hr.mono (by decide)) (by rfl) Y.d__law_purse.g Y.d__law_purse.kp Y.d__law_purse.b .nil pass0 (pa_cons (pv 0) (pa_cons (pv 1) pa_nil))))
      (pss_cons (ps_set (i := 3) sc_law.nd rfl (by first | exact Or.inl rfl | exact Or.inr rfl) (pe_call (ok__law_day Y) (hr.mono (by decide)) (by rfl) Y.d__law_day.g Y.d__law_day.kp Y.d__law_day.b .nil pass0 (pa_cons (pv 2) (pa_cons pe_int (pa_cons pe_int pa_nil)))))
      (pss_cons (ps_set (i := 4) sc_law.nd rfl (by first | exact Or.inl rfl | exact Or.inr rfl) (pe_call (ok__law_plan Y) (hr.mono (by decide)) (by rfl) Y.d__law_plan.g Y.d__law_plan.kp Y.d__law_plan.b .nil pass0 (pa_cons (pv 2) (pa_cons (pv 3) pa_nil))))
      (pss_cons (ps_if (pt_not (pt_val (pe_callG (ok__law_refused Y Z hm) hg (hr.mono (by decide)) (by rfl) Y.d__law_refused.g Y.d__law_refused.kp Y.d__law_refused.b pass0 (pa_cons (pv 3) (pa_cons (pv 4) (pa_cons (pe_op op_rep (pe_lst (pa_cons pe_str pa_nil)) pe_int) pa_nil)))))) (pss_one (ps_ret pe_bl)) pss_nil)
      (pss_cons (ps_set (i := 5) sc_law.nd rfl (by first | exact Or.inl rfl | exact Or.inr rfl) (pe_op op_cat (pe_lc (own := [("turn", 9)]) (g := gName 9) (tt := tYes) rfl sc_law.nd (pi_range1 (by rfl) Y.b.range (pa_cons pe_int pa_nil)) (blkOk_by (N := ["script", "k", "purse", "day", "plan", "days", "plans", "one", "other", "turn"]) (sc := defScope s_law) (by decide +kernel)) (fun _ _ _ _ _ => (pg_name (i := 9) sc_law.nd rfl (by first | exact Or.inl rfl | exact Or.inr rfl))) (fun _ _ _ _ _ => pts_nil) (fun _ _ _ _ _ => (pe_call (ok__law_bent Y) (hr.mono (by decide)) (by rfl) Y.d__law_bent.g Y.d__law_bent.kp Y.d__law_bent.b .nil pass0 (pa_cons (pv 2) (pa_cons (pv 3) pa_nil))))) (pe_lst (pa_cons pe_non (pa_cons pe_int (pa_cons pe_str (pa_cons (pe_lst pa_nil) (pa_cons (pe_tup pa_nil) (pa_cons (pe_callTy (call_listK K rfl) (by rfl) Y.b.list (by decide +kernel) (pa_cons (pv 3) pa_nil)) (pa_cons (pe_op (op_catAK K rfl) (pv 3) (pe_tup (pa_cons pe_int pa_nil))) pa_nil))))))))))
      (pss_cons (ps_setLc (i := 5) (own := [("one", 7)]) (g := gName 7) rfl sc_law.nd rfl rfl (sw_true rfl rfl rfl (by decide +kernel)) (pi_listK K rfl (pv 5)) (blkOk_by (N := ["script", "k", "purse", "day", "plan", "days", "plans", "one", "other", "turn"]) (sc := defScope s_law) (by decide +kernel)) (fun _ _ _ _ _ => (pg_name (i := 7) sc_law.nd rfl (by first | exact Or.inl rfl | exact Or.inr rfl))) (fun _ _ _ _ _ => (pts_one (pt_not (pt_val (pe_call (ok__law_is_day Y) (hr.mono (by decide)) (by rfl) Y.d__law_is_day.g Y.d__law_is_day.kp Y.d__law_is_day.b .nil pass0 (pa_cons (pv 7) pa_nil)))))) (fun _ _ _ _ _ => (pv 7)))
      (pss_cons (ps_set (i := 6) sc_law.nd rfl (by first | exact Or.inl rfl | exact Or.inr rfl) (pe_op op_cat (pe_lc (own := [("turn", 9)]) (g := gName 9) (tt := tYes) rfl sc_law.nd (pi_range1 (by rfl) Y.b.range (pa_cons pe_int pa_nil)) (blkOk_by (N := ["script", "k", "purse", "day", "plan", "days", "plans", "one", "other", "turn"]) (sc := defScope s_law) (by decide +kernel)) (fun _ _ _ _ _ => (pg_name (i := 9) sc_law.nd rfl (by first | exact Or.inl rfl | exact Or.inr rfl))) (fun _ _ _ _ _ => pts_nil) (fun _ _ _ _ _ => (pe_call (ok__law_bent Y) (hr.mono (by decide)) (by rfl) Y.d__law_bent.g Y.d__law_bent.kp Y.d__law_bent.b .nil pass0 (pa_cons (pv 2) (pa_cons (pv 4) pa_nil))))) (pe_lst (pa_cons pe_non (pa_cons pe_int (pa_cons pe_str (pa_cons (pe_tup pa_nil) (pa_cons (pe_callTy (call_tupleK K rfl) (by rfl) Y.b.tuple (by decide +kernel) (pa_cons (pv 4) pa_nil)) (pa_cons (pe_lst (pa_cons pe_non pa_nil)) (pa_cons (pe_lst (pa_cons (pe_tup (pa_cons pe_int (pa_cons pe_int (pa_cons pe_int pa_nil)))) pa_nil)) pa_nil))))))))))
      (pss_cons (ps_setLc (i := 6) (own := [("one", 7)]) (g := gName 7) rfl sc_law.nd rfl rfl (sw_true rfl rfl rfl (by decide +kernel)) (pi_listK K rfl (pv 6)) (blkOk_by (N := ["script", "k", "purse", "day", "plan", "days", "plans", "one", "other", "turn"]) (sc := defScope s_law) (by decide +kernel)) (fun _ _ _ _ _ => (pg_name (i := 7) sc_law.nd rfl (by first | exact Or.inl rfl | exact Or.inr rfl))) (fun _ _ _ _ _ => (pts_one (pt_not (pt_val (pe_call (ok__law_is_plan Y) (hr.mono (by decide)) (by rfl) Y.d__law_is_plan.g Y.d__law_is_plan.kp Y.d__law_is_plan.b .nil pass0 (pa_cons (pv 3) (pa_cons (pv 7) pa_nil))))))) (fun _ _ _ _ _ => (pv 7)))
      (pss_cons (ps_for PassesOwn.never rfl (pi_listK K rfl (pv 5)) (pg_name (i := 7) sc_law.nd rfl (by first | exact Or.inl rfl | exact Or.inr rfl)) (pss_cons (ps_set (i := 8) sc_law.nd rfl (by first | exact Or.inl rfl | exact Or.inr rfl) (pe_ix (ix_listK K rfl) (pe_lst (pa_cons (pv 4) (pa_cons (pe_ix (ix_listK K rfl) (pv 6) (pe_call (ok__law_coin Y) (hr.mono (by decide)) (by rfl) Y.d__law_coin.g Y.d__law_coin.kp Y.d__law_coin.b .nil pass0 (pa_cons (pv 2) (pa_cons (pe_callB (call_lenK K rfl) (by rfl) Y.b.len (by decide +kernel) (pa_cons (pv 6) pa_nil)) pa_nil))) (fun _ _ => rfl)) pa_nil))) (pe_call (ok__law_coin Y) (hr.mono (by decide)) (by rfl) Y.d__law_coin.g Y.d__law_coin.kp Y.d__law_coin.b .nil pass0 (pa_cons (pv 2) (pa_cons pe_int pa_nil))) (fun _ _ => rfl)))
      (pss_one (ps_if (pt_not (pt_val (pe_callG (ok__law_refused Y Z hm) hg (hr.mono (by decide)) (by rfl) Y.d__law_refused.g Y.d__law_refused.kp Y.d__law_refused.b pass0 (pa_cons (pv 7) (pa_cons (pv 8) (pa_cons (pe_op op_rep (pe_lst (pa_cons pe_str pa_nil)) pe_int) pa_nil)))))) (pss_one (ps_ret pe_bl)) pss_nil))))
      (pss_cons (ps_for PassesOwn.never rfl (pi_listK K rfl (pv 6)) (pg_name (i := 7) sc_law.nd rfl (by first | exact Or.inl rfl | exact Or.inr rfl)) (pss_one (ps_if (pt_not (pt_val (pe_callG (ok__law_refused Y Z hm) hg (hr.mono (by decide)) (by rfl) Y.d__law_refused.g Y.d__law_refused.kp Y.d__law_refused.b pass0 (pa_cons (pv 3) (pa_cons (pv 7) (pa_cons (pe_lst (pa_cons pe_str (pa_cons pe_str (pa_cons pe_str pa_nil)))) pa_nil)))))) (pss_one (ps_ret pe_bl)) pss_nil)))
      (pss_one (ps_if (pt_not (pt_val (pe_callG (ok__law_refused Y Z hm) hg (hr.mono (by decide)) (by rfl) Y.d__law_refused.g Y.d__law_refused.kp Y.d__law_refused.b pass0 (pa_cons (pv 3) (pa_cons (pv 4) (pa_cons (pe_op op_rep (pe_lst (pa_cons pe_str pa_nil)) pe_int) pa_nil)))))) (pss_one (ps_ret pe_bl)) pss_nil)))))))))))))
      (pss_one (ps_ret pe_bl))), ?_⟩
    refine st_seq (st_for ?_)
    refine ⟨.ref a, rfl, a, _, rfl, .inl ha, _, _, rfl, _, _, rfl, _, rfl, ?_, ?_, ?_⟩
    · split <;> omega
    · rw [List.length_map]
      split <;> (try split) <;> omega
    have hN : ∀ i : Nat, i < (if (if (((ns.map V.int).length : Nat) : Int) < 4 then (((ns.map V.int).length : Nat) : Int) else 4) > 1 then (if (((ns.map V.int).length : Nat) : Int) < 4 then (((ns.map V.int).length : Nat) : Int) else 4) else 1 : Int).toNat → i < 4 := fun i hi => by
      split at hi <;> (try split at hi) <;> omega
    generalize (if (if (((ns.map V.int).length : Nat) : Int) < 4 then (((ns.map V.int).length : Nat) : Int) else 4) > 1 then (if (((ns.map V.int).length : Nat) : Int) < 4 then (((ns.map V.int).length : Nat) : Int) else 4) else 1 : Int) = N0 at hN ⊢
    refine for_gen (itr_at N0.toNat) (B := []) (Iv := fun i σ' H' => ∃ y1 y2 y3 y4 y5 y6 y7 y8 y9, σ' = [some (.ref a), y1, y2, y3, y4, y5, y6, y7, y8, y9]) ⟨_, _, _, _, _, _, _, _, _, rfl⟩ (fun i σ' H1 hi k1 ⟨y1, y2, y3, y4, y5, y6, y7, y8, y9, e⟩ Nn hNn => ?_) fun σ' H1 k1 ⟨y1, y2, y3, y4, y5, y6, y7, y8, y9, e⟩ => ?_
    · subst e
      have hi4 := hN i hi
      refine st_name (st_seq ?_)
      refine ⟨.ref a, rfl, .int i, rfl, a, ns, i, rfl, sqL_kx ha k1, by omega, hl, fun p H2 k2 hp pu => ?_⟩
      have k12 := k1.trans k2
      have A2 : At (Ts ta) [p] p 0 H2 := ⟨fun c hc => by rw [List.mem_singleton.mp hc]; exact pu.ne, by simp, pu, hT.kx k12⟩
      refine ⟨.ref p, rfl, p, 0, [p], 10, 14, rfl, by decide, by decide, by decide, by decide, by decide, A2, fun v d H3 k3 A3 t3 g3 => ?_⟩
      obtain ⟨D, rfl, hD, dsm⟩ := day_typed (by decide) (by decide) g3
      obtain ⟨ad, xd, rfl, ed, td⟩ := t3.tupV
      refine st_name ?_
      dsimp only
      refine st_set ⟨.ref p, rfl, .ref ad, rfl, p, _, [p], .ref ad, D, rfl, by omega, A3, t3, hD.ok, fun Fq qs H4 k4 A4 t4 dr pl => ?_⟩
      dsimp only
      have d4 := A3.tr t3 k4
      have b14 := hD.ok.bl
      have lq := dr.len
      have smq : Sm 14 1000000 71 2 (.list (qs.map passD)) := Sm.list (N := 14) (S := 5) (D := 1) (fun d hd => by obtain ⟨p, hp, rfl⟩ := List.mem_map.mp hd; exact sm_pass hD.ok (by decide) (by decide) (dr.ok p hp)) (by rw [List.length_map]; omega) (by decide)
      have sD : SD 21 (dayD D) := dsm.mono (by decide) (by decide) (by decide) (by decide)
      have sQ : SD 20 (.list (qs.map passD)) := smq.mono (by decide) (by decide) (by decide) (by decide)
      have wo : ∀ door, Word (dayD D) (.list (qs.map passD)) door "none" := fun door => .inr ⟨D, rfl, hD.ok, hD.b, .inl ⟨pl.b, rfl⟩⟩
      refine st_lit [some (.ref a), some (.int i), some (.ref p), some (.ref ad), some (.ref Fq), y5, y6, y7, y8, y9] rfl ?_
      refine st_seq (st_ifs (st_not (st_b (st_call (st_cons ⟨.ref ad, rfl, st_cons ⟨.ref Fq, rfl, st_cons (rep3 fun S5 H5 k5 e5 => st_nil (refuse (d4.nil.up k5) sD (t4.nil.up k5) (sQ.up (by decide)) (A4.kx k5).tb e5 (wo 0) (wo 1) (wo 2) fun H6 k6 => ⟨_, rfl, ?_⟩))⟩⟩)))))
      refine iteF (st_next ?_)
      dsimp only
      have k46 := k5.trans k6
      have A6 := A4.kx k46
      have d6 := d4.up k46
      have q6 := t4.up k46
      -- the days
      refine st_set (st_op (lc_use ⟨_, rfl, by decide, by decide, ?_⟩))
      refine lc_pu (itr_at (8 : Int).toNat) (by decide) 50 (SD 21) true A6 (fun D1 j Hs hD1 hj ks As R R0 hR hR0 => ?_) fun F1 fs H7 k7 A7 t7 l7 _ g7 => ?_
      · have hj : j < 8 := hj
        refine ⟨rfl, st_yes ⟨.ref p, rfl, .ref ad, rfl, 4, by decide, p, _, _, .ref ad, dayD D, 20, 1000000, 400, rfl, by omega, As, ?_, dsm, by decide, by decide, fun b3 e3 H' k' A' t' g' => hR _ _ H' k' (A'.mono (by omega)) t' (g'.mono (Nat.le_refl _) (Nat.le_refl _) (Nat.le_refl _) (Nat.le_refl _))⟩⟩
        exact Tr.kx ks (fun b hb => by rw [List.mem_singleton.mp hb]; exact List.mem_cons_of_mem _ A6.mem) _ _ (avoid hD1 _ _ d6)
      have d7 := A6.tr d6 k7
      have q7 := A6.tr q6 k7
      refine lit_use (C := [p]) (lit_lst A7.al (lit_cons lit_non (lit_cons lit_int (lit_cons lit_str (lit_cons (lit_lst A7.al lit_nil (by decide)) (lit_cons (lit_tup A7.al lit_nil (by decide)) (lit_cons (lit_listT A7.al rfl d7) (lit_cons (lit_catT A7.al rfl d7 (by simp) (by simp)) lit_nil))))))) (Nat.le_of_ble_eq_true rfl)) fun vL H8 k8 t8 => ?_
      have one := Sm.itemsT (show Sm 20 1000000 400 4 (.tuple [.int D.hours, .list (D.stores.map .int), .list (D.sights.map sightD), .list (D.asks.map optD), .list (D.blocks.map blkD)]) from dsm)
      have sI : ∀ {L : Nat} {x : Int}, x.natAbs ≤ 1001000000 → SD L (.int x) := fun h => (Sm.int h).mono (Nat.le_refl _) (Nat.le_refl _) (by decide) (by decide)
      have sN : ∀ {L : Nat}, SD L .none := fun {L} => Sm.none.mono (Nat.le_refl _) (Nat.le_refl _) (by decide) (by decide)
      have gl : ∀ d ∈ ([.none, .int 7, .str "day", .list [], .tuple [], .list [.int D.hours, .list (D.stores.map .int), .list (D.sights.map sightD), .list (D.asks.map optD), .list (D.blocks.map blkD)], .tuple [.int D.hours, .list (D.stores.map .int), .list (D.sights.map sightD), .list (D.asks.map optD), .list (D.blocks.map blkD), .int 1]] : List PyData), SD 21 d := fun d hd => by
        simp only [List.mem_cons, List.not_mem_nil, or_false] at hd
        rcases hd with rfl | rfl | rfl | rfl | rfl | rfl | rfl
        · exact sN
        · exact sI (by decide)
        · exact (Sm.str (by decide +kernel)).mono (Nat.le_refl _) (Nat.le_refl _) (by decide) (by decide)
        · exact (Sm.list (ds := []) (N := 0) (S := 0) (D := 0) (fun _ z => nomatch z) (by decide) (by decide)).mono (Nat.le_refl _) (Nat.le_refl _) (by decide) (by decide)
        · exact (Sm.tuple (ds := []) (N := 0) (S := 0) (D := 0) (fun _ z => nomatch z) (by decide) (by decide)).mono (Nat.le_refl _) (Nat.le_refl _) (by decide) (by decide)
        · exact (Sm.mkList one.1 one.2.1 one.2.2 (by decide)).mono (by decide) (by decide) (by decide) (by decide)
        · refine (Sm.mkTuple (L := 20) (M := 1000000) (S := 401) (D := 4) (by simp) ?_ (fun d hd => ?_) (by decide)).mono (by decide) (by decide) (by decide) (by decide)
          · have h := one.2.1
            simp only [szAll, sz] at h ⊢
            omega
          · have h := one.2.2
            simp only [List.mem_cons, List.not_mem_nil, or_false] at hd h
            rcases hd with rfl | rfl | rfl | rfl | rfl | rfl
            · exact h _ (.inl rfl)
            · exact h _ (.inr (.inl rfl))
            · exact h _ (.inr (.inr (.inl rfl)))
            · exact h _ (.inr (.inr (.inr (.inl rfl))))
            · exact h _ (.inr (.inr (.inr (.inr rfl))))
            · exact ⟨(Sm.int (L := 20) (M := 1000000) (i := 1) (by decide)).bd, by decide⟩
      have A8 := A7.kx k8
      refine cat_tr A8.al (t7.up k8) t8 (by simp; omega) fun S9 H9 k9 t9 => ?_
      have g9 : ∀ d ∈ fs ++ ([.none, .int 7, .str "day", .list [], .tuple [], .list [.int D.hours, .list (D.stores.map .int), .list (D.sights.map sightD), .list (D.asks.map optD), .list (D.blocks.map blkD)], .tuple [.int D.hours, .list (D.stores.map .int), .list (D.sights.map sightD), .list (D.asks.map optD), .list (D.blocks.map blkD), .int 1]] : List PyData), SD 21 d := fun d hd => (List.mem_append.mp hd).elim (g7 d) (gl d)
      have l9 : (fs ++ ([.none, .int 7, .str "day", .list [], .tuple [], .list [.int D.hours, .list (D.stores.map .int), .list (D.sights.map sightD), .list (D.asks.map optD), .list (D.blocks.map blkD)], .tuple [.int D.hours, .list (D.stores.map .int), .list (D.sights.map sightD), .list (D.asks.map optD), .list (D.blocks.map blkD), .int 1]] : List PyData)).length ≤ 15 := by
        have : fs.length ≤ 8 := l7
        simp only [List.length_append, List.length_cons, List.length_nil]
        omega
      have t9 : Tr [p] H9 (.ref S9) (.list (fs ++ ([.none, .int 7, .str "day", .list [], .tuple [], .list [.int D.hours, .list (D.stores.map .int), .list (D.sights.map sightD), .list (D.asks.map optD), .list (D.blocks.map blkD)], .tuple [.int D.hours, .list (D.stores.map .int), .list (D.sights.map sightD), .list (D.asks.map optD), .list (D.blocks.map blkD), .int 1]] : List PyData))) := t9
      generalize fs ++ ([.none, .int 7, .str "day", .list [], .tuple [], .list [.int D.hours, .list (D.stores.map .int), .list (D.sights.map sightD), .list (D.asks.map optD), .list (D.blocks.map blkD)], .tuple [.int D.hours, .list (D.stores.map .int), .list (D.sights.map sightD), .list (D.asks.map optD), .list (D.blocks.map blkD), .int 1]] : List PyData) = es at t9 g9 l9
      clear gl t8 t7 g7 one
      have A9 := A8.kx k9
      have k79 := k8.trans k9
      have d9 := d7.up k79
      have q9 := q7.up k79
      obtain ⟨xs9, ex9, tx9⟩ := t9.items
      refine st_lit [some (.ref a), some (.int i), some (.ref p), some (.ref ad), some (.ref Fq), some (.ref S9), y6, y7, y8, y9] rfl ?_
      refine st_set (lc_use ⟨.ref S9, rfl, S9, rfl, ⟨_, SqL.of ex9⟩, ?_⟩)
      refine lc_filtC (C := [p]) (fun d => !isDayB d) A9.al ex9 tx9 (by unfold sizeLine; omega) (fun x d H' hd t k R R0 hR hR0 => ?_) fun Ds Ha ka nDs ta' => ?_
      · exact ⟨rfl, st_not (st_b (st_call (st_cons ⟨x, rfl, st_nil ⟨x, d, rfl, t.nil, (g9 d hd).sz, fun H'' k2 => ⟨_, rfl, ite2 (fun z => ⟨x, rfl, hR z H'' k2⟩) (fun z => hR0 (Bool.eq_false_iff.mpr z) H'' k2)⟩⟩⟩)))⟩
      have ga : ∀ d ∈ es.filter (fun d => !isDayB d), SD 21 d ∧ isDayB d = false := fun d hd => by
        obtain ⟨h1, h2⟩ := List.mem_filter.mp hd
        exact ⟨g9 d h1, by simpa using h2⟩
      have la : (es.filter fun d => !isDayB d).length ≤ 15 := Nat.le_trans (List.length_filter_le _ _) l9
      generalize (es.filter fun d => !isDayB d) = ds at ta' ga la
      have Aa := A9.kx ka
      have da := d9.up ka
      have qa := q9.up ka
      refine st_lit [some (.ref a), some (.int i), some (.ref p), some (.ref ad), some (.ref Fq), some (.ref Ds), y6, y7, y8, y9] rfl ?_
      -- the plans
      refine st_set (st_op (lc_use ⟨_, rfl, by decide, by decide, ?_⟩))
      refine lc_pu (itr_at (8 : Int).toNat) (by decide) 30 (SD 20) true Aa (fun D1 j Hs hD1 hj ks As R R0 hR hR0 => ?_) fun F2 fs2 Hb kb Ab tb lb _ gb => ?_
      · have hj : j < 8 := hj
        refine ⟨rfl, st_yes ⟨.ref p, rfl, .ref Fq, rfl, 2, by decide, p, _, _, .ref Fq, _, 14, 1000000, 71, rfl, by omega, As, ?_, smq, by decide, by decide, fun b3 e3 H' k' A' t' g' => hR _ _ H' k' (A'.mono (by omega)) t' (g'.mono (by decide) (Nat.le_refl _) (by decide) (by decide))⟩⟩
        exact Tr.kx ks (fun b hb => by rw [List.mem_singleton.mp hb]; exact List.mem_cons_of_mem _ Aa.mem) _ _ (avoid hD1 _ _ qa)
      have db := Aa.tr da kb
      have qb := Aa.tr qa kb
      have tDb := Aa.tr ta' kb
      refine lit_use (C := [p]) (lit_lst Ab.al (lit_cons lit_non (lit_cons lit_int (lit_cons lit_str (lit_cons (lit_tup Ab.al lit_nil (by decide)) (lit_cons (lit_tupL Ab.al (lit_var rfl qb)) (lit_cons (lit_lst Ab.al (lit_cons lit_non lit_nil) (by decide)) (lit_cons (lit_lst Ab.al (lit_cons (lit_tup Ab.al (lit_cons lit_int (lit_cons lit_int (lit_cons lit_int lit_nil))) (by decide)) lit_nil) (by decide)) lit_nil))))))) (Nat.le_of_ble_eq_true rfl)) fun vP Hc kc tc => ?_
      have gl : ∀ d ∈ ([.none, .int 7, .str "plan", .tuple [], .tuple (qs.map passD), .list [.none], .list [.tuple [.int 0, .int 0, .int 0]]] : List PyData), SD 20 d := fun d hd => by
        simp only [List.mem_cons, List.not_mem_nil, or_false] at hd
        rcases hd with rfl | rfl | rfl | rfl | rfl | rfl | rfl
        · exact sN
        · exact sI (by decide)
        · exact (Sm.str (by decide +kernel)).mono (Nat.le_refl _) (Nat.le_refl _) (by decide) (by decide)
        · exact (Sm.tuple (ds := []) (N := 0) (S := 0) (D := 0) (fun _ z => nomatch z) (by decide) (by decide)).mono (Nat.le_refl _) (Nat.le_refl _) (by decide) (by decide)
        · have h := Sm.items smq
          exact (Sm.mkTuple h.1 h.2.1 h.2.2 (by decide)).mono (by decide) (by decide) (by decide) (by decide)
        · exact (Sm.list (N := 1) (S := 1) (D := 0) (fun d hd => by rw [List.mem_singleton.mp hd]; exact Sm.none) (by decide) (by decide)).mono (Nat.le_refl _) (Nat.le_refl _) (by decide) (by decide)
        · refine (Sm.list (N := 1) (S := 4) (D := 1) (fun d hd => ?_) (by decide) (by decide)).mono (Nat.le_refl _) (Nat.le_refl _) (by decide) (by decide)
          rw [List.mem_singleton.mp hd]
          refine Sm.tuple (N := 3) (S := 1) (D := 0) (fun d hd => ?_) (by decide) (by decide)
          simp only [List.mem_cons, List.not_mem_nil, or_false] at hd
          rcases hd with rfl | rfl | rfl <;> exact Sm.int (by decide)
      have Ac := Ab.kx kc
      refine cat_tr Ac.al (tb.up kc) tc (by have : fs2.length ≤ 8 := lb; simp; omega) fun Sd Hd kd td2 => ?_
      have gd : ∀ d ∈ fs2 ++ ([.none, .int 7, .str "plan", .tuple [], .tuple (qs.map passD), .list [.none], .list [.tuple [.int 0, .int 0, .int 0]]] : List PyData), SD 20 d := fun d hd => (List.mem_append.mp hd).elim (gb d) (gl d)
      have ld : (fs2 ++ ([.none, .int 7, .str "plan", .tuple [], .tuple (qs.map passD), .list [.none], .list [.tuple [.int 0, .int 0, .int 0]]] : List PyData)).length ≤ 15 := by
        have : fs2.length ≤ 8 := lb
        simp only [List.length_append, List.length_cons, List.length_nil]
        omega
      have hn : PyData.none ∈ fs2 ++ ([.none, .int 7, .str "plan", .tuple [], .tuple (qs.map passD), .list [.none], .list [.tuple [.int 0, .int 0, .int 0]]] : List PyData) := List.mem_append_right _ (by simp)
      have td2 : Tr [p] Hd (.ref Sd) (.list (fs2 ++ ([.none, .int 7, .str "plan", .tuple [], .tuple (qs.map passD), .list [.none], .list [.tuple [.int 0, .int 0, .int 0]]] : List PyData))) := td2
      generalize fs2 ++ ([.none, .int 7, .str "plan", .tuple [], .tuple (qs.map passD), .list [.none], .list [.tuple [.int 0, .int 0, .int 0]]] : List PyData) = es2 at td2 gd ld hn
      clear gl tc tb gb
      have Ad := Ac.kx kd
      have kbd := kc.trans kd
      have dd' := db.up kbd
      have qd := qb.up kbd
      have tDd := tDb.up kbd
      obtain ⟨xsd, exd, txd⟩ := td2.items
      refine st_lit [some (.ref a), some (.int i), some (.ref p), some (.ref ad), some (.ref Fq), some (.ref Ds), some (.ref Sd), y7, y8, y9] rfl ?_
      refine st_set (lc_use ⟨.ref Sd, rfl, Sd, rfl, ⟨_, SqL.of exd⟩, ?_⟩)
      refine lc_filtC (C := [p]) (fun d => !planB D d) Ad.al exd txd (by unfold sizeLine; omega) (fun x d H' hd t k R R0 hR hR0 => ?_) fun Ps He ke nPs te' => ?_
      · exact ⟨rfl, st_not (st_b (st_call (st_cons ⟨.ref ad, rfl, st_cons ⟨x, rfl, st_nil ⟨.ref ad, D, x, d, rfl, dd'.nil.up k, hD.ok, t.nil, (gd d hd).sz, (gd d hd).len, fun H'' k2 => ⟨_, rfl, ite2 (fun z => ⟨x, rfl, hR z H'' k2⟩) (fun z => hR0 (Bool.eq_false_iff.mpr z) H'' k2)⟩⟩⟩⟩)))⟩
      have ge : ∀ d ∈ es2.filter (fun d => !planB D d), SD 20 d ∧ planB D d = false := fun d hd => by
        obtain ⟨h1, h2⟩ := List.mem_filter.mp hd
        exact ⟨gd d h1, by simpa using h2⟩
      have le : (es2.filter fun d => !planB D d).length ≤ 15 := Nat.le_trans (List.length_filter_le _ _) ld
      have hpos : 0 < (es2.filter fun d => !planB D d).length := List.length_pos_of_mem (List.mem_filter.mpr ⟨hn, rfl⟩)
      generalize (es2.filter fun d => !planB D d) = ps at te' ge le hpos
      have Ae : At (Ts ta) [p] p 30000 He := (Ad.kx ke).mono (by decide)
      have de := dd'.up ke
      have qe := qd.up ke
      have tDe := tDd.up ke
      have xD := tDe.items
      obtain ⟨xD, eD, tD⟩ := xD
      obtain ⟨xP, eP, tP⟩ := te'.items
      have lP := tP.length
      have lD := tD.length
      have nDp : Ds ∉ [p] := Ae.nepT tDe
      have nPp : Ps ∉ [p] := Ae.nepT te'
      refine st_lit [some (.ref a), some (.int i), some (.ref p), some (.ref ad), some (.ref Fq), some (.ref Ds), some (.ref Ps), y7, y8, y9] rfl ?_
      -- no days
      refine st_seq (st_for (st_ilist ⟨.ref Ds, rfl, Ds, rfl, ⟨_, SqL.of eD⟩, ?_⟩))
      refine for_gen (itl_at eD nDp) (B := [p]) (Iv := fun j σ' H' => (∃ z7 z8 z9, σ' = [some (.ref a), some (.int i), some (.ref p), some (.ref ad), some (.ref Fq), some (.ref Ds), some (.ref Ps), z7, z8, z9]) ∧ At (Ts ta) [p] p (30000 + j * 2) H')
        ⟨⟨_, _, _, rfl⟩, Ae⟩ (fun j σ' Hf hj kf ⟨⟨z7, z8, z9, e⟩, Af⟩ Nm hNm => ?_) fun σ' Hf kf ⟨⟨z7, z8, z9, e⟩, Af⟩ => ?_
      · subst e
        have hj15 : j < 15 := by omega
        rw [getD_at _ _ hj]
        obtain ⟨d, hd, hx0⟩ := tD.get (List.getElem?_eq_getElem hj)
        obtain ⟨sd, hday⟩ := ga d (List.mem_of_getElem? hd)
        generalize xD[j] = x at hx0
        have hxf := Ae.tr hx0 kf
        have qf := Ae.tr qe kf
        have tPf := Ae.trs tP kf
        refine st_name ?_
        dsimp only
        refine st_lit [some (.ref a), some (.int i), some (.ref p), some (.ref ad), some (.ref Fq), some (.ref Ds), some (.ref Ps), some x, z8, z9] rfl ?_
        refine st_set (st_op (st_lst (st_cons ⟨.ref Fq, rfl, st_cons ?_⟩)))
        refine st_op ⟨.ref Ps, rfl, .ref p, rfl, .ref Ps, rfl, Ps, xP, rfl, .inl (SqL.of (kf.lst nPp eP)), p, _, _, [p], rfl, by omega, by omega, by omega, Af, fun r Hg r0 r1 kg Ag => ?_⟩
        have hr : r.toNat < xP.length := by omega
        obtain ⟨dp, hdp, hx1⟩ := (Af.trs tPf kg).get (List.getElem?_eq_getElem hr)
        have ix := atI_nat (List.getElem?_eq_getElem hr)
        rw [show ((r.toNat : Nat) : Int) = r by omega] at ix
        obtain ⟨sp, _⟩ := ge dp (List.mem_of_getElem? hdp)
        generalize xP[r.toNat] = xr at ix hx1
        refine ⟨Ps, xP, r, xr, rfl, rfl, SqL.of (kg.lst nPp (kf.lst nPp eP)), ix, st_nil ⟨len_ok, fun L hL => ?_⟩⟩
        have kh : Kx [] Hg (upd Hg L (.lst [.ref Fq, xr])) := Kx.new hL
        have eh : upd Hg L (.lst [.ref Fq, xr]) L = some (.lst [.ref Fq, xr]) := upd_same
        have nL := Ag.nep hL
        generalize upd Hg L (.lst [.ref Fq, xr]) = Hh at kh eh ⊢
        have Ah := Ag.kx kh
        refine ⟨.ref p, rfl, p, _, 2, [p], rfl, by decide, by decide, by omega, Ah, fun r' Hi r0' r1' ki Ai => ?_⟩
        have kfi : Kx [p] Hf Hi := (kg.trans kh.of).trans ki
        obtain ⟨vo, dq, io, to_, so⟩ : ∃ (vo : V) (dq : PyData), atI [V.ref Fq, xr] r' = some vo ∧ Tr [p] Hi vo dq ∧ SD 20 dq := by
          have : r' = 0 ∨ r' = 1 := by omega
          rcases this with rfl | rfl
          · exact ⟨.ref Fq, _, rfl, Af.tr qf kfi, sQ⟩
          · exact ⟨xr, _, rfl, Ah.tr (hx1.up kh) ki, sp⟩
        refine ⟨L, _, r', vo, rfl, rfl, SqL.of (ki.lst nL eh), io, ?_⟩
        refine st_lit [some (.ref a), some (.int i), some (.ref p), some (.ref ad), some (.ref Fq), some (.ref Ds), some (.ref Ps), some x, some vo, z9] rfl ?_
        have hxi := Af.tr hxf kfi
        have wd : ∀ door, Word d dq door "NoDay" := fun door => .inl ⟨hday, rfl⟩
        refine st_ifs (st_not (st_b (st_call (st_cons ⟨x, rfl, st_cons ⟨vo, rfl, st_cons (rep3 fun S5 Hj kj ej => st_nil (refuse (hxi.nil.up kj) sd (to_.nil.up kj) (so.up (by decide)) (Ai.kx kj).tb ej (wd 0) (wd 1) (wd 2) fun Hk kk => ⟨_, rfl, ?_⟩))⟩⟩))))
        refine iteF (st_next (hNm _ _ ((kf.trans kfi).trans (kj.trans kk).of) ⟨⟨_, _, _, rfl⟩, (Ai.kx (kj.trans kk)).mono (by omega)⟩))
      · subst e
        dsimp only
        have df := (Ae.tr de kf).nil
        have qf := (Ae.tr qe kf).nil
        have eP2 := kf.lst nPp eP
        have tP2 := Ae.trs tP kf
        have T2 := Af.tb
        -- no plans
        refine st_seq (st_for (st_ilist ⟨.ref Ps, rfl, Ps, rfl, ⟨_, SqL.of eP2⟩, ?_⟩))
        refine for_gen (itl_at eP2 (by simp)) (B := []) (Iv := fun j σ' H' => ∃ z7, σ' = [some (.ref a), some (.int i), some (.ref p), some (.ref ad), some (.ref Fq), some (.ref Ds), some (.ref Ps), z7, z8, z9])
          ⟨_, rfl⟩ (fun j σ' Hg hj kg ⟨z7, e⟩ Nm hNm => ?_) fun σ' Hg kg ⟨z7, e⟩ => ?_
        · subst e
          rw [getD_at _ _ hj]
          obtain ⟨d, hd, hx0⟩ := tP2.get (List.getElem?_eq_getElem hj)
          obtain ⟨sp, hpl⟩ := ge d (List.mem_of_getElem? hd)
          generalize xP[j] = x at hx0
          have hx := (hx0.up kg).nil
          refine st_name ?_
          dsimp only
          refine st_lit [some (.ref a), some (.int i), some (.ref p), some (.ref ad), some (.ref Fq), some (.ref Ds), some (.ref Ps), some x, z8, z9] rfl ?_
          refine st_ifs (st_not (st_b (st_call (st_cons ⟨.ref ad, rfl, st_cons ⟨x, rfl, st_cons (st_lst (st_cons (st_c (st_cons (st_c (st_cons (st_c (st_nil ⟨len_ok, fun L hL => st_nil ?_⟩))))))))⟩⟩))))
          have kh : Kx [] Hg (upd Hg L (.lst [.str "none", .str "NoPlan", .str "NoPlan"])) := Kx.new hL
          refine refuse (w0 := "none") (w1 := "NoPlan") (w2 := "NoPlan") (df.up (kg.trans kh)) sD (hx.up kh) (sp.up (by decide)) (T2.kx (kg.trans kh)) upd_same (.inr ⟨D, rfl, hD.ok, hD.b, .inr (.inl ⟨hpl, rfl, rfl⟩)⟩) (.inr ⟨D, rfl, hD.ok, hD.b, .inr (.inr ⟨hpl, by decide, rfl⟩)⟩) (.inr ⟨D, rfl, hD.ok, hD.b, .inr (.inr ⟨hpl, by decide, rfl⟩)⟩) fun Hk kk => ⟨_, rfl, ?_⟩
          exact iteF (st_next (hNm _ _ (kg.trans (kh.trans kk)) ⟨_, rfl⟩))
        · subst e
          dsimp only
          refine st_ifs (st_not (st_b (st_call (st_cons ⟨.ref ad, rfl, st_cons ⟨.ref Fq, rfl, st_cons (rep3 fun S5 Hh kh eh => st_nil (refuse (df.up (kg.trans kh)) sD (qf.up (kg.trans kh)) (sQ.up (by decide)) (T2.kx (kg.trans kh)) eh (wo 0) (wo 1) (wo 2) fun Hk kk => ⟨_, rfl, ?_⟩))⟩⟩))))
          refine iteF (st_next (hNn _ _ ?_ ⟨_, _, _, _, _, _, _, _, _, rfl⟩))
          exact k1.trans (kx_drop k2 hp (k3.trans (k4.trans (k46.of.trans (k7.trans (k79.of.trans (ka.of.trans (kb.trans (kbd.of.trans (ke.of.trans (kf.trans (kg.trans (kh.trans kk)).of)))))))))))
    · subst e
      exact q H1
end
end Law

set_option Elab.async false
set_option linter.all false
set_option maxRecDepth 100000
set_option maxHeartbeats 0
namespace Law
open PySem PySem.Spec PyProof.Rows L2 GxR GX Tree Kit EndG Obj Txts Raised
/-! ### the head -/
def dd__wall : He.DefD := ⟨("_wall", none), "_wall", "_wall", defArgs s__wall, defBody s__wall, defScope s__wall, [], []⟩
def dd_is_number : He.DefD := ⟨("is_number", none), "is_number", "is_number", defArgs s_is_number, defBody s_is_number, defScope s_is_number, [], []⟩
def dd_is_whole : He.DefD := ⟨("is_whole", none), "is_whole", "is_whole", defArgs s_is_whole, defBody s_is_whole, defScope s_is_whole, [], []⟩
def dd_is_list : He.DefD := ⟨("is_list", none), "is_list", "is_list", defArgs s_is_list, defBody s_is_list, defScope s_is_list, [], []⟩
def dd_is_tuple : He.DefD := ⟨("is_tuple", none), "is_tuple", "is_tuple", defArgs s_is_tuple, defBody s_is_tuple, defScope s_is_tuple, [], []⟩
def dd_rises : He.DefD := ⟨("rises", none), "rises", "rises", defArgs s_rises, defBody s_rises, defScope s_rises, [], []⟩
def dd_is_day : He.DefD := ⟨("is_day", none), "is_day", "is_day", defArgs s_is_day, defBody s_is_day, defScope s_is_day, [], []⟩
def dd__are_stores : He.DefD := ⟨("_are_stores", none), "_are_stores", "_are_stores", defArgs s__are_stores, defBody s__are_stores, defScope s__are_stores, [], []⟩
def dd__are_sights : He.DefD := ⟨("_are_sights", none), "_are_sights", "_are_sights", defArgs s__are_sights, defBody s__are_sights, defScope s__are_sights, [], []⟩
def dd__is_sight : He.DefD := ⟨("_is_sight", none), "_is_sight", "_is_sight", defArgs s__is_sight, defBody s__is_sight, defScope s__is_sight, [], []⟩
def dd__are_heard : He.DefD := ⟨("_are_heard", none), "_are_heard", "_are_heard", defArgs s__are_heard, defBody s__are_heard, defScope s__are_heard, [], []⟩
def dd__are_asks : He.DefD := ⟨("_are_asks", none), "_are_asks", "_are_asks", defArgs s__are_asks, defBody s__are_asks, defScope s__are_asks, [], []⟩
def dd__are_blocks : He.DefD := ⟨("_are_blocks", none), "_are_blocks", "_are_blocks", defArgs s__are_blocks, defBody s__are_blocks, defScope s__are_blocks, [], []⟩
def dd_is_block : He.DefD := ⟨("is_block", none), "is_block", "is_block", defArgs s_is_block, defBody s_is_block, defScope s_is_block, [], []⟩
def dd_need_day : He.DefD := ⟨("need_day", none), "need_day", "need_day", defArgs s_need_day, defBody s_need_day, defScope s_need_day, [], []⟩
def dd_copy_of_day : He.DefD := ⟨("copy_of_day", none), "copy_of_day", "copy_of_day", defArgs s_copy_of_day, defBody s_copy_of_day, defScope s_copy_of_day, [], []⟩
def dd_is_plan : He.DefD := ⟨("is_plan", none), "is_plan", "is_plan", defArgs s_is_plan, defBody s_is_plan, defScope s_is_plan, [], []⟩
def dd__is_pass : He.DefD := ⟨("_is_pass", none), "_is_pass", "_is_pass", defArgs s__is_pass, defBody s__is_pass, defScope s__is_pass, [], []⟩
def dd_may_be_sent : He.DefD := ⟨("may_be_sent", none), "may_be_sent", "may_be_sent", defArgs s_may_be_sent, defBody s_may_be_sent, defScope s_may_be_sent, [], []⟩
def dd__clash_nowhere : He.DefD := ⟨("_clash_nowhere", none), "_clash_nowhere", "_clash_nowhere", defArgs s__clash_nowhere, defBody s__clash_nowhere, defScope s__clash_nowhere, [], []⟩
def dd__fit_stores : He.DefD := ⟨("_fit_stores", none), "_fit_stores", "_fit_stores", defArgs s__fit_stores, defBody s__fit_stores, defScope s__fit_stores, [], []⟩
def dd_kept_over : He.DefD := ⟨("kept_over", none), "kept_over", "kept_over", defArgs s_kept_over, defBody s_kept_over, defScope s_kept_over, [], []⟩
def dd_need_plan : He.DefD := ⟨("need_plan", none), "need_plan", "need_plan", defArgs s_need_plan, defBody s_need_plan, defScope s_need_plan, [], []⟩
def dd_gain_of : He.DefD := ⟨("gain_of", none), "gain_of", "gain_of", defArgs s_gain_of, defBody s_gain_of, defScope s_gain_of, [], []⟩
def dd_gain_of_passes : He.DefD := ⟨("gain_of_passes", none), "gain_of_passes", "gain_of_passes", defArgs s_gain_of_passes, defBody s_gain_of_passes, defScope s_gain_of_passes, [], []⟩
def dd__law_purse : He.DefD := ⟨("_law_purse", none), "_law_purse", "_law_purse", defArgs s__law_purse, defBody s__law_purse, defScope s__law_purse, [], []⟩
def dd__law_coin : He.DefD := ⟨("_law_coin", none), "_law_coin", "_law_coin", defArgs s__law_coin, defBody s__law_coin, defScope s__law_coin, [], []⟩
def dd__law_sight : He.DefD := ⟨("_law_sight", none), "_law_sight", "_law_sight", defArgs s__law_sight, defBody s__law_sight, defScope s__law_sight, [], []⟩
def dd__law_block : He.DefD := ⟨("_law_block", none), "_law_block", "_law_block", defArgs s__law_block, defBody s__law_block, defScope s__law_block, [], []⟩
def dd__law_day : He.DefD := ⟨("_law_day", none), "_law_day", "_law_day", defArgs s__law_day, defBody s__law_day, defScope s__law_day, [], []⟩
def dd__law_may : He.DefD := ⟨("_law_may", none), "_law_may", "_law_may", defArgs s__law_may, defBody s__law_may, defScope s__law_may, [], []⟩
def dd__law_passes : He.DefD := ⟨("_law_passes", none), "_law_passes", "_law_passes", defArgs s__law_passes, defBody s__law_passes, defScope s__law_passes, [], []⟩
def dd__law_over : He.DefD := ⟨("_law_over", none), "_law_over", "_law_over", defArgs s__law_over, defBody s__law_over, defScope s__law_over, [], []⟩
def dd__law_plan : He.DefD := ⟨("_law_plan", none), "_law_plan", "_law_plan", defArgs s__law_plan, defBody s__law_plan, defScope s__law_plan, [], []⟩
def dd__law_other : He.DefD := ⟨("_law_other", none), "_law_other", "_law_other", defArgs s__law_other, defBody s__law_other, defScope s__law_other, [], []⟩
def dd__law_bent_row : He.DefD := ⟨("_law_bent_row", none), "_law_bent_row", "_law_bent_row", defArgs s__law_bent_row, defBody s__law_bent_row, defScope s__law_bent_row, [], []⟩
def dd__law_bent : He.DefD := ⟨("_law_bent", none), "_law_bent", "_law_bent", defArgs s__law_bent, defBody s__law_bent, defScope s__law_bent, [], []⟩
def dd__law_whole : He.DefD := ⟨("_law_whole", none), "_law_whole", "_law_whole", defArgs s__law_whole, defBody s__law_whole, defScope s__law_whole, [], []⟩
def dd__law_each : He.DefD := ⟨("_law_each", none), "_law_each", "_law_each", defArgs s__law_each, defBody s__law_each, defScope s__law_each, [], []⟩
def dd__law_is_sight : He.DefD := ⟨("_law_is_sight", none), "_law_is_sight", "_law_is_sight", defArgs s__law_is_sight, defBody s__law_is_sight, defScope s__law_is_sight, [], []⟩
def dd__law_is_block : He.DefD := ⟨("_law_is_block", none), "_law_is_block", "_law_is_block", defArgs s__law_is_block, defBody s__law_is_block, defScope s__law_is_block, [], []⟩
def dd__law_is_day : He.DefD := ⟨("_law_is_day", none), "_law_is_day", "_law_is_day", defArgs s__law_is_day, defBody s__law_is_day, defScope s__law_is_day, [], []⟩
def dd__law_is_pass : He.DefD := ⟨("_law_is_pass", none), "_law_is_pass", "_law_is_pass", defArgs s__law_is_pass, defBody s__law_is_pass, defScope s__law_is_pass, [], []⟩
def dd__law_is_plan : He.DefD := ⟨("_law_is_plan", none), "_law_is_plan", "_law_is_plan", defArgs s__law_is_plan, defBody s__law_is_plan, defScope s__law_is_plan, [], []⟩
def dd__law_kinds : He.DefD := ⟨("_law_kinds", none), "_law_kinds", "_law_kinds", defArgs s__law_kinds, defBody s__law_kinds, defScope s__law_kinds, [], []⟩
def dd__law_word : He.DefD := ⟨("_law_word", none), "_law_word", "_law_word", defArgs s__law_word, defBody s__law_word, defScope s__law_word, [], []⟩
def dd__law_refused : He.DefD := ⟨("_law_refused", none), "_law_refused", "_law_refused", defArgs s__law_refused, defBody s__law_refused, defScope s__law_refused, [], []⟩
def dd_law : He.DefD := ⟨("law", none), "law", "law", defArgs s_law, defBody s_law, defScope s_law, [], []⟩
def dd_Sky___init__ : He.DefD := ⟨("Sky", some "__init__"), "__init__", "Sky.__init__", defArgs s_Sky___init__, defBody s_Sky___init__, defScope s_Sky___init__, [], []⟩
def dd_Sky_tick : He.DefD := ⟨("Sky", some "tick"), "tick", "Sky.tick", defArgs s_Sky_tick, defBody s_Sky_tick, defScope s_Sky_tick, [], []⟩
def dd_Sky_now : He.DefD := ⟨("Sky", some "now"), "now", "Sky.now", defArgs s_Sky_now, defBody s_Sky_now, defScope s_Sky_now, [], []⟩
def dd_Sky_aboard : He.DefD := ⟨("Sky", some "aboard"), "aboard", "Sky.aboard", defArgs s_Sky_aboard, defBody s_Sky_aboard, defScope s_Sky_aboard, [], []⟩
def dd_Sky_sent : He.DefD := ⟨("Sky", some "sent"), "sent", "Sky.sent", defArgs s_Sky_sent, defBody s_Sky_sent, defScope s_Sky_sent, [], []⟩
def dd_Sky_gain : He.DefD := ⟨("Sky", some "gain"), "gain", "Sky.gain", defArgs s_Sky_gain, defBody s_Sky_gain, defScope s_Sky_gain, [], []⟩
def dd_Sky__done : He.DefD := ⟨("Sky", some "_done"), "_done", "Sky._done", defArgs s_Sky__done, defBody s_Sky__done, defScope s_Sky__done, [], []⟩
def fns : List He.DefD := [dd__wall, dd_is_number, dd_is_whole, dd_is_list, dd_is_tuple, dd_rises, dd_is_day, dd__are_stores, dd__are_sights, dd__is_sight, dd__are_heard, dd__are_asks, dd__are_blocks, dd_is_block, dd_need_day, dd_copy_of_day, dd_is_plan, dd__is_pass, dd_may_be_sent, dd__clash_nowhere, dd__fit_stores, dd_kept_over, dd_need_plan, dd_gain_of, dd_gain_of_passes, dd__law_purse, dd__law_coin, dd__law_sight, dd__law_block, dd__law_day, dd__law_may, dd__law_passes, dd__law_over, dd__law_plan, dd__law_other, dd__law_bent_row, dd__law_bent, dd__law_whole, dd__law_each, dd__law_is_sight, dd__law_is_block, dd__law_is_day, dd__law_is_pass, dd__law_is_plan, dd__law_kinds, dd__law_word, dd__law_refused, dd_law, dd_Sky___init__, dd_Sky_tick, dd_Sky_now, dd_Sky_aboard, dd_Sky_sent, dd_Sky_gain, dd_Sky__done]
def fas : List He.Fa := [.glo "_wall", .glo "is_number", .glo "is_whole", .glo "is_list", .glo "is_tuple", .glo "rises", .glo "is_day", .glo "_are_stores", .glo "_are_sights", .glo "_is_sight", .glo "_are_heard", .glo "_are_asks", .glo "_are_blocks", .glo "is_block", .glo "need_day", .glo "copy_of_day", .glo "is_plan", .glo "_is_pass", .glo "may_be_sent", .glo "_clash_nowhere", .glo "_fit_stores", .glo "kept_over", .glo "need_plan", .glo "gain_of", .glo "gain_of_passes", .glo "_law_purse", .glo "_law_coin", .glo "_law_sight", .glo "_law_block", .glo "_law_day", .glo "_law_may", .glo "_law_passes", .glo "_law_over", .glo "_law_plan", .glo "_law_other", .glo "_law_bent_row", .glo "_law_bent", .glo "_law_whole", .glo "_law_each", .glo "_law_is_sight", .glo "_law_is_block", .glo "_law_is_day", .glo "_law_is_pass", .glo "_law_is_plan", .glo "_law_kinds", .glo "_law_word", .glo "_law_refused", .glo "law", .int "MOST_HOURS" 10, .int "MOST_CRAFT" 4, .int "MOST_STORE" 5, .int "MOST_DISHES" 3, .int "MOST_ASK" 999, .int "MOST_BLOCKS" 14, .int "MOST_HOUSE" 5, .int "MOST_WORTH" 9999, .free "len", .free "range", .free "isinstance", .free "int", .free "bool", .free "str", .free "list", .free "tuple", .free "set", .free "dict", .free "sorted", .free "repr", .free "max", .free "min", .free "sum", .free "all", .free "any", .free "ValueError", .cls "Sky", .glo "Sky", .mkr "Sky", .noat "Sky" "_day", .noat "Sky" "_plan", .noat "Sky" "_hour", .meth "Sky" "tick", .meth "Sky" "now", .meth "Sky" "aboard", .meth "Sky" "sent", .meth "Sky" "gain", .meth "Sky" "_done", .exc "NoDay", .exm "NoDay" "SkyError" true, .exc "NoPlan", .exm "NoPlan" "SkyError" true, .glo "DayOver", .glo "NoBlock", .glo "NoDay", .glo "NoHour", .glo "NoLost", .glo "NoName", .glo "NoNumbers", .glo "NoPlace", .glo "NoPlan", .glo "NoRests", .glo "NoRow", .glo "NoText", .glo "NoWorth", .glo "SkyError", .glo "TooMany"]
def tfs : List He.Defn := [("rises", none), ("_are_stores", none), ("_are_sights", none), ("_is_sight", none), ("_are_heard", none), ("_are_asks", none), ("_are_blocks", none), ("is_plan", none), ("_fit_stores", none)]
def looseN : List Str := (["_wall", "SkyError", "NoDay", "NoPlan", "NoNumbers", "NoRests", "NoLost", "NoBlock", "NoWorth", "NoHour", "TooMany", "DayOver", "NoName", "NoPlace", "NoRow", "NoText", "MOST_HOURS", "MOST_CRAFT", "MOST_STORE", "MOST_DISHES", "MOST_ASK", "MOST_BLOCKS", "MOST_HOUSE", "MOST_WORTH", "is_number", "is_whole", "is_list", "is_tuple", "rises", "is_day"] : List Str) ++ (["_are_stores", "_are_sights", "_is_sight", "_are_heard", "_are_asks", "_are_blocks", "is_block", "need_day", "copy_of_day", "is_plan", "_is_pass", "may_be_sent", "_clash_nowhere", "_fit_stores", "kept_over", "need_plan", "gain_of", "gain_of_passes", "Sky", "_law_purse", "_law_coin", "_law_sight", "_law_block", "_law_day", "_law_may", "_law_passes", "_law_over", "_law_plan", "_law_other", "_law_bent_row"] : List Str) ++ (["_law_bent", "_law_whole", "_law_each", "_law_is_sight", "_law_is_block", "_law_is_day", "_law_is_pass", "_law_is_plan", "_law_kinds", "_law_word", "_law_refused"] : List Str)
abbrev R : PySem.W.OpenRow := PySem.W.OpenLaw.row PySem.Challenge.rw_skyprices_k04_no_days_and_no_plans
def lawAt : Nat := 75
/-- sys.modules is a dict -/
def smB (g : Addr → Option Obj) : Bool := match g sysModules with
  | some o => decide (o.cls = .type "dict")
  | none => false
theorem smB_ok {h : Heap} (e : smB h.get? = true) : ∃ o, h.get? sysModules = some o ∧ o.cls = .type "dict" := by
  unfold smB at e
  cases q : h.get? sysModules with
  | none => rw [q] at e; cases e
  | some o => rw [q] at e; exact ⟨o, rfl, of_decide_eq_true e⟩
abbrev exT : PySem.W.Frag → Bool := fun K => (Caught.excIsB K (He.ga K "NoDay") && (decide (PySem.W.kitOne K (.ref (He.ga K "NoDay")) (.ref (He.ga K "NoDay")) = some true) && (decide (PySem.W.kitOne K (.ref (He.ga K "NoDay")) (.ref (He.ga K "NoPlan")) = some false) && (decide (PySem.W.kitOne K (.ref (He.ga K "NoDay")) (.ref (He.ga K "NoNumbers")) = some false) && (decide (PySem.W.kitOne K (.ref (He.ga K "NoDay")) (.ref (He.ga K "NoRests")) = some false) && (decide (PySem.W.kitOne K (.ref (He.ga K "NoDay")) (.ref (He.ga K "NoLost")) = some false) && (decide (PySem.W.kitOne K (.ref (He.ga K "NoDay")) (.ref (He.ga K "NoBlock")) = some false) && (decide (PySem.W.kitOne K (.ref (He.ga K "NoDay")) (.ref (He.ga K "NoWorth")) = some false) && (decide (PySem.W.kitOne K (.ref (He.ga K "NoDay")) (.ref (He.ga K "NoHour")) = some false) && (decide (PySem.W.kitOne K (.ref (He.ga K "NoDay")) (.ref (He.ga K "TooMany")) = some false) && (decide (PySem.W.kitOne K (.ref (He.ga K "NoDay")) (.ref (He.ga K "DayOver")) = some false) && (decide (PySem.W.kitOne K (.ref (He.ga K "NoDay")) (.ref (He.ga K "NoName")) = some false) && (decide (PySem.W.kitOne K (.ref (He.ga K "NoDay")) (.ref (He.ga K "NoPlace")) = some false) && (decide (PySem.W.kitOne K (.ref (He.ga K "NoDay")) (.ref (He.ga K "NoRow")) = some false) && (decide (PySem.W.kitOne K (.ref (He.ga K "NoDay")) (.ref (He.ga K "NoText")) = some false) && (decide (PySem.W.kitOne K (.ref (He.ga K "NoDay")) (.type "ValueError") = some true) && (Caught.excIsB K (He.ga K "NoPlan") && (decide (PySem.W.kitOne K (.ref (He.ga K "NoPlan")) (.ref (He.ga K "NoDay")) = some false) && (decide (PySem.W.kitOne K (.ref (He.ga K "NoPlan")) (.ref (He.ga K "NoPlan")) = some true) && (decide (PySem.W.kitOne K (.ref (He.ga K "NoPlan")) (.ref (He.ga K "NoNumbers")) = some false) && (decide (PySem.W.kitOne K (.ref (He.ga K "NoPlan")) (.ref (He.ga K "NoRests")) = some false) && (decide (PySem.W.kitOne K (.ref (He.ga K "NoPlan")) (.ref (He.ga K "NoLost")) = some false) && (decide (PySem.W.kitOne K (.ref (He.ga K "NoPlan")) (.ref (He.ga K "NoBlock")) = some false) && (decide (PySem.W.kitOne K (.ref (He.ga K "NoPlan")) (.ref (He.ga K "NoWorth")) = some false) && (decide (PySem.W.kitOne K (.ref (He.ga K "NoPlan")) (.ref (He.ga K "NoHour")) = some false) && (decide (PySem.W.kitOne K (.ref (He.ga K "NoPlan")) (.ref (He.ga K "TooMany")) = some false) && (decide (PySem.W.kitOne K (.ref (He.ga K "NoPlan")) (.ref (He.ga K "DayOver")) = some false) && (decide (PySem.W.kitOne K (.ref (He.ga K "NoPlan")) (.ref (He.ga K "NoName")) = some false) && (decide (PySem.W.kitOne K (.ref (He.ga K "NoPlan")) (.ref (He.ga K "NoPlace")) = some false) && (decide (PySem.W.kitOne K (.ref (He.ga K "NoPlan")) (.ref (He.ga K "NoRow")) = some false) && (decide (PySem.W.kitOne K (.ref (He.ga K "NoPlan")) (.ref (He.ga K "NoText")) = some false) && decide (PySem.W.kitOne K (.ref (He.ga K "NoPlan")) (.type "ValueError") = some true))))))))))))))))))))))))))))))))
def hookS (n : Nat) (fa : List He.Fa) (fn : List He.DefD) (tf : List He.Defn) : PySem.W.Hook where
  α := He.AlX × Bool
  obs := fun s => (He.obsX n fa fn [] tf exT s.heap.get?, smB s.heap.get?)
  val := fun w => (He.valX fn [] w, true)
  says := fun w h => (∃ K : PySem.W.Frag, K.In h ∧ He.SaysX fa fn [] tf exT w h K) ∧ ∃ o, h.get? sysModules = some o ∧ o.cls = .type "dict"
  of := fun _ _ e => ⟨⟨_, He.frT_in, He.saysX_of (congrArg (fun z : He.AlX × Bool => z.1) e)⟩, smB_ok (congrArg (fun z : He.AlX × Bool => z.2) e)⟩
  keeps := fun _ _ _ ⟨⟨K, hK, c⟩, o, e, c2⟩ k => ⟨⟨K, PySem.W.Frag.In.keeps hK k, ⟨c.t, c.more, c.hd, c.out, fun p hp => k _ _ (c.empty p hp)⟩⟩, o, k _ _ e, c2⟩
abbrev hk : PySem.W.Hook := hookS 6 fas fns tfs
def ob (s : PySem.W.SharedT) : He.AlX × Bool := (He.obsX 6 fas fns [] tfs exT (HandSHeadRun.getT s), smB (HandSHeadRun.getT s))
theorem ob_eq (s : PySem.W.SharedT) : ob s = hk.obs s.abs := by
  have e : HandSHeadRun.getT s = s.abs.heap.get? := funext (HandSHeadRun.getT_eq s)
  unfold ob
  rw [e]
  rfl
theorem run (w : World) : HandSHeadRun.RunEq R (PySem.W.view R.prog [lawAt]) hk ob 9000 looseN w := by
  intro os
  kernel_rfl
def fdOf (K : PySem.W.Frag) (d0 : FuncData) (x : String) : FuncData := match K.lookup (He.ga K x) with
  | some ⟨_, _, .func fd, _⟩ => fd
  | _ => d0
theorem fdOf_eq {K : PySem.W.Frag} {d0 : FuncData} {x : String} {q : Str} {pa : Arguments} {b : List Stmt} {sc : Scope} {fd : FuncData} (F : FunD K x q pa b sc [] [] (He.ga K x) fd) : fdOf K d0 x = fd := by
  obtain ⟨oc, od, dV, kV, doc, pm, an, cdv, ct, osl, rfl, lk, hcd, _, _⟩ := F.ex
  unfold fdOf
  rw [lk]
theorem code_at {K : PySem.W.Frag} {x : String} {q : Str} {pa : Arguments} {b : List Stmt} {sc : Scope} {fd : FuncData} (F : FunD K x q pa b sc [] [] (He.ga K x) fd) : fd.code = .ref (He.codeOf K (x, none)) := by
  obtain ⟨oc, od, dV, kV, doc, pm, an, cdv, ct, osl, rfl, lk, hcd, _, _⟩ := F.ex
  obtain ⟨c, rfl⟩ := He.codeIn_ref hcd
  rw [He.codeOf_eq (p := (x, none)) lk rfl]
theorem facts {w : World} {K : PySem.W.Frag} {h : Heap} {mg : Str → Option Value} (X : K.In h) (G : h.Ns mainGlobals mg) (c : He.SaysX fas fns [] tfs exT w h K) (d0 : FuncData) (base : Heap) (hB : ∀ p ∈ tfs.map (He.cT K), LamX.TabB base mg p.1 p.2) :
    Facts K mg base (fun x => He.ga K x) (fdOf K d0) (fun x => He.codeOf K (x, none)) (fun x => He.tabOf K (He.codeOf K (x, none))) := by
  have d := c.t.d
  obtain ⟨f__wall, F__wall⟩ := d.def_ 0 (d := dd__wall) rfl
  obtain ⟨f_is_number, F_is_number⟩ := d.def_ 1 (d := dd_is_number) rfl
  obtain ⟨f_is_whole, F_is_whole⟩ := d.def_ 2 (d := dd_is_whole) rfl
  obtain ⟨f_is_list, F_is_list⟩ := d.def_ 3 (d := dd_is_list) rfl
  obtain ⟨f_is_tuple, F_is_tuple⟩ := d.def_ 4 (d := dd_is_tuple) rfl
  obtain ⟨f_rises, F_rises⟩ := d.def_ 5 (d := dd_rises) rfl
  obtain ⟨f_is_day, F_is_day⟩ := d.def_ 6 (d := dd_is_day) rfl
  obtain ⟨f__are_stores, F__are_stores⟩ := d.def_ 7 (d := dd__are_stores) rfl
  obtain ⟨f__are_sights, F__are_sights⟩ := d.def_ 8 (d := dd__are_sights) rfl
  obtain ⟨f__is_sight, F__is_sight⟩ := d.def_ 9 (d := dd__is_sight) rfl
  obtain ⟨f__are_heard, F__are_heard⟩ := d.def_ 10 (d := dd__are_heard) rfl
  obtain ⟨f__are_asks, F__are_asks⟩ := d.def_ 11 (d := dd__are_asks) rfl
  obtain ⟨f__are_blocks, F__are_blocks⟩ := d.def_ 12 (d := dd__are_blocks) rfl
  obtain ⟨f_is_block, F_is_block⟩ := d.def_ 13 (d := dd_is_block) rfl
  obtain ⟨f_need_day, F_need_day⟩ := d.def_ 14 (d := dd_need_day) rfl
  obtain ⟨f_copy_of_day, F_copy_of_day⟩ := d.def_ 15 (d := dd_copy_of_day) rfl
  obtain ⟨f_is_plan, F_is_plan⟩ := d.def_ 16 (d := dd_is_plan) rfl
  obtain ⟨f__is_pass, F__is_pass⟩ := d.def_ 17 (d := dd__is_pass) rfl
  obtain ⟨f_may_be_sent, F_may_be_sent⟩ := d.def_ 18 (d := dd_may_be_sent) rfl
  obtain ⟨f__clash_nowhere, F__clash_nowhere⟩ := d.def_ 19 (d := dd__clash_nowhere) rfl
  obtain ⟨f__fit_stores, F__fit_stores⟩ := d.def_ 20 (d := dd__fit_stores) rfl
  obtain ⟨f_kept_over, F_kept_over⟩ := d.def_ 21 (d := dd_kept_over) rfl
  obtain ⟨f_need_plan, F_need_plan⟩ := d.def_ 22 (d := dd_need_plan) rfl
  obtain ⟨f_gain_of, F_gain_of⟩ := d.def_ 23 (d := dd_gain_of) rfl
  obtain ⟨f_gain_of_passes, F_gain_of_passes⟩ := d.def_ 24 (d := dd_gain_of_passes) rfl
  obtain ⟨f__law_purse, F__law_purse⟩ := d.def_ 25 (d := dd__law_purse) rfl
  obtain ⟨f__law_coin, F__law_coin⟩ := d.def_ 26 (d := dd__law_coin) rfl
  obtain ⟨f__law_sight, F__law_sight⟩ := d.def_ 27 (d := dd__law_sight) rfl
  obtain ⟨f__law_block, F__law_block⟩ := d.def_ 28 (d := dd__law_block) rfl
  obtain ⟨f__law_day, F__law_day⟩ := d.def_ 29 (d := dd__law_day) rfl
  obtain ⟨f__law_may, F__law_may⟩ := d.def_ 30 (d := dd__law_may) rfl
  obtain ⟨f__law_passes, F__law_passes⟩ := d.def_ 31 (d := dd__law_passes) rfl
  obtain ⟨f__law_over, F__law_over⟩ := d.def_ 32 (d := dd__law_over) rfl
  obtain ⟨f__law_plan, F__law_plan⟩ := d.def_ 33 (d := dd__law_plan) rfl
  obtain ⟨f__law_other, F__law_other⟩ := d.def_ 34 (d := dd__law_other) rfl
  obtain ⟨f__law_bent_row, F__law_bent_row⟩ := d.def_ 35 (d := dd__law_bent_row) rfl
  obtain ⟨f__law_bent, F__law_bent⟩ := d.def_ 36 (d := dd__law_bent) rfl
  obtain ⟨f__law_whole, F__law_whole⟩ := d.def_ 37 (d := dd__law_whole) rfl
  obtain ⟨f__law_each, F__law_each⟩ := d.def_ 38 (d := dd__law_each) rfl
  obtain ⟨f__law_is_sight, F__law_is_sight⟩ := d.def_ 39 (d := dd__law_is_sight) rfl
  obtain ⟨f__law_is_block, F__law_is_block⟩ := d.def_ 40 (d := dd__law_is_block) rfl
  obtain ⟨f__law_is_day, F__law_is_day⟩ := d.def_ 41 (d := dd__law_is_day) rfl
  obtain ⟨f__law_is_pass, F__law_is_pass⟩ := d.def_ 42 (d := dd__law_is_pass) rfl
  obtain ⟨f__law_is_plan, F__law_is_plan⟩ := d.def_ 43 (d := dd__law_is_plan) rfl
  obtain ⟨f__law_kinds, F__law_kinds⟩ := d.def_ 44 (d := dd__law_kinds) rfl
  obtain ⟨f__law_word, F__law_word⟩ := d.def_ 45 (d := dd__law_word) rfl
  obtain ⟨f__law_refused, F__law_refused⟩ := d.def_ 46 (d := dd__law_refused) rfl
  obtain ⟨f_law, F_law⟩ := d.def_ 47 (d := dd_law) rfl
  refine ⟨?_,
    ?_,
    ?_,
    ?_,
    ?_,
    ?_,
    ?_,
    ?_,
    ?_,
    ?_,
    ?_,
    ?_,
    ?_,
    ?_,
    ?_,
    ?_,
    ?_,
    ?_,
    ?_,
    ?_,
    ?_,
    ?_,
    ?_,
    ?_,
    ?_,
    ?_,
    ?_,
    ?_,
    ?_,
    ?_,
    ?_,
    ?_,
    ?_,
    ?_,
    ?_,
    ?_,
    ?_,
    ?_,
    ?_,
    ?_,
    ?_,
    ?_,
    ?_,
    ?_,
    ?_,
    ?_,
    ?_,
    ?_,
    ?_,
    ?_,
    ?_,
    ?_,
    ?_,
    ?_,
    ?_,
    ?_,
    ?_,
    ?_,
    ?_,
    ?_,
    ?_,
    ?_,
    ?_,
    ?_,
    ?_,
    ?_⟩
  · exact ⟨He.free_ok X G (d.fact 56 (f := .free "len") rfl), He.free_ok X G (d.fact 57 (f := .free "range") rfl), He.free_ok X G (d.fact 58 (f := .free "isinstance") rfl), He.free_ok X G (d.fact 59 (f := .free "int") rfl), He.free_ok X G (d.fact 60 (f := .free "bool") rfl), He.free_ok X G (d.fact 61 (f := .free "str") rfl), He.free_ok X G (d.fact 62 (f := .free "list") rfl), He.free_ok X G (d.fact 63 (f := .free "tuple") rfl), He.free_ok X G (d.fact 64 (f := .free "set") rfl), He.free_ok X G (d.fact 65 (f := .free "dict") rfl), He.free_ok X G (d.fact 66 (f := .free "sorted") rfl), He.free_ok X G (d.fact 67 (f := .free "repr") rfl), He.free_ok X G (d.fact 68 (f := .free "max") rfl), He.free_ok X G (d.fact 69 (f := .free "min") rfl), He.free_ok X G (d.fact 70 (f := .free "sum") rfl), He.free_ok X G (d.fact 71 (f := .free "all") rfl), He.free_ok X G (d.fact 72 (f := .free "any") rfl)⟩
  · exact He.int_ok X G (d.fact 48 (f := .int "MOST_HOURS" 10) rfl)
  · exact He.int_ok X G (d.fact 49 (f := .int "MOST_CRAFT" 4) rfl)
  · exact He.int_ok X G (d.fact 50 (f := .int "MOST_STORE" 5) rfl)
  · exact He.int_ok X G (d.fact 51 (f := .int "MOST_DISHES" 3) rfl)
  · exact He.int_ok X G (d.fact 52 (f := .int "MOST_ASK" 999) rfl)
  · exact He.int_ok X G (d.fact 53 (f := .int "MOST_BLOCKS" 14) rfl)
  · exact He.int_ok X G (d.fact 54 (f := .int "MOST_HOUSE" 5) rfl)
  · exact He.int_ok X G (d.fact 55 (f := .int "MOST_WORTH" 9999) rfl)
  · rw [fdOf_eq F__wall]
    exact ⟨F__wall, He.glo_ok X G (d.fact 0 (f := .glo "_wall") rfl), FunD.bindsN F__wall fun _ _ _ _ _ _ us hl => match us, hl with | [_], _ => rfl⟩
  · rw [fdOf_eq F_is_number]
    exact ⟨F_is_number, He.glo_ok X G (d.fact 1 (f := .glo "is_number") rfl), FunD.bindsN F_is_number fun _ _ _ _ _ _ us hl => match us, hl with | [_], _ => rfl⟩
  · rw [fdOf_eq F_is_whole]
    exact ⟨F_is_whole, He.glo_ok X G (d.fact 2 (f := .glo "is_whole") rfl), FunD.bindsN F_is_whole fun _ _ _ _ _ _ us hl => match us, hl with | [_, _, _], _ => rfl⟩
  · rw [fdOf_eq F_is_list]
    exact ⟨F_is_list, He.glo_ok X G (d.fact 3 (f := .glo "is_list") rfl), FunD.bindsN F_is_list fun _ _ _ _ _ _ us hl => match us, hl with | [_, _, _], _ => rfl⟩
  · rw [fdOf_eq F_is_tuple]
    exact ⟨F_is_tuple, He.glo_ok X G (d.fact 4 (f := .glo "is_tuple") rfl), FunD.bindsN F_is_tuple fun _ _ _ _ _ _ us hl => match us, hl with | [_, _], _ => rfl⟩
  · rw [fdOf_eq F_rises]
    exact ⟨F_rises, He.glo_ok X G (d.fact 5 (f := .glo "rises") rfl), FunD.bindsN F_rises fun _ _ _ _ _ _ us hl => match us, hl with | [_], _ => rfl⟩
  · rw [fdOf_eq F_is_day]
    exact ⟨F_is_day, He.glo_ok X G (d.fact 6 (f := .glo "is_day") rfl), FunD.bindsN F_is_day fun _ _ _ _ _ _ us hl => match us, hl with | [_], _ => rfl⟩
  · rw [fdOf_eq F__are_stores]
    exact ⟨F__are_stores, He.glo_ok X G (d.fact 7 (f := .glo "_are_stores") rfl), FunD.bindsN F__are_stores fun _ _ _ _ _ _ us hl => match us, hl with | [_], _ => rfl⟩
  · rw [fdOf_eq F__are_sights]
    exact ⟨F__are_sights, He.glo_ok X G (d.fact 8 (f := .glo "_are_sights") rfl), FunD.bindsN F__are_sights fun _ _ _ _ _ _ us hl => match us, hl with | [_, _, _], _ => rfl⟩
  · rw [fdOf_eq F__is_sight]
    exact ⟨F__is_sight, He.glo_ok X G (d.fact 9 (f := .glo "_is_sight") rfl), FunD.bindsN F__is_sight fun _ _ _ _ _ _ us hl => match us, hl with | [_, _, _], _ => rfl⟩
  · rw [fdOf_eq F__are_heard]
    exact ⟨F__are_heard, He.glo_ok X G (d.fact 10 (f := .glo "_are_heard") rfl), FunD.bindsN F__are_heard fun _ _ _ _ _ _ us hl => match us, hl with | [_, _], _ => rfl⟩
  · rw [fdOf_eq F__are_asks]
    exact ⟨F__are_asks, He.glo_ok X G (d.fact 11 (f := .glo "_are_asks") rfl), FunD.bindsN F__are_asks fun _ _ _ _ _ _ us hl => match us, hl with | [_, _], _ => rfl⟩
  · rw [fdOf_eq F__are_blocks]
    exact ⟨F__are_blocks, He.glo_ok X G (d.fact 12 (f := .glo "_are_blocks") rfl), FunD.bindsN F__are_blocks fun _ _ _ _ _ _ us hl => match us, hl with | [_, _, _], _ => rfl⟩
  · rw [fdOf_eq F_is_block]
    exact ⟨F_is_block, He.glo_ok X G (d.fact 13 (f := .glo "is_block") rfl), FunD.bindsN F_is_block fun _ _ _ _ _ _ us hl => match us, hl with | [_, _, _], _ => rfl⟩
  · rw [fdOf_eq F_need_day]
    exact ⟨F_need_day, He.glo_ok X G (d.fact 14 (f := .glo "need_day") rfl), FunD.bindsN F_need_day fun _ _ _ _ _ _ us hl => match us, hl with | [_], _ => rfl⟩
  · rw [fdOf_eq F_copy_of_day]
    exact ⟨F_copy_of_day, He.glo_ok X G (d.fact 15 (f := .glo "copy_of_day") rfl), FunD.bindsN F_copy_of_day fun _ _ _ _ _ _ us hl => match us, hl with | [_], _ => rfl⟩
  · rw [fdOf_eq F_is_plan]
    exact ⟨F_is_plan, He.glo_ok X G (d.fact 16 (f := .glo "is_plan") rfl), FunD.bindsN F_is_plan fun _ _ _ _ _ _ us hl => match us, hl with | [_, _], _ => rfl⟩
  · rw [fdOf_eq F__is_pass]
    exact ⟨F__is_pass, He.glo_ok X G (d.fact 17 (f := .glo "_is_pass") rfl), FunD.bindsN F__is_pass fun _ _ _ _ _ _ us hl => match us, hl with | [_, _], _ => rfl⟩
  · rw [fdOf_eq F_may_be_sent]
    exact ⟨F_may_be_sent, He.glo_ok X G (d.fact 18 (f := .glo "may_be_sent") rfl), FunD.bindsN F_may_be_sent fun _ _ _ _ _ _ us hl => match us, hl with | [_, _], _ => rfl⟩
  · rw [fdOf_eq F__clash_nowhere]
    exact ⟨F__clash_nowhere, He.glo_ok X G (d.fact 19 (f := .glo "_clash_nowhere") rfl), FunD.bindsN F__clash_nowhere fun _ _ _ _ _ _ us hl => match us, hl with | [_], _ => rfl⟩
  · rw [fdOf_eq F__fit_stores]
    exact ⟨F__fit_stores, He.glo_ok X G (d.fact 20 (f := .glo "_fit_stores") rfl), FunD.bindsN F__fit_stores fun _ _ _ _ _ _ us hl => match us, hl with | [_, _], _ => rfl⟩
  · rw [fdOf_eq F_kept_over]
    exact ⟨F_kept_over, He.glo_ok X G (d.fact 21 (f := .glo "kept_over") rfl), FunD.bindsN F_kept_over fun _ _ _ _ _ _ us hl => match us, hl with | [_, _, _, _], _ => rfl⟩
  · rw [fdOf_eq F_need_plan]
    exact ⟨F_need_plan, He.glo_ok X G (d.fact 22 (f := .glo "need_plan") rfl), FunD.bindsN F_need_plan fun _ _ _ _ _ _ us hl => match us, hl with | [_, _], _ => rfl⟩
  · rw [fdOf_eq F_gain_of]
    exact ⟨F_gain_of, He.glo_ok X G (d.fact 23 (f := .glo "gain_of") rfl), FunD.bindsN F_gain_of fun _ _ _ _ _ _ us hl => match us, hl with | [_, _], _ => rfl⟩
  · rw [fdOf_eq F_gain_of_passes]
    exact ⟨F_gain_of_passes, He.glo_ok X G (d.fact 24 (f := .glo "gain_of_passes") rfl), FunD.bindsN F_gain_of_passes fun _ _ _ _ _ _ us hl => match us, hl with | [_, _], _ => rfl⟩
  · rw [fdOf_eq F__law_purse]
    exact ⟨F__law_purse, He.glo_ok X G (d.fact 25 (f := .glo "_law_purse") rfl), FunD.bindsN F__law_purse fun _ _ _ _ _ _ us hl => match us, hl with | [_, _], _ => rfl⟩
  · rw [fdOf_eq F__law_coin]
    exact ⟨F__law_coin, He.glo_ok X G (d.fact 26 (f := .glo "_law_coin") rfl), FunD.bindsN F__law_coin fun _ _ _ _ _ _ us hl => match us, hl with | [_, _], _ => rfl⟩
  · rw [fdOf_eq F__law_sight]
    exact ⟨F__law_sight, He.glo_ok X G (d.fact 27 (f := .glo "_law_sight") rfl), FunD.bindsN F__law_sight fun _ _ _ _ _ _ us hl => match us, hl with | [_, _, _], _ => rfl⟩
  · rw [fdOf_eq F__law_block]
    exact ⟨F__law_block, He.glo_ok X G (d.fact 28 (f := .glo "_law_block") rfl), FunD.bindsN F__law_block fun _ _ _ _ _ _ us hl => match us, hl with | [_, _, _], _ => rfl⟩
  · rw [fdOf_eq F__law_day]
    exact ⟨F__law_day, He.glo_ok X G (d.fact 29 (f := .glo "_law_day") rfl), FunD.bindsN F__law_day fun _ _ _ _ _ _ us hl => match us, hl with | [_, _, _], _ => rfl⟩
  · rw [fdOf_eq F__law_may]
    exact ⟨F__law_may, He.glo_ok X G (d.fact 30 (f := .glo "_law_may") rfl), FunD.bindsN F__law_may fun _ _ _ _ _ _ us hl => match us, hl with | [_, _], _ => rfl⟩
  · rw [fdOf_eq F__law_passes]
    exact ⟨F__law_passes, He.glo_ok X G (d.fact 31 (f := .glo "_law_passes") rfl), FunD.bindsN F__law_passes fun _ _ _ _ _ _ us hl => match us, hl with | [_, _], _ => rfl⟩
  · rw [fdOf_eq F__law_over]
    exact ⟨F__law_over, He.glo_ok X G (d.fact 32 (f := .glo "_law_over") rfl), FunD.bindsN F__law_over fun _ _ _ _ _ _ us hl => match us, hl with | [_, _], _ => rfl⟩
  · rw [fdOf_eq F__law_plan]
    exact ⟨F__law_plan, He.glo_ok X G (d.fact 33 (f := .glo "_law_plan") rfl), FunD.bindsN F__law_plan fun _ _ _ _ _ _ us hl => match us, hl with | [_, _], _ => rfl⟩
  · rw [fdOf_eq F__law_other]
    exact ⟨F__law_other, He.glo_ok X G (d.fact 34 (f := .glo "_law_other") rfl), FunD.bindsN F__law_other fun _ _ _ _ _ _ us hl => match us, hl with | [_, _], _ => rfl⟩
  · rw [fdOf_eq F__law_bent_row]
    exact ⟨F__law_bent_row, He.glo_ok X G (d.fact 35 (f := .glo "_law_bent_row") rfl), FunD.bindsN F__law_bent_row fun _ _ _ _ _ _ us hl => match us, hl with | [_, _], _ => rfl⟩
  · rw [fdOf_eq F__law_bent]
    exact ⟨F__law_bent, He.glo_ok X G (d.fact 36 (f := .glo "_law_bent") rfl), FunD.bindsN F__law_bent fun _ _ _ _ _ _ us hl => match us, hl with | [_, _], _ => rfl⟩
  · rw [fdOf_eq F__law_whole]
    exact ⟨F__law_whole, He.glo_ok X G (d.fact 37 (f := .glo "_law_whole") rfl), FunD.bindsN F__law_whole fun _ _ _ _ _ _ us hl => match us, hl with | [_, _, _], _ => rfl⟩
  · rw [fdOf_eq F__law_each]
    exact ⟨F__law_each, He.glo_ok X G (d.fact 38 (f := .glo "_law_each") rfl), FunD.bindsN F__law_each fun _ _ _ _ _ _ us hl => match us, hl with | [_, _, _], _ => rfl⟩
  · rw [fdOf_eq F__law_is_sight]
    exact ⟨F__law_is_sight, He.glo_ok X G (d.fact 39 (f := .glo "_law_is_sight") rfl), FunD.bindsN F__law_is_sight fun _ _ _ _ _ _ us hl => match us, hl with | [_, _, _], _ => rfl⟩
  · rw [fdOf_eq F__law_is_block]
    exact ⟨F__law_is_block, He.glo_ok X G (d.fact 40 (f := .glo "_law_is_block") rfl), FunD.bindsN F__law_is_block fun _ _ _ _ _ _ us hl => match us, hl with | [_, _, _], _ => rfl⟩
  · rw [fdOf_eq F__law_is_day]
    exact ⟨F__law_is_day, He.glo_ok X G (d.fact 41 (f := .glo "_law_is_day") rfl), FunD.bindsN F__law_is_day fun _ _ _ _ _ _ us hl => match us, hl with | [_], _ => rfl⟩
  · rw [fdOf_eq F__law_is_pass]
    exact ⟨F__law_is_pass, He.glo_ok X G (d.fact 42 (f := .glo "_law_is_pass") rfl), FunD.bindsN F__law_is_pass fun _ _ _ _ _ _ us hl => match us, hl with | [_, _], _ => rfl⟩
  · rw [fdOf_eq F__law_is_plan]
    exact ⟨F__law_is_plan, He.glo_ok X G (d.fact 43 (f := .glo "_law_is_plan") rfl), FunD.bindsN F__law_is_plan fun _ _ _ _ _ _ us hl => match us, hl with | [_, _], _ => rfl⟩
  · rw [fdOf_eq F__law_kinds]
    exact ⟨F__law_kinds, He.glo_ok X G (d.fact 44 (f := .glo "_law_kinds") rfl), FunD.bindsN F__law_kinds fun _ _ _ _ _ _ us hl => match us, hl with | [_], _ => rfl⟩
  · rw [fdOf_eq F__law_word]
    exact ⟨F__law_word, He.glo_ok X G (d.fact 45 (f := .glo "_law_word") rfl), FunD.bindsN F__law_word fun _ _ _ _ _ _ us hl => match us, hl with | [_, _, _], _ => rfl⟩
  · rw [fdOf_eq F__law_refused]
    exact ⟨F__law_refused, He.glo_ok X G (d.fact 46 (f := .glo "_law_refused") rfl), FunD.bindsN F__law_refused fun _ _ _ _ _ _ us hl => match us, hl with | [_, _, _], _ => rfl⟩
  · exact He.free_ok X G (d.fact 73 (f := .free "ValueError") rfl)
  · rw [fdOf_eq F_rises]
    exact ⟨code_at F_rises, hB _ (List.mem_map.mpr ⟨("rises", none), by simp [tfs], rfl⟩)⟩
  · rw [fdOf_eq F__are_stores]
    exact ⟨code_at F__are_stores, hB _ (List.mem_map.mpr ⟨("_are_stores", none), by simp [tfs], rfl⟩)⟩
  · rw [fdOf_eq F__are_sights]
    exact ⟨code_at F__are_sights, hB _ (List.mem_map.mpr ⟨("_are_sights", none), by simp [tfs], rfl⟩)⟩
  · rw [fdOf_eq F__is_sight]
    exact ⟨code_at F__is_sight, hB _ (List.mem_map.mpr ⟨("_is_sight", none), by simp [tfs], rfl⟩)⟩
  · rw [fdOf_eq F__are_heard]
    exact ⟨code_at F__are_heard, hB _ (List.mem_map.mpr ⟨("_are_heard", none), by simp [tfs], rfl⟩)⟩
  · rw [fdOf_eq F__are_asks]
    exact ⟨code_at F__are_asks, hB _ (List.mem_map.mpr ⟨("_are_asks", none), by simp [tfs], rfl⟩)⟩
  · rw [fdOf_eq F__are_blocks]
    exact ⟨code_at F__are_blocks, hB _ (List.mem_map.mpr ⟨("_are_blocks", none), by simp [tfs], rfl⟩)⟩
  · rw [fdOf_eq F_is_plan]
    exact ⟨code_at F_is_plan, hB _ (List.mem_map.mpr ⟨("is_plan", none), by simp [tfs], rfl⟩)⟩
  · rw [fdOf_eq F__fit_stores]
    exact ⟨code_at F__fit_stores, hB _ (List.mem_map.mpr ⟨("_fit_stores", none), by simp [tfs], rfl⟩)⟩
def fdMOf (K : PySem.W.Frag) (d0 : FuncData) (C m : String) : FuncData := match K.lookup (He.ma K (He.ga K C) m) with
  | some ⟨_, _, .func fd, _⟩ => fd
  | _ => d0
theorem fdMOf_eq {K : PySem.W.Frag} {d0 : FuncData} {C m : String} {x q : Str} {pa : Arguments} {b : List Stmt} {sc : Scope} {dl : List V} {fd : FuncData} (F : FunD K x q pa b sc dl [] (He.ma K (He.ga K C) m) fd) : fdMOf K d0 C m = fd := by
  obtain ⟨oc, od, dV, kV, doc, pm, an, cdv, ct, osl, rfl, lk, hcd, _, _⟩ := F.ex
  unfold fdMOf
  rw [lk]
theorem cfacts {w : World} {K : PySem.W.Frag} {h : Heap} {mg : Str → Option Value} (X : K.In h) (G : h.Ns mainGlobals mg) (c_ : He.SaysX fas fns [] tfs exT w h K) (d0 : FuncData) : CFacts K mg (fun x => He.ga K x) (fun C m => He.ma K (He.ga K C) m) (fdMOf K d0) := by
  have d := c_.t.d
  obtain ⟨f_Sky___init__, F_Sky___init__⟩ := d.def_ 48 (d := dd_Sky___init__) rfl
  obtain ⟨f_Sky_tick, F_Sky_tick⟩ := d.def_ 49 (d := dd_Sky_tick) rfl
  obtain ⟨f_Sky_now, F_Sky_now⟩ := d.def_ 50 (d := dd_Sky_now) rfl
  obtain ⟨f_Sky_aboard, F_Sky_aboard⟩ := d.def_ 51 (d := dd_Sky_aboard) rfl
  obtain ⟨f_Sky_sent, F_Sky_sent⟩ := d.def_ 52 (d := dd_Sky_sent) rfl
  obtain ⟨f_Sky_gain, F_Sky_gain⟩ := d.def_ 53 (d := dd_Sky_gain) rfl
  obtain ⟨f_Sky__done, F_Sky__done⟩ := d.def_ 54 (d := dd_Sky__done) rfl
  have mo := c_.more
  simp only [exT, Bool.and_eq_true] at mo
  refine ⟨?_, ?_, ?_, ?_, ?_, ?_, ?_, ?_, ?_, ?_, ?_, ?_, ?_, ?_, ?_, ?_, ?_, ?_, ?_, ?_, ?_, ?_, ?_, ?_, ?_, ?_, ?_, ?_, ?_, ?_, ?_, ?_, ?_, ?_, ?_, ?_, ?_, ?_, ?_, ?_, ?_, ?_, ?_, ?_, ?_, ?_, ?_, ?_, ?_, ?_, ?_, ?_, ?_, ?_, ?_, ?_, ?_, ?_, ?_, ?_, ?_, ?_, ?_, ?_, ?_, ?_, ?_, ?_, ?_, ?_, ?_, ?_, ?_, ?_, ?_, ?_⟩
  · exact He.cls_ok (d.fact 74 (f := .cls "Sky") rfl)
  · exact He.glo_ok X G (d.fact 75 (f := .glo "Sky") rfl)
  · exact He.mkr_ok (d.fact 76 (f := .mkr "Sky") rfl)
  · exact He.noat_ok (d.fact 77 (f := .noat "Sky" "_day") rfl)
  · exact He.noat_ok (d.fact 78 (f := .noat "Sky" "_plan") rfl)
  · exact He.noat_ok (d.fact 79 (f := .noat "Sky" "_hour") rfl)
  · rw [fdMOf_eq F_Sky___init__]
    exact ⟨F_Sky___init__, FunD.bindsN F_Sky___init__ fun _ _ _ _ _ _ us hl => match us, hl with | [_, _, _], _ => rfl⟩
  · exact He.meth_ok (d.fact 80 (f := .meth "Sky" "tick") rfl)
  · rw [fdMOf_eq F_Sky_tick]
    exact ⟨F_Sky_tick, FunD.bindsN F_Sky_tick fun _ _ _ _ _ _ us hl => match us, hl with | [_], _ => rfl⟩
  · exact He.meth_ok (d.fact 81 (f := .meth "Sky" "now") rfl)
  · rw [fdMOf_eq F_Sky_now]
    exact ⟨F_Sky_now, FunD.bindsN F_Sky_now fun _ _ _ _ _ _ us hl => match us, hl with | [_], _ => rfl⟩
  · exact He.meth_ok (d.fact 82 (f := .meth "Sky" "aboard") rfl)
  · rw [fdMOf_eq F_Sky_aboard]
    exact ⟨F_Sky_aboard, FunD.bindsN F_Sky_aboard fun _ _ _ _ _ _ us hl => match us, hl with | [_], _ => rfl⟩
  · exact He.meth_ok (d.fact 83 (f := .meth "Sky" "sent") rfl)
  · rw [fdMOf_eq F_Sky_sent]
    exact ⟨F_Sky_sent, FunD.bindsN F_Sky_sent fun _ _ _ _ _ _ us hl => match us, hl with | [_], _ => rfl⟩
  · exact He.meth_ok (d.fact 84 (f := .meth "Sky" "gain") rfl)
  · rw [fdMOf_eq F_Sky_gain]
    exact ⟨F_Sky_gain, FunD.bindsN F_Sky_gain fun _ _ _ _ _ _ us hl => match us, hl with | [_], _ => rfl⟩
  · exact He.meth_ok (d.fact 85 (f := .meth "Sky" "_done") rfl)
  · rw [fdMOf_eq F_Sky__done]
    exact ⟨F_Sky__done, FunD.bindsN F_Sky__done fun _ _ _ _ _ _ us hl => match us, hl with | [_], _ => rfl⟩
  · exact (He.exc_ok (d.fact 86 (f := .exc "NoDay") rfl)).1
  · exact (He.exc_ok (d.fact 86 (f := .exc "NoDay") rfl)).2.1
  · exact (He.exc_ok (d.fact 86 (f := .exc "NoDay") rfl)).2.2.1
  · exact (He.exc_ok (d.fact 86 (f := .exc "NoDay") rfl)).2.2.2
  · exact (He.exc_ok (d.fact 88 (f := .exc "NoPlan") rfl)).1
  · exact (He.exc_ok (d.fact 88 (f := .exc "NoPlan") rfl)).2.1
  · exact (He.exc_ok (d.fact 88 (f := .exc "NoPlan") rfl)).2.2.1
  · exact (He.exc_ok (d.fact 88 (f := .exc "NoPlan") rfl)).2.2.2
  · exact He.glo_ok X G (d.fact 90 (f := .glo "DayOver") rfl)
  · exact He.glo_ok X G (d.fact 91 (f := .glo "NoBlock") rfl)
  · exact He.glo_ok X G (d.fact 92 (f := .glo "NoDay") rfl)
  · exact He.glo_ok X G (d.fact 93 (f := .glo "NoHour") rfl)
  · exact He.glo_ok X G (d.fact 94 (f := .glo "NoLost") rfl)
  · exact He.glo_ok X G (d.fact 95 (f := .glo "NoName") rfl)
  · exact He.glo_ok X G (d.fact 96 (f := .glo "NoNumbers") rfl)
  · exact He.glo_ok X G (d.fact 97 (f := .glo "NoPlace") rfl)
  · exact He.glo_ok X G (d.fact 98 (f := .glo "NoPlan") rfl)
  · exact He.glo_ok X G (d.fact 99 (f := .glo "NoRests") rfl)
  · exact He.glo_ok X G (d.fact 100 (f := .glo "NoRow") rfl)
  · exact He.glo_ok X G (d.fact 101 (f := .glo "NoText") rfl)
  · exact He.glo_ok X G (d.fact 102 (f := .glo "NoWorth") rfl)
  · exact He.glo_ok X G (d.fact 103 (f := .glo "SkyError") rfl)
  · exact He.glo_ok X G (d.fact 104 (f := .glo "TooMany") rfl)
  · exact He.exm_ok (d.fact 87 (f := .exm "NoDay" "SkyError" true) rfl)
  · exact Caught.ExcIs.of mo.1
  · exact of_decide_eq_true mo.2.1
  · exact of_decide_eq_true mo.2.2.1
  · exact of_decide_eq_true mo.2.2.2.1
  · exact of_decide_eq_true mo.2.2.2.2.1
  · exact of_decide_eq_true mo.2.2.2.2.2.1
  · exact of_decide_eq_true mo.2.2.2.2.2.2.1
  · exact of_decide_eq_true mo.2.2.2.2.2.2.2.1
  · exact of_decide_eq_true mo.2.2.2.2.2.2.2.2.1
  · exact of_decide_eq_true mo.2.2.2.2.2.2.2.2.2.1
  · exact of_decide_eq_true mo.2.2.2.2.2.2.2.2.2.2.1
  · exact of_decide_eq_true mo.2.2.2.2.2.2.2.2.2.2.2.1
  · exact of_decide_eq_true mo.2.2.2.2.2.2.2.2.2.2.2.2.1
  · exact of_decide_eq_true mo.2.2.2.2.2.2.2.2.2.2.2.2.2.1
  · exact of_decide_eq_true mo.2.2.2.2.2.2.2.2.2.2.2.2.2.2.1
  · exact of_decide_eq_true mo.2.2.2.2.2.2.2.2.2.2.2.2.2.2.2.1
  · exact He.exm_ok (d.fact 89 (f := .exm "NoPlan" "SkyError" true) rfl)
  · exact Caught.ExcIs.of mo.2.2.2.2.2.2.2.2.2.2.2.2.2.2.2.2.1
  · exact of_decide_eq_true mo.2.2.2.2.2.2.2.2.2.2.2.2.2.2.2.2.2.1
  · exact of_decide_eq_true mo.2.2.2.2.2.2.2.2.2.2.2.2.2.2.2.2.2.2.1
  · exact of_decide_eq_true mo.2.2.2.2.2.2.2.2.2.2.2.2.2.2.2.2.2.2.2.1
  · exact of_decide_eq_true mo.2.2.2.2.2.2.2.2.2.2.2.2.2.2.2.2.2.2.2.2.1
  · exact of_decide_eq_true mo.2.2.2.2.2.2.2.2.2.2.2.2.2.2.2.2.2.2.2.2.2.1
  · exact of_decide_eq_true mo.2.2.2.2.2.2.2.2.2.2.2.2.2.2.2.2.2.2.2.2.2.2.1
  · exact of_decide_eq_true mo.2.2.2.2.2.2.2.2.2.2.2.2.2.2.2.2.2.2.2.2.2.2.2.1
  · exact of_decide_eq_true mo.2.2.2.2.2.2.2.2.2.2.2.2.2.2.2.2.2.2.2.2.2.2.2.2.1
  · exact of_decide_eq_true mo.2.2.2.2.2.2.2.2.2.2.2.2.2.2.2.2.2.2.2.2.2.2.2.2.2.1
  · exact of_decide_eq_true mo.2.2.2.2.2.2.2.2.2.2.2.2.2.2.2.2.2.2.2.2.2.2.2.2.2.2.1
  · exact of_decide_eq_true mo.2.2.2.2.2.2.2.2.2.2.2.2.2.2.2.2.2.2.2.2.2.2.2.2.2.2.2.1
  · exact of_decide_eq_true mo.2.2.2.2.2.2.2.2.2.2.2.2.2.2.2.2.2.2.2.2.2.2.2.2.2.2.2.2.1
  · exact of_decide_eq_true mo.2.2.2.2.2.2.2.2.2.2.2.2.2.2.2.2.2.2.2.2.2.2.2.2.2.2.2.2.2.1
  · exact of_decide_eq_true mo.2.2.2.2.2.2.2.2.2.2.2.2.2.2.2.2.2.2.2.2.2.2.2.2.2.2.2.2.2.2.1
  · exact of_decide_eq_true mo.2.2.2.2.2.2.2.2.2.2.2.2.2.2.2.2.2.2.2.2.2.2.2.2.2.2.2.2.2.2.2
theorem lawAtG_ok {w : World} {K : PySem.W.Frag} {h : Heap} {mg : Str → Option Value} {f : Addr} (X : K.In h) (G : h.Ns mainGlobals mg) (hf : mg ("law" : Str) = some (.ref f)) (c : He.SaysX fas fns [] tfs exT w h K) (hsm : ∃ o, h.get? sysModules = some o ∧ o.cls = .type "dict") :
    LawAtG PySem.Challenge.rw_skyprices_k04_no_days_and_no_plans w K 17 63 ("script" : Str) mg f h := by
  have d := c.t.d
  obtain ⟨fl, FL⟩ := d.def_ 47 (d := dd_law) rfl
  have e := hf.symm.trans (He.glo_ok X G (d.fact 47 (f := .glo "law") rfl))
  cases e
  refine ⟨fl, tfs.map (He.cT K), sp_law K (fun x => He.tabOf K (He.codeOf K (x, none))), fun p hp => ?_, fun p hp => ?_, fun p hp => ?_, hsm, fun s u => ?_, fun H a ns hn _ hH hS => ?_, fun base hB hN hT hs => ?_⟩
  · obtain ⟨q, hq, rfl⟩ := List.mem_map.mp hp
    exact c.empty q hq
  · obtain ⟨q, hq, rfl⟩ := List.mem_map.mp hp
    exact c.out q hq
  · obtain ⟨q, hq, rfl⟩ := List.mem_map.mp hp
    exact PySem.W.codeHd_of_K X (c.hd q hq)
  · exact FunD.bindsA (ps := ["script"]) FL (fun _ _ _ _ _ _ us hl => match us, hl with | [_], _ => rfl) s [u] rfl
  · refine ⟨a, ns, rfl, hS, hn, fun P hP => ?_, fun _ => rfl⟩
    have key : ∀ x : String, ((x : Str), (none : Option Str)) ∈ tfs → TabG H (He.tabOf K (He.codeOf K (x, none))) := fun x hx => ⟨#[], hH _ (List.mem_map.mpr ⟨_, hx, rfl⟩), by simp [TriplesOk]⟩
    simp only [Ts, List.mem_cons, List.not_mem_nil, or_false] at hP
    rcases hP with rfl | rfl | rfl | rfl | rfl | rfl | rfl | rfl | rfl
    · exact key "rises" (by simp [tfs])
    · exact key "_are_stores" (by simp [tfs])
    · exact key "_are_sights" (by simp [tfs])
    · exact key "_is_sight" (by simp [tfs])
    · exact key "_are_heard" (by simp [tfs])
    · exact key "_are_asks" (by simp [tfs])
    · exact key "_are_blocks" (by simp [tfs])
    · exact key "is_plan" (by simp [tfs])
    · exact key "_fit_stores" (by simp [tfs])
  · exact ok_law (facts X G c fl base hT) (cfacts X G c fl) FL hs
end Law

set_option Elab.async false
open PySem PySem.W PySem.Calls PyProof.Rows
set_option maxRecDepth 100000 in
set_option maxHeartbeats 0 in
theorem PySem.Challenge.cw_skyprices_k04_no_days_and_no_plans_holds : PySem.Challenge.rw_skyprices_k04_no_days_and_no_plans.Holds := by
  w_on; o_law
  refine HandSHeadRun.head_any (r := OpenLaw.row PySem.Challenge.rw_skyprices_k04_no_days_and_no_plans) (q := view (OpenLaw.row PySem.Challenge.rw_skyprices_k04_no_days_and_no_plans).prog [Law.lawAt]) (H := Law.hk) (ob := Law.ob) (M := 9000) (loose := Law.looseN) (d := HandSHeadRun.topDef (OpenLaw.row PySem.Challenge.rw_skyprices_k04_no_days_and_no_plans).prog Law.lawAt) (kwd := []) Law.ob_eq
    (by kernel_rfl) (fun s => by kernel_rfl) Law.run (by kernel_rfl) (by kernel_rfl) (by kernel_rfl) (by rfl) (by first | assumption | decide +kernel) (by decide +kernel) ⟨rfl, rfl, rfl, rfl, rfl, by decide +kernel⟩ ?hw ?hc
  case hw => w_witness2
  case hc =>
    refine EndG.walk_ofG (l := PySem.Challenge.rw_skyprices_k04_no_days_and_no_plans) (n := 63) (k := 17) (x := "script") rfl (by decide) (by kernel_rfl) ⟨rfl, by decide, by decide⟩ ?F
    intro w mg fa h Y G hmg0
    obtain ⟨⟨K, KX, c⟩, hsm⟩ := Y
    have hmg : mg ("law" : PySem.Str) = some (.ref fa) := by
      have e : (HandSHeadRun.topDef (OpenLaw.row PySem.Challenge.rw_skyprices_k04_no_days_and_no_plans).prog Law.lawAt).name = ("law" : PySem.Str) := by kernel_rfl
      rw [← e]
      exact hmg0
    exact ⟨K, KX, Law.lawAtG_ok KX G hmg c hsm⟩
