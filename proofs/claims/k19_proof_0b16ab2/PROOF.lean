import PyProof.Rows.All
import Wide.All
import OpenK.AllK
import Wide.FinOn
import PyProof.EqAt
import PyProof.EqKinds
import PyProof.TupleCall
import KE.KNest
import HandS.Base
import HandS.Call
import HandS.List
import HandS.Comp
import HandS.AnyAll
import HandS.Lambda
import HandS.GenList
import PyProof.ReprRoads
import HandS.ForMost
import HandS.Wide
import HandS.IsInst
import HandS.Words
import HandS.EndBits
import HandS.EndTab
import HandS.Defaults
import HandS.Style
import HandS.Conv
import HandS.TupAny
import HandS.Sort
import HandS.Strs
import HandS.SetFor
import PyProof.NeData
import HandS.SetBool
import HandS.TupSets
import PyProof.Rows.IntBool
import PyProof.CallStr
import PyProof.FitsInt
import PyProof.ReprLen
import HandS.Iter
import HandS.Deep
import HandS.Exc
import HandS.ExcOwn
import HandS.WordsExc
import KE.KExcIs
import HandS.Text
import HandS.Flow
import HandS.FStr
import HandS.RaiseMore
import HandS.ExcField
import HandS.ExcInit
import HandS.ExcValue
import HandS.Dict
import PySem.Challenge.RW_skyprices_k19_no_texts_and_no_days
import HandS.SortInts
import PyProof.Rows.StrItems
import KE.KStateDown
import HandS.Head0
import HandS.Head1
import HandS.Head2
import HandS.HeadEnd
import HandS.HeadHook1
import HandS.HeadHook2
import HandS.HeadHook3
import HandS.HeadHook4
import HandS.HeadWalk
set_option Elab.async false
set_option linter.all false
set_option maxRecDepth 100000
set_option maxHeartbeats 2000000
/-! Gx: a generator expression over anything that PI serves, its element any expression of the layer (own calls too), drawn by all and any. -/
namespace GX
open PySem PySem.Spec PyProof.Rows L2 GxR GenW

/-- where the element runs -/
abbrev gA (A : Around) (cenv : Env) : Around := A.in1.in1.deeper cenv
abbrev gX (X : Cx) (s : Shared) (H : Hp) (cenv : Env) (fp : List Addr) (pn : List (Addr × Obj)) : Cx :=
  { X with A := gA X.A cenv, s_0 := s, H_0 := H, env := cenv, outer := X.stack, stack := cenv :: X.stack, ex := fp, fn := fun _ => false, pn := pn, xe := fun _ _ => False }
theorem over_loop0 {A : Around} {elt : Expr} {gs : List Comprehension} {scope : Scope} {pos : Pos} {it acc : Value} {cenv : Env} :
    A.over (.compLoop (.GeneratorExp elt gs scope pos) 0 it acc cenv) [] = A.deeper cenv := by
  first
    | rfl
    | (obtain ⟨hd, d, fr, gs, u⟩ := A; simp [Around.over, Around.deeper, marksOver, frameCount, unitsOf, envsOf, guardsOf, pushEnvs, pushGuards, Code.envs, Code.env?, Code.isFrame, Code.guards, Code.isGuard, Code.weight, Code.frames, Code.isCreation, Code.isCaller, Code.cUnits])
theorem over_start0 {A : Around} {elt : Expr} {gs : List Comprehension} {scope : Scope} {pos : Pos} {it acc : Value} {cenv : Env} :
    A.over (.compStart (.GeneratorExp elt gs scope pos) 0 it acc cenv) [] = A.deeper cenv := by
  first
    | rfl
    | (obtain ⟨hd, d, fr, gs, u⟩ := A; simp [Around.over, Around.deeper, marksOver, frameCount, unitsOf, envsOf, guardsOf, pushEnvs, pushGuards, Code.envs, Code.env?, Code.isFrame, Code.guards, Code.isGuard, Code.weight, Code.frames, Code.isCreation, Code.isCaller, Code.cUnits])
theorem room_gen {k : Nat} {A : Around} (r : Room (k + 1) A) (env : Env) : Room k (gA A env) :=
  ⟨r.hd, by have := r.dp; show A.depth + 1 + 3 * k + 5 < _; omega, by have := r.un; show A.units + 1 + 1 + 3 + 16 * k + 200 < _; omega⟩

/-- the generator expression's own scope, over the def's -/
structure GOk (N : List Str) (sc scope : Scope) (own : List (Str × Nat)) : Prop where
  blk : BlkOk N sc scope own
  co : scope.isCoroutine = false
  cell : ∀ y ∈ scope.names, y.2 ≠ .cell
  dot : scope.names.lookup (".0" : Str) = some NameKind.local
def gokC (N : List Str) (sc scope : Scope) (own : List (Str × Nat)) : Bool :=
  blkC N sc scope own && (!scope.isCoroutine && (scope.names.all (fun y => match y.2 with | .cell => false | _ => true) && (match scope.names.lookup (".0" : Str) with | some .local => true | _ => false)))
theorem gok_by {N : List Str} {sc scope : Scope} {own : List (Str × Nat)} (h : gokC N sc scope own = true) : GOk N sc scope own := by
  unfold gokC at h
  obtain ⟨h1, h2⟩ := Bool.and_eq_true_iff.mp h
  obtain ⟨h3, h4⟩ := Bool.and_eq_true_iff.mp h2
  obtain ⟨h5, h6⟩ := Bool.and_eq_true_iff.mp h4
  refine ⟨blkOk_by h1, by simpa using h3, fun y hy e => ?_, ?_⟩
  · have q := List.all_eq_true.mp h5 y hy
    rw [e] at q
    cases q
  · revert h6
    cases e : scope.names.lookup (".0" : Str) with
    | none => intro h6; cases h6
    | some k => cases k <;> intro h6 <;> first | rfl | cases h6

theorem cenv_cells {scope : Scope} {cl : List (Str × Addr)} {C : Addr} {code : Value} {bi : Addr} {env : Env} : (genEnv scope cl C code bi env).cells = cl := rfl

section
variable {X : Cx} {pins : List (Addr × Obj)} {σ : L2.St} {H : Hp} {s : Shared}
theorem Inv.keepS {s' : Shared} (I : Inv X pins σ H s) (os : s'.os = s.os) (k : ∀ b o, s.heap.get? b = some o → s'.heap.get? b = some o) (hg : AllBare s'.gens) : Inv X pins σ H s' :=
  I.call' (ch := []) os (Un.kept k) (I.hok.kept k) hg fun b hb => absurd hb (by simp)

/-- the generator's frame as it begins -/
theorem gx_start {scope : Scope} {own : List (Str × Nat)} {fp : List Addr} {code : Value} {a : Addr} {go : Obj} {s5 : Shared} (I : Inv X pins σ H s) (ok : GOk X.N X.env.scope scope own) (hN : X.N.Nodup) (hh : X.A.handled = none)
    (hfp : ∀ b ∈ fp, FpOk X pins H b ∧ b < s.heap.objs.size) (os : s5.os = s.os) (hb : AllBare s5.gens) (k : ∀ b o, s.heap.get? b = some o → s5.heap.get? b = some o)
    (hn : ∃ m, s5.heap.Ns s.heap.objs.size m) (ha : s.heap.objs.size < a) (hga : s5.heap.get? a = some go) (hgd : ∀ v, go.data ≠ .cell v) :
    Inv (gX X s H (genEnv scope (cloFrom X.env.cells scope.names []) s.heap.objs.size code builtinsNs X.env) fp [(a, go)]) [] (wipe σ (own.map (·.2))) H s5 := by
  have hfree : ∀ y ∈ scope.names, y.2 = .free → ∃ c, X.env.cells.lookup y.1 = some c := fun y hy e => by
    rcases ok.blk.free y hy e with k | k
    · exact I.ok.has _ (.inl k)
    · exact I.ok.has _ (.inr k)
  have cm : ∀ {y c}, (cloFrom X.env.cells scope.names []).lookup y = some c → X.env.cells.lookup y = some c ∧ c < s.heap.objs.size := fun {y c} e => by
    rcases cloFrom_mem (PySem.mem_of_lookup e) with hm | ⟨h1, rfl⟩
    · cases hm
    · obtain ⟨c, hc⟩ := hfree _ h1 rfl
      rw [hc]
      obtain ⟨w, z⟩ := I.cell _ _ hc
      exact ⟨rfl, z.lt⟩
  have look : ∀ {y}, scope.names.lookup y = some .free → ∃ c, (cloFrom X.env.cells scope.names []).lookup y = some c ∧ X.env.cells.lookup y = some c := fun {y} hl => by
    have hy : (y, NameKind.free) ∈ scope.names := PySem.mem_of_lookup hl
    obtain ⟨c', e'⟩ := mem_lookup (cloFrom_has (cells := X.env.cells) (acc := []) hy)
    exact ⟨c', e', (cm e').1⟩
  refine ⟨⟨I.ok.mod, ok.blk.kind, I.ok.glob, rfl, Nat.le_refl _, fun y z c e1 e2 => I.ok.inj y z c (cm e1).1 (cm e2).1, fun y hy => ?_, fun y c z _ => (by cases z), fun _ => hh, ?_, .inr ⟨rfl, rfl⟩, fun b hb => ⟨Nat.ne_of_lt (hfp b hb).2, fun y c e z => ?_⟩, I.bs, Nat.le_trans I.ok.bsz I.sz, fun b o e hb => ?_, fun b hb z => ?_, I.stack, I.stkFree⟩,
    os, hb, Un.kept k, ?_, fun y c e => ?_, ?_, fun y c e => ?_, fun p hp => ?_, I.hok.kept k, by rw [wipe_length]; exact I.len⟩
  · show ∃ c, (cloFrom X.env.cells scope.names []).lookup y = some c
    have hy : scope.names.lookup y = some .cell ∨ scope.names.lookup y = some .free := hy
    rcases hy with hy | hy
    · exact absurd rfl (ok.cell _ (PySem.mem_of_lookup hy))
    · obtain ⟨c, h1, _⟩ := look hy
      exact ⟨c, h1⟩
  · exact Around.frames_deeper I.ok.frames
  · have e : (cloFrom X.env.cells scope.names []).lookup y = some c := e
    exact (hfp b hb).1.2.2.2.2.1 y c (cm e).1 z
  · rcases (hfp b hb).1.2.2.2.1 with z | z
    · exact I.ok.noex b o e z
    · exact absurd (Nat.lt_of_lt_of_le (Heap.lt_size e) (Nat.le_trans I.ok.bsz z)) (Nat.lt_irrefl _)
  · rcases List.mem_cons.mp (I.stkSub b z) with z | z
    · exact (hfp b hb).1.2.1 z
    · exact (hfp b hb).1.2.2.1 z
  · obtain ⟨m, hn⟩ := hn
    refine ⟨m, hn, fun i y av e1 e2 e3 => ?_⟩
    obtain ⟨e2, hne⟩ := wipe_some e2
    have no : ¬ (scope.names.lookup y = some .local) := fun hh => by
      rcases ok.blk.own _ (PySem.mem_of_lookup hh) (.inl rfl) with e' | e'
      · obtain ⟨p, hp, hpy⟩ := List.mem_map.mp e'
        have e3 := ok.blk.ix p hp
        have : p.1 = y := hpy
        rw [this] at e3
        exact hne (List.mem_map.mpr ⟨p, hp, nodup_ix hN e3 e1⟩)
      · exact e' (List.mem_of_getElem? e1)
    have e3 : Vis scope y := e3
    have hfr : scope.names.lookup y = some .free := by
      rcases e3 with e3 | e3 | e3
      · exact absurd e3 no
      · exact absurd rfl (ok.cell _ (PySem.mem_of_lookup e3))
      · exact e3
    obtain ⟨m, hn, hl⟩ := I.loc
    have hvis : Vis X.env.scope y := (ok.blk.free _ (PySem.mem_of_lookup hfr) rfl).elim (fun k => .inr (.inl k)) (fun k => .inr (.inr k))
    obtain ⟨w, r, q⟩ := hl i y av e1 e2 hvis
    refine ⟨w, r, .inr ⟨.inr hfr, ?_⟩⟩
    obtain ⟨c, h1, h2⟩ := look hfr
    rcases q with ⟨k, _⟩ | ⟨_, c', e', z⟩
    · have k : X.env.scope.names.lookup y = some .local := k
      rcases ok.blk.free _ (PySem.mem_of_lookup hfr) rfl with k' | k' <;> rw [show X.env.scope.names.lookup y = _ from k'] at k <;> cases k
    · rw [h2] at e'; cases e'
      exact ⟨c, h1, z.keeps (by assumption)⟩
  · have e : (cloFrom X.env.cells scope.names []).lookup y = some c := e
    obtain ⟨w, z⟩ := I.cell y c (cm e).1
    exact ⟨w, z.keeps k⟩
  · exact I.hok.fresh (Nat.le_refl _)
  · have e : (cloFrom X.env.cells scope.names []).lookup y = some c := e
    exact I.freeC y c (cm e).1
  · have e : p = (a, go) := by simpa using hp
    subst e
    refine ⟨hga, I.hok.fresh (Nat.le_of_lt ha), Nat.ne_of_gt ha, fun z => ?_, hgd⟩
    rcases List.mem_cons.mp (I.stkSub a z) with z | z
    · have h1 := I.lt
      rw [← z] at h1
      exact absurd (Nat.lt_trans h1 ha) (Nat.lt_irrefl _)
    · exact I.nofs (Nat.le_of_lt ha) z
end

/-! ### the turns -/
section
variable {X : Cx} {s4 : Shared} {H4 : Hp} {cenv : Env} {fp : List Addr} {pn : List (Addr × Obj)} {σw : L2.St} {tg : Expr}
/-- the end: nothing more comes -/
def GRe (Xg : Cx) (σw : L2.St) (fp : List Addr) (Qe : Hp → Prop) : Shared → Prop := fun s => ∃ H, Inv Xg [] σw H s ∧ (∀ b ∈ fp, H b = none) ∧ Qe H
/-- y is handed out; N: what is to hold for the next draw -/
def GYe (Xg : Cx) (cons : V → Hp → Prop → Prop) : Protocol := fun _ _ v s kap => ∃ pins' σ' y H N, Inv Xg pins' σ' H s ∧ RelV y v ∧ cons y H N ∧
  ∀ s' : Shared, (∀ b o, s.heap.get? b = some o → s'.heap.get? b = some o) → s'.os = s.os → AllBare s'.gens → N → kap (.send .none) s'
/-- what is to be shown of the turns: W by the turn and a measure -/
def GTurns (J : It) (g : TG) (tt : TT) (te : TE) (vs : List Nat) (σ : L2.St) (W : Nat → Nat → Hp → Prop) (Qe : Hp → Prop) (cons : V → Hp → Prop → Prop) : Prop := ∀ i m H, W i m H →
  (J.stop i H ∧ Qe H) ∨ (J.go i H ∧ ∃ Nx : Hp → Prop, (∀ H', Nx H' → ∃ m', m' < m ∧ W (i + 1) m' H') ∧ ∀ x H', J.yld i H x H' → g x (wipe σ vs) H' fun σ2 H2 => wipe σ2 vs = wipe σ vs ∧ tt σ2 H2 fun b H3 =>
    if b = true then te σ2 H3 fun y H4 => cons y H4 (Nx H4) else Nx H3)
theorem gx_loop {elt iter : Expr} {ifs : List Expr} {scope : Scope} {pos : Pos} {it : Addr} {J : It} {tn : Nat → Heap → Prop} {g : TG} {tt : TT} {te : TE} {vs : List Nat} {σ : L2.St} {W : Nat → Nat → Hp → Prop} {Qe : Hp → Prop} {cons : V → Hp → Prop → Prop}
    (hc : X.calm = true) (hco : cenv.scope.isCoroutine = false) (T : Turn X.prog X.w X.K tg J fp it tn) (hg : PG (gX X s4 H4 cenv fp pn) tg g) (ht : PTs (gX X s4 H4 cenv fp pn) ifs tt) (he : PE (gX X s4 H4 cenv fp pn) elt te)
    (turn : GTurns J g tt te vs σ W Qe cons) (hpf : ∀ b ∈ fp, ∀ p ∈ pn, p.1 ≠ b) :
    ∀ (n m i : Nat) (s₀ s : Shared) (H : Hp), m < n → Inv (gX X s4 H4 cenv fp pn) [] (wipe σ vs) H s → tn i s.heap → (∀ b ∈ fp, H b = none) → W i m H →
      Seg (model X.prog X.w) X.A.in1.in1 (fun _ _ r s1 => r = .ok .next ∧ GRe (gX X s4 H4 cenv fp pn) (wipe σ vs) fp Qe s1) (GYe (gX X s4 H4 cenv fp pn) cons) n s₀
        (.compLoop (.GeneratorExp elt [⟨tg, iter, ifs, 0⟩] scope pos) 0 (.ref it) .none cenv)
        ((model X.prog X.w).den (.compLoop (.GeneratorExp elt [⟨tg, iter, ifs, 0⟩] scope pos) 0 (.ref it) .none cenv)) [] s := by
  have ov : X.A.in1.in1.over (.compLoop (.GeneratorExp elt [⟨tg, iter, ifs, 0⟩] scope pos) 0 (.ref it) .none cenv) [] = gA X.A cenv := over_loop0
  have stat : ∀ {σ' : L2.St} {H' : Hp} {s' : Shared}, Inv (gX X s4 H4 cenv fp pn) [] σ' H' s' → (∀ b ∈ fp, H' b = none) → ∀ b ∈ fp, FpOk (gX X s4 H4 cenv fp pn) [] H' b := fun {σ' H' s'} I' hn b hb =>
    ⟨hn b hb, (I'.ok.exf b hb).1, I'.ok.exfs b hb, .inl hb, fun x c e => (I'.ok.exf b hb).2 x c e, fun p hp' => hpf b hb p (by simpa using hp')⟩
  intro n
  induction n with
  | zero => intro m i s₀ s H hm; exact absurd hm (Nat.not_lt_zero _)
  | succ n ihn =>
    intro m
    induction m using Nat.strongRecOn with
    | ind m ihm =>
      intro i s₀ s H hm I st nf w
      show Seg _ X.A.in1.in1 _ _ _ s₀ _ ((compTurn (.GeneratorExp elt [⟨tg, iter, ifs, 0⟩] scope pos) 0 (.ref it) .none cenv).onRaise (leaving cenv)) [] s
      rw [compTurn_gen, Sem.onRaise_eq_wrap]
      refine seg_bind_wrap (wpAny_standAt ?_)
      refine seg_bind_wrap ?_
      rw [ov]
      rcases turn i m H w with ⟨stop, qe⟩ | ⟨go, Nx, hNx, step⟩
      · have td := T.done (gX X s4 H4 cenv fp pn) rfl rfl rfl hc i [] s _ H (fun _ _ => False) I (stat I nf) st stop
        refine thnF td fun r s6 ⟨hr, I6⟩ => ?_
        subst hr
        exact seg_end (.ok .next) ⟨rfl, H, I6, nf, qe⟩
      · have ti := T.item (gX X s4 H4 cenv fp pn) rfl rfl rfl hc i [] s _ H (fun _ _ => False) I (stat I nf) st go
        refine thnF ti fun r s6 ⟨u, hr, h6⟩ => ?_
        subst hr
        refine seg_bind_wrap ?_
        rw [ov]
        refine thnF h6 fun _ s7 ⟨x, H7, I7, r7, y7, st7, n7⟩ => ?_
        have I7' := I7.pinned (stat I7 n7) (T.obj _ _ st7)
        refine seg_bind_wrap ?_
        rw [ov]
        refine thnF (hg.run _ s7 _ H7 x u _ I7' r7 (step x H7 y7)) fun _ s8 ⟨σ8, H8, I8, hw8, q8⟩ => ?_
        refine seg_bind_wrap ?_
        rw [ov]
        refine thnF (ht.run _ s8 σ8 H8 _ I8 q8) fun b s9 ⟨H9, I9, q9⟩ => ?_
        -- the turn's end
        have fin : ∀ {s' : Shared} {H' : Hp}, Inv (gX X s4 H4 cenv fp pn) ([] ++ pinsAt fp s7.heap) σ8 H' s' → Nx H' → ∃ m', m' < m ∧ Inv (gX X s4 H4 cenv fp pn) [] (wipe σ vs) H' s' ∧ tn (i + 1) s'.heap ∧ (∀ b ∈ fp, H' b = none) ∧ W (i + 1) m' H' := fun {s' H'} I' nx => by
          obtain ⟨m', hm, w'⟩ := hNx H' nx
          have pin' : ∀ b ∈ fp, ∀ o, s7.heap.get? b = some o → s'.heap.get? b = some o ∧ H' b = none := fun b hb o e =>
            let z := I'.pin (b, o) (List.mem_append_right _ (List.mem_append_right _ (mem_pinsAt hb e)))
            ⟨z.1, z.2.1⟩
          have hl : (wipe σ vs).length = σ8.length := by rw [← hw8, wipe_length]
          refine ⟨m', hm, (I'.unpinned (pins := [])).weak hl (fun j v e => ?_), T.keep _ _ _ st7 fun b hb o e => (pin' b hb o e).1, fun b hb => ?_, w'⟩
          · rw [← hw8] at e
            exact (wipe_some e).1
          · obtain ⟨o, e, _⟩ := T.obj _ _ st7 b hb
            exact (pin' b hb o e).2
        cases b with
        | false =>
          simp only [Bool.false_eq_true, if_false] at q9 ⊢
          obtain ⟨m', hm', I', st', nf', w'⟩ := fin I9 q9
          exact seg_again rfl (ihm m' hm' (i + 1) s₀ s9 H9 (by omega) I' st' nf' w')
        | true =>
          simp only [if_true] at q9 ⊢
          have hy : ∀ v, yieldOut cenv v = yieldValue v := fun v => by simp only [yieldOut, hco, Bool.false_eq_true, if_false]
          simp only [hy]
          rw [Sem.bind_eq_wrap', Sem.bind_eq_wrap', Sem.wrap_wrap, Sem.wrap_wrap]
          refine seg_wrap ?_
          rw [ov]
          refine thnF (he.run _ s9 σ8 H9 _ I9 q9) fun z s10 ⟨yv, H10, I10, r10, c10⟩ => ?_
          refine seg_at (seg_yield rfl rfl rfl ⟨_, σ8, yv, H10, Nx H10, I10, r10, c10, fun s' k os hb nx => ?_⟩)
          obtain ⟨m', hm', I', st', nf', w'⟩ := fin (Inv.keepS I10 os k hb) nx
          exact seg_again rfl (ihn m' (i + 1) s' s' H10 (by omega) I' st' nf' w')
theorem gx_begin {elt iter : Expr} {ifs : List Expr} {scope : Scope} {pos : Pos} {it : Addr} {J : It} {tn : Nat → Heap → Prop} {g : TG} {tt : TT} {te : TE} {vs : List Nat} {σ : L2.St} {W : Nat → Nat → Hp → Prop} {Qe : Hp → Prop} {cons : V → Hp → Prop → Prop}
    (hc : X.calm = true) (hco : cenv.scope.isCoroutine = false) (T : Turn X.prog X.w X.K tg J fp it tn) (hg : PG (gX X s4 H4 cenv fp pn) tg g) (ht : PTs (gX X s4 H4 cenv fp pn) ifs tt) (he : PE (gX X s4 H4 cenv fp pn) elt te)
    (turn : GTurns J g tt te vs σ W Qe cons) (hpf : ∀ b ∈ fp, ∀ p ∈ pn, p.1 ≠ b) (n m : Nat) (s₀ s : Shared) (H : Hp) (hm : m < n) (I : Inv (gX X s4 H4 cenv fp pn) [] (wipe σ vs) H s) (st : tn 0 s.heap) (nf : ∀ b ∈ fp, H b = none) (w : W 0 m H) :
      Seg (model X.prog X.w) X.A.in1.in1 (fun _ _ r s1 => r = .ok .next ∧ GRe (gX X s4 H4 cenv fp pn) (wipe σ vs) fp Qe s1) (GYe (gX X s4 H4 cenv fp pn) cons) n s₀
        (.compStart (.GeneratorExp elt [⟨tg, iter, ifs, 0⟩] scope pos) 0 (.ref it) .none cenv)
        ((model X.prog X.w).den (.compStart (.GeneratorExp elt [⟨tg, iter, ifs, 0⟩] scope pos) 0 (.ref it) .none cenv)) [] s := by
  have loop := gx_loop (iter := iter) (scope := scope) (pos := pos) hc hco T hg ht he turn hpf n m 0 s₀ s H hm I st nf w
  show Seg _ X.A.in1.in1 _ _ _ s₀ _ ((compStart (.GeneratorExp elt [⟨tg, iter, ifs, 0⟩] scope pos) 0 (.ref it) .none cenv).onRaise (leaving cenv)) [] s
  unfold compStart
  rw [Sem.onRaise_eq_wrap]
  show Seg _ X.A.in1.in1 _ _ _ s₀ _ ((ask >>= _).wrap _ _ _ _) [] s
  refine seg_bind_wrap (wpAny_askSetting ?_)
  split
  · exact seg_again rfl loop
  · first
      | exact seg_bind_wrap (wpAny_rule (seg_bind_wrap (wpAny_standAt (seg_bind_wrap (T.self _ 0 s _ _ st (seg_again rfl loop))))))
      | (refine seg_bind_wrap (wpAny_rule ?_); show Seg _ X.A.in1.in1 _ _ _ s₀ _ ((standAt iter.pos >>= _).wrap _ _ _ _) [] s; exact seg_bind_wrap (wpAny_standAt (seg_bind_wrap (T.self _ 0 s _ _ st (seg_again rfl loop)))))

/-- the generator stands ready: drawn at X.A's third level -/
def GReady (X : Cx) (Xg : Cx) (σw : L2.St) (fp : List Addr) (Qe : Hp → Prop) (cons : V → Hp → Prop → Prop) (a : Addr) (g n : Nat) (s : Shared) : Prop :=
  s.heap.IsGen a g ∧ s.heap.NoLimit ∧ ∃ gs, s.gens[g]? = some gs ∧ gs.Goes (model X.prog X.w) X.A.in1.in1 (fun _ _ r s1 => r = .ok .next ∧ GRe Xg σw fp Qe s1) (GYe Xg cons) n (.send .none) (s.setGen g .running)
/-- the generator's own object is pinned -/
def GPin (Xg : Cx) (a : Addr) (g : Nat) : Prop := ∃ (go : Obj) (nm qn : Value), (a, go) ∈ Xg.pn ∧ go.cls = .type "generator" ∧ go.data = .fields #[.int g 0, nm, qn] ∧ go.slots = #[]
theorem GPin.is {Xg : Cx} {a : Addr} {g : Nat} (h : GPin Xg a g) {pins : List (Addr × Obj)} {σ : L2.St} {H : Hp} {s : Shared} (I : Inv Xg pins σ H s) : s.heap.IsGen a g := by
  obtain ⟨go, nm, qn, hm, h1, h2, h3⟩ := h
  exact ⟨go, nm, qn, (I.pin (a, go) (List.mem_append_left _ hm)).1, h1, h2, h3⟩
/-- one draw -/
theorem gx_next {Xg : Cx} {fp : List Addr} {Qe : Hp → Prop} {cons : V → Hp → Prop → Prop} {a : Addr} {g n : Nat} {s : Shared} {Q : Option Value → Shared → Prop} {E : Value → Shared → Prop} (hr : Room 1 X.A) (hp : GPin Xg a g)
    (h : GReady X Xg σw fp Qe cons a g n s)
    (hend : ∀ H s', Inv Xg [] σw H s' → (∀ b ∈ fp, H b = none) → Qe H → Q none s')
    (hitem : ∀ (pins' : List (Addr × Obj)) (σ' : L2.St) (y : V) (H : Hp) (N : Prop) (v : Value) (s' : Shared), Inv Xg pins' σ' H s' → RelV y v → cons y H N → (N → ∃ k, n = k + 1 ∧ GReady X Xg σw fp Qe cons a g k s') → Q (some v) s') :
    wpAny (model X.prog X.w) X.A.in1 (pyNext (.ref a)) Q E s := by
  obtain ⟨hg, hl, gs, hgs, hgo⟩ := h
  have hgl : g < s.gens.size := (Array.getElem?_eq_some_iff.mp hgs).1
  refine wpAny_gsz (n := g + 1) hgl (wpAny_pyNext_genexpQ (A := X.A.in1) (P := fun _ _ s1 => GRe Xg σw fp Qe s1) hr.hd hl hr.depth hg hgs hgo (fun v s₁ gs' hb hv => ?_) (fun s₁ hpe h' hk => ?_))
  · intro hsz
    obtain ⟨pins', σ', y, H, N, I, ry, c, kap⟩ := hv
    have hsz1 : g < s₁.gens.size := by
      have q : (s₁.setGen g gs').gens.size = s₁.gens.size := setGen_size _ _ _
      have hsz' : g + 1 ≤ (s₁.setGen g gs').gens.size := hsz
      omega
    have hbare : AllBare (s₁.setGen g gs').gens := allBare_setGen I.bare hb
    have I2 : Inv Xg pins' σ' H (s₁.setGen g gs') := Inv.keepS I rfl (fun _ _ e => e) hbare
    refine hitem pins' σ' y H N v _ I2 ry c fun hN => ?_
    cases n with
    | zero => exact False.elim (kap s₁ (fun _ _ e => e) rfl I.bare hN)
    | succ k =>
      refine ⟨k, rfl, hp.is I2, I2.nolimit, gs', setGen_at hsz1, ?_⟩
      exact kap _ (fun _ _ e => e) rfl (allBare_setGen hbare rfl) hN
  · intro _
    obtain ⟨H, I, nf, qe⟩ := hpe
    exact hend H _ (Inv.keepS I rfl hk (allBare_setGen I.bare rfl)) nf qe
end

/-! ### all, any -/
section
variable {X : Cx}
def consAll (Q : Bool → Hp → Prop) : V → Hp → Prop → Prop := fun y H N => ∃ b, y = .bl b ∧ if b = true then N else Q false H
def consAny (Q : Bool → Hp → Prop) : V → Hp → Prop → Prop := fun y H N => ∃ b, y = .bl b ∧ if b = true then Q true H else N
theorem all_loop {Xg : Cx} {fp : List Addr} {Q : Bool → Hp → Prop} {a : Addr} {g : Nat} {σw : L2.St} {R : Result → Shared → Prop} (hr : Room 1 X.A) (hp : GPin Xg a g)
    (hR : ∀ b pins' σ' H s', Inv Xg pins' σ' H s' → Q b H → R (.ok (.ret (.bool b))) s') :
    ∀ (n : Nat) (s : Shared), GReady X Xg σw fp (Q true) (consAll Q) a g n s → codeAny (model X.prog X.w) X.A (.builtin "all.loop" ⟨[.ref a], []⟩) R s := by
  intro n
  induction n with
  | zero =>
    intro s h
    refine codeAny_builtin F.entry_all_loop ?_
    rw [Around.under_plainId F.plain_all_loop _]
    show wpAny _ X.A.in1 (pyNext (.ref a) >>= _) _ _ s
    refine wpAny_bind (gx_next hr hp h (fun H s' I nf qe => ?_) fun pins' σ' y H N v s' I ry c nx => ?_)
    · exact wpAny_bind (wpAny_rule (wpAny_pure (hR true _ _ H _ I qe)))
    · obtain ⟨b, rfl, c⟩ := c
      obtain rfl : v = Value.bool b := ry
      refine wpAny_bind (wpAny_holding (wpAny_truthy_bool ?_))
      refine wpAny_bind (wpAny_letGo ?_)
      cases b with
      | true =>
        simp only [if_true] at c ⊢
        obtain ⟨k, e, _⟩ := nx c
        cases e
      | false =>
        simp only [Bool.false_eq_true, if_false] at c ⊢
        exact wpAny_bind (wpAny_rule (wpAny_pure (hR false _ _ H _ I c)))
  | succ n ih =>
    intro s h
    refine codeAny_builtin F.entry_all_loop ?_
    rw [Around.under_plainId F.plain_all_loop _]
    show wpAny _ X.A.in1 (pyNext (.ref a) >>= _) _ _ s
    refine wpAny_bind (gx_next hr hp h (fun H s' I nf qe => ?_) fun pins' σ' y H N v s' I ry c nx => ?_)
    · exact wpAny_bind (wpAny_rule (wpAny_pure (hR true _ _ H _ I qe)))
    · obtain ⟨b, rfl, c⟩ := c
      obtain rfl : v = Value.bool b := ry
      refine wpAny_bind (wpAny_holding (wpAny_truthy_bool ?_))
      refine wpAny_bind (wpAny_letGo ?_)
      cases b with
      | true =>
        simp only [if_true] at c ⊢
        obtain ⟨k, e, h'⟩ := nx c
        cases e
        exact wpAny_pure ⟨plainId_quiet F.plain_all_loop _, ih s' h'⟩
      | false =>
        simp only [Bool.false_eq_true, if_false] at c ⊢
        exact wpAny_bind (wpAny_rule (wpAny_pure (hR false _ _ H _ I c)))
theorem any_loop {Xg : Cx} {fp : List Addr} {Q : Bool → Hp → Prop} {a : Addr} {g : Nat} {σw : L2.St} {R : Result → Shared → Prop} (hr : Room 1 X.A) (hp : GPin Xg a g)
    (hR : ∀ b pins' σ' H s', Inv Xg pins' σ' H s' → Q b H → R (.ok (.ret (.bool b))) s') :
    ∀ (n : Nat) (s : Shared), GReady X Xg σw fp (Q false) (consAny Q) a g n s → codeAny (model X.prog X.w) X.A (.builtin "any.loop" ⟨[.ref a], []⟩) R s := by
  intro n
  induction n with
  | zero =>
    intro s h
    refine codeAny_builtin F.entry_any_loop ?_
    rw [Around.under_plainId F.plain_any_loop _]
    show wpAny _ X.A.in1 (pyNext (.ref a) >>= _) _ _ s
    refine wpAny_bind (gx_next hr hp h (fun H s' I nf qe => ?_) fun pins' σ' y H N v s' I ry c nx => ?_)
    · exact wpAny_bind (wpAny_rule (wpAny_pure (hR false _ _ H _ I qe)))
    · obtain ⟨b, rfl, c⟩ := c
      obtain rfl : v = Value.bool b := ry
      refine wpAny_bind (wpAny_holding (wpAny_truthy_bool ?_))
      refine wpAny_bind (wpAny_letGo ?_)
      cases b with
      | false =>
        simp only [Bool.false_eq_true, if_false] at c ⊢
        obtain ⟨k, e, _⟩ := nx c
        cases e
      | true =>
        simp only [if_true] at c ⊢
        exact wpAny_bind (wpAny_rule (wpAny_pure (hR true _ _ H _ I c)))
  | succ n ih =>
    intro s h
    refine codeAny_builtin F.entry_any_loop ?_
    rw [Around.under_plainId F.plain_any_loop _]
    show wpAny _ X.A.in1 (pyNext (.ref a) >>= _) _ _ s
    refine wpAny_bind (gx_next hr hp h (fun H s' I nf qe => ?_) fun pins' σ' y H N v s' I ry c nx => ?_)
    · exact wpAny_bind (wpAny_rule (wpAny_pure (hR false _ _ H _ I qe)))
    · obtain ⟨b, rfl, c⟩ := c
      obtain rfl : v = Value.bool b := ry
      refine wpAny_bind (wpAny_holding (wpAny_truthy_bool ?_))
      refine wpAny_bind (wpAny_letGo ?_)
      cases b with
      | false =>
        simp only [Bool.false_eq_true, if_false] at c ⊢
        obtain ⟨k, e, h'⟩ := nx c
        cases e
        exact wpAny_pure ⟨plainId_quiet F.plain_any_loop _, ih s' h'⟩
      | true =>
        simp only [if_true] at c ⊢
        exact wpAny_bind (wpAny_rule (wpAny_pure (hR true _ _ H _ I c)))
end

/-! ### the making -/
section
variable {X : Cx} {pins : List (Addr × Obj)} {σ : L2.St} {H : Hp} {s : Shared}
/-- the generator expression's frame, whatever it captures -/
abbrev gE (X : Cx) (scope : Scope) (cl : List (Str × Addr)) (C : Addr) (code : Value) : Env := genEnv scope cl C code builtinsNs X.env
theorem gx_make {c P : Addr} {elt tg iter : Expr} {ifs : List Expr} {scope : Scope} {own : List (Str × Nat)} {gpos : Pos} {wi : TI} {g : TG} {tt : TT} {te : TE} {Qe : Hp → Prop} {cons : V → Hp → Prop → Prop} {Q' : Value → Shared → Prop}
    (hr : Room 1 X.A) (hc : X.calm = true) (hN : X.N.Nodup) (TB : LamX.TabB X.base X.mg c P) (hcode : X.env.code = .ref c) (ok : GOk X.N X.env.scope scope own) (hi : PI X tg iter wi)
    (hg : ∀ (s : Shared) (H : Hp) (C : Addr) (cl : List (Str × Addr)) (code : Value) (fp : List Addr) (pn : List (Addr × Obj)), PG (gX X s H (gE X scope cl C code) fp pn) tg g)
    (ht : ∀ (s : Shared) (H : Hp) (C : Addr) (cl : List (Str × Addr)) (code : Value) (fp : List Addr) (pn : List (Addr × Obj)), PTs (gX X s H (gE X scope cl C code) fp pn) ifs tt)
    (he : ∀ (s : Shared) (H : Hp) (C : Addr) (cl : List (Str × Addr)) (code : Value) (fp : List Addr) (pn : List (Addr × Obj)), PE (gX X s H (gE X scope cl C code) fp pn) elt te)
    (hs : ∀ v, genFold iter X.env v = pure v) (I : Inv X pins σ H s)
    (h : wi σ H fun J H1 => TabG H1 P ∧ ∀ H2, Tabbed P H1 H2 → ∃ W : Nat → Nat → Hp → Prop, (∃ m, W 0 m H2) ∧ GTurns J g tt te (own.map (·.2)) σ W Qe cons)
    (hQ : ∀ Xg fp a g n s5, GPin Xg a g → GReady X Xg (wipe σ (own.map (·.2))) fp Qe cons a g n s5 → (∀ pins' σ' H' s', Inv Xg pins' σ' H' s' → Inv X pins σ H' s') → Q' (.ref a) s5) :
    wpAny (model X.prog X.w) X.A (eval (.GeneratorExp elt [⟨tg, iter, ifs, 0⟩] scope gpos) X.env) Q' X.xe s := by
  have hfree : ∀ y ∈ scope.names, y.2 = .free → ∃ c, X.env.cells.lookup y.1 = some c := fun y hy e => by
    rcases ok.blk.free y hy e with k | k
    · exact I.ok.has _ (.inl k)
    · exact I.ok.has _ (.inr k)
  refine wpAny_GeneratorExp_make ok.co (closure_ok hfree) ok.cell ok.dot ok.blk.kind hr.depth ?_ hs
  refine thn (hi.run pins s σ H _ I h) fun xv s1 hx => thn hx fun itv s2 h2 => ?_
  obtain ⟨it, fp, tn, J, H2, rfl, I2, T, st2, f2, ⟨ps, hP, htr⟩, q2⟩ := h2
  have hPs : s2.heap.get? P = some { cls := .none, data := .fields ps } := I2.hok P _ hP
  have hPlt : P < s2.heap.objs.size := Heap.lt_size hPs
  have cd : PySem.W.CodeHd s2.heap c P := TB.code.keeps fun b u e => I2.bk b u e
  have lim2 : s2.heap.NoLimit := I2.nolimit
  have sz : ∀ b ∈ fp, b < s2.heap.objs.size := fun b hb => by
    obtain ⟨o, e, _⟩ := T.obj _ _ st2 b hb
    exact Heap.lt_size e
  have Pfp : ∀ b ∈ fp, b ≠ P := fun b hb e => by
    have z := (f2 b hb).1
    rw [e, hP] at z
    cases z
  have cont : ∀ (code : Value) (h3 : Heap) (tk : Nat) (ps' : Array Value), Heap.ExtBut P s2.heap h3 → s2.heap.objs.size ≤ h3.objs.size → h3.get? P = some { cls := .none, data := .fields ps' } → (∃ more, ps' = ps ++ more) → TriplesOk ps'.toList →
      wpAny (model X.prog X.w) X.A (builtinsFor X.env.globals X.env.builtins) (fun bi s₄ =>
        ∀ h', h'.Ns s₄.heap.objs.size (fun y => if y = ".0" then some (Value.ref it) else none) → Heap.SameBut s₄.heap.objs.size (s₄.heap.push { cls := .type "frame", data := .dict #[] }) h' →
          Q' (.ref h'.objs.size) { s₄ with
            gens := s₄.gens.push (.fresh (.compStart (.GeneratorExp elt [⟨tg, iter, ifs, 0⟩] scope gpos) 0 (.ref it) .none (genEnv scope (cloFrom X.env.cells scope.names []) s₄.heap.objs.size code bi X.env))),
            toks := s₄.toks + 1 + 1 + 1,
            heap := h'.push { cls := .type "generator", data := .fields #[.int s₄.gens.size 0, .str "<genexpr>" (s₄.toks + 1), .str (X.env.qual ++ "<genexpr>") (s₄.toks + 1 + 1)] } }) X.xe { s2 with heap := h3, toks := tk } := by
    intro code h3 tk ps' hx hsz hP3 hmore ht3
    obtain ⟨more, rfl⟩ := hmore
    obtain ⟨bm, ob, e1, e2, e3, e4, e5, e6, e7, e8⟩ := TB.bm
    refine wpAny_builtinsFor (m := X.mg) (by rw [I2.ok.glob]; exact (I2.mod.glob.keeps I2.bk).extBut hx TB.gP) e1 e2 (hx _ _ e4 (I2.bk _ _ e5)) e6 e7 e8 ?_
    intro h' hn' hs'
    -- the def's state behind the code
    have I4 : Inv X pins σ (upd H2 P (.tbl (ps ++ more))) { s2 with heap := h3, toks := tk } := inv_tab (g' := s2.gens) (d' := s2.drawn) I2 hP hx hP3 I2.bare
    obtain ⟨W, ⟨m0, w0⟩, turn⟩ := q2 _ (⟨⟨ps ++ more, upd_same, ht3⟩, fun b hb => upd_ne hb⟩ : Tabbed P H2 (upd H2 P (.tbl (ps ++ more))))
    generalize hH4 : upd H2 P (.tbl (ps ++ more)) = H4 at I4 w0
    have nf4 : ∀ b ∈ fp, H4 b = none := fun b hb => by rw [← hH4, upd_ne (Pfp b hb)]; exact (f2 b hb).1
    have f4 : ∀ b ∈ fp, FpOk X pins H4 b ∧ b < ({ s2 with heap := h3, toks := tk } : Shared).heap.objs.size := fun b hb => ⟨⟨nf4 b hb, (f2 b hb).2⟩, Nat.lt_of_lt_of_le (sz b hb) hsz⟩
    have st4 : tn 0 h3 := T.keep _ _ _ st2 fun b hb o e => hx b o (Pfp b hb) e
    have hsz' : h'.objs.size = h3.objs.size + 1 := by rw [hs'.1, Heap.size_push]
    have keep' : ∀ b o, h3.get? b = some o → h'.get? b = some o := fun b o e => hs'.extBut b o (Nat.ne_of_lt (Heap.lt_size e)) (Heap.get?_push_of_some _ e)
    generalize hgo : ({ cls := .type "generator", data := .fields #[.int ({ s2 with heap := h3, toks := tk } : Shared).gens.size 0, .str "<genexpr>" (({ s2 with heap := h3, toks := tk } : Shared).toks + 1), .str (X.env.qual ++ "<genexpr>") (({ s2 with heap := h3, toks := tk } : Shared).toks + 1 + 1)] } : Obj) = go
    have keep5 : ∀ b o, h3.get? b = some o → (h'.push go).get? b = some o := fun b o e => Heap.get?_push_of_some _ (keep' b o e)
    have hga : (h'.push go).get? h'.objs.size = some go := Heap.get?_push_size _ (by rw [← hgo]; rfl)
    have hgd : ∀ v, go.data ≠ .cell v := fun v z => by rw [← hgo] at z; cases z
    have apart : ∀ b ∈ fp, h'.objs.size ≠ b := fun b hb e => by
      have h1 : b < h3.objs.size := (f4 b hb).2
      have h2 : b < h'.objs.size := by rw [hsz']; exact Nat.lt_succ_of_lt h1
      rw [e] at h2
      exact Nat.lt_irrefl _ h2
    have start : ∀ s5 : Shared, s5.os = s2.os → AllBare s5.gens → (∀ b o, (h'.push go).get? b = some o → s5.heap.get? b = some o) →
        Inv (gX X { s2 with heap := h3, toks := tk } H4 (gE X scope (cloFrom X.env.cells scope.names []) h3.objs.size code) fp [(h'.objs.size, go)]) [] (wipe σ (own.map (·.2))) H4 s5 := fun s5 os hb k =>
      gx_start I4 ok hN hr.hd f4 os hb (fun b o e => k b o (keep5 b o e)) ⟨_, (hn'.push go).keeps k⟩ (by show h3.objs.size < h'.objs.size; omega) (k _ _ hga) hgd
    refine hQ (gX X { s2 with heap := h3, toks := tk } H4 (gE X scope (cloFrom X.env.cells scope.names []) h3.objs.size code) fp [(h'.objs.size, go)]) fp h'.objs.size s2.gens.size (m0 + 1) _ ⟨go, _, _, by simp, by rw [← hgo], by rw [← hgo], by rw [← hgo]⟩ ?_ fun pins' σ' H' s' I' => ?_
    · refine ⟨⟨go, _, _, hga, by rw [← hgo], by rw [← hgo], by rw [← hgo]⟩, ?_, _, Array.getElem?_push_size .., rfl, ?_⟩
      · exact (lim2.extBut hx (fun e => by
          obtain ⟨_, hns, _⟩ := lim2
          obtain ⟨o', es, ep, ho, hd, _⟩ := hns
          rw [e, hPs] at ho
          cases ho
          cases hd)).keeps keep5
      · refine gx_begin hc ok.co T (hg _ _ _ _ _ _ _) (ht _ _ _ _ _ _ _) (he _ _ _ _ _ _ _) turn (fun b hb p hp => ?_) (m0 + 1) m0 _ _ H4 (Nat.lt_succ_self _) (start _ rfl (allBare_setGen (AllBare.push I2.bare rfl) rfl) fun _ _ e => e) ?_ nf4 w0
        · have e : p = (h'.objs.size, go) := by simpa using hp
          subst e
          exact apart b hb
        · exact T.keep _ _ _ st4 fun b _ o e => keep5 b o e
    · exact I4.call' (ch := fp) I'.os I'.base I'.hok I'.bare fun b hb => ⟨(f4 b hb).1.2.2.2.1, (f4 b hb).1.2.1, (f4 b hb).1.2.2.2.2.1, (f4 b hb).1.2.2.2.2.2⟩
  refine ⟨lim2, ?_⟩
  cases hf : codeAmong gpos ps.toList with
  | none =>
    refine wpAny_genexprCodeX hcode (cd.code hPs htr) (cd.tab hPs) hf fun c' h' tk hx hge hlt hco' _ htab' _ => ?_
    obtain ⟨o1, vs, f1, tf, fl, tg, inF, tx, tt, op, _, _, _, _, _, _, _, _, _, htr, _⟩ := hco'
    exact cont _ h' tk _ hx (Nat.le_trans hge (Nat.le_of_lt hlt)) htab'.2 ⟨_, rfl⟩ htr
  | some cv =>
    refine wpAny_genexprCode_hit hcode (cd.code hPs htr) hf ?_
    exact cont cv s2.heap s2.toks ps (Heap.ExtBut.refl _ _) (Nat.le_refl _) hPs ⟨#[], by simp⟩ htr

/-- all(elt for tg in iter if ..): W by the turn and a measure -/
def tAllG (P : Addr) (wi : TI) (g : TG) (tt : TT) (te : TE) (vs : List Nat) : TE := fun σ H Q => wi σ H fun J H1 => TabG H1 P ∧ ∀ H2, Tabbed P H1 H2 → ∃ W : Nat → Nat → Hp → Prop, (∃ m, W 0 m H2) ∧ GTurns J g tt te vs σ W (fun H => Q (.bl true) H) (consAll fun b H => Q (.bl b) H)
def tAnyG (P : Addr) (wi : TI) (g : TG) (tt : TT) (te : TE) (vs : List Nat) : TE := fun σ H Q => wi σ H fun J H1 => TabG H1 P ∧ ∀ H2, Tabbed P H1 H2 → ∃ W : Nat → Nat → Hp → Prop, (∃ m, W 0 m H2) ∧ GTurns J g tt te vs σ W (fun H => Q (.bl false) H) (consAny fun b H => Q (.bl b) H)
theorem boot_all : bootBuiltins "all" = some (.builtin "all") := by decide +kernel
theorem pe_allG {c P : Addr} {elt tg iter : Expr} {ifs : List Expr} {scope : Scope} {own : List (Str × Nat)} {p pos gpos : Pos} {wi : TI} {g : TG} {tt : TT} {te : TE}
    (hr : Room 1 X.A) (hc : X.calm = true) (hN : X.N.Nodup) (hgl : Gl X "all") (hm : X.mg "all" = none) (TB : LamX.TabB X.base X.mg c P) (hcode : X.env.code = .ref c) (ok : GOk X.N X.env.scope scope own) (hi : PI X tg iter wi)
    (hg : ∀ (s : Shared) (H : Hp) (C : Addr) (cl : List (Str × Addr)) (code : Value) (fp : List Addr) (pn : List (Addr × Obj)), PG (gX X s H (gE X scope cl C code) fp pn) tg g)
    (ht : ∀ (s : Shared) (H : Hp) (C : Addr) (cl : List (Str × Addr)) (code : Value) (fp : List Addr) (pn : List (Addr × Obj)), PTs (gX X s H (gE X scope cl C code) fp pn) ifs tt)
    (he : ∀ (s : Shared) (H : Hp) (C : Addr) (cl : List (Str × Addr)) (code : Value) (fp : List Addr) (pn : List (Addr × Obj)), PE (gX X s H (gE X scope cl C code) fp pn) elt te)
    (hs : ∀ v, genFold iter X.env v = pure v := by intro _; rfl)
    (hst : starEach [.GeneratorExp elt [⟨tg, iter, ifs, 0⟩] scope gpos] X.env = (false, eval (.GeneratorExp elt [⟨tg, iter, ifs, 0⟩] scope gpos) X.env) :: starEach [] X.env := by rfl) :
    PE X (.Call (.Name "all" p) [.GeneratorExp elt [⟨tg, iter, ifs, 0⟩] scope gpos] [] pos) (tAllG P wi g tt te (own.map (·.2))) := by
  refine ⟨fun pins s σ H Q I h => ?_⟩
  refine wpAny_Call_Name_kw (ld_blt I hgl hm boot_all ?_)
  refine PyProof.Rows.callWith_builtin1 ?_ hst (by rfl)
  rw [hst]
  show wpAny _ _ (spliced ((false, eval (.GeneratorExp elt [⟨tg, iter, ifs, 0⟩] scope gpos) X.env) :: backTo pos (starEach [] X.env))) _ _ s
  refine Calls.spliced_cons (gx_make (Qe := fun H => Q (.bl true) H) (cons := consAll fun b H => Q (.bl b) H) hr hc hN TB hcode ok hi hg ht he hs I h fun Xg fp a gg n s5 hp hG back => ?_)
  refine Calls.spliced_nil ?_
  refine call_function_tree F.kind_all F.plain_all F.entry_all (F.args_all1 _) ?_
  unfold Builtin.«all»
  refine wpAny_bind (m := oneArg "all" _) (wpAny_pure ?_)
  refine wpAny_bind (wpAny_pyIter_gen hG.1 ?_)
  refine wpAny_pure ⟨plainId_quiet F.plain_all_loop _, all_loop (Q := fun b H => Q (.bl b) H) hr hp (fun b pins' σ' H' s' I' q => ?_) n s5 hG⟩
  exact ⟨.bl b, H', back _ _ _ _ I', rfl, q⟩
theorem pe_anyG {c P : Addr} {elt tg iter : Expr} {ifs : List Expr} {scope : Scope} {own : List (Str × Nat)} {p pos gpos : Pos} {wi : TI} {g : TG} {tt : TT} {te : TE}
    (hr : Room 1 X.A) (hc : X.calm = true) (hN : X.N.Nodup) (hgl : Gl X "any") (hm : X.mg "any" = none) (TB : LamX.TabB X.base X.mg c P) (hcode : X.env.code = .ref c) (ok : GOk X.N X.env.scope scope own) (hi : PI X tg iter wi)
    (hg : ∀ (s : Shared) (H : Hp) (C : Addr) (cl : List (Str × Addr)) (code : Value) (fp : List Addr) (pn : List (Addr × Obj)), PG (gX X s H (gE X scope cl C code) fp pn) tg g)
    (ht : ∀ (s : Shared) (H : Hp) (C : Addr) (cl : List (Str × Addr)) (code : Value) (fp : List Addr) (pn : List (Addr × Obj)), PTs (gX X s H (gE X scope cl C code) fp pn) ifs tt)
    (he : ∀ (s : Shared) (H : Hp) (C : Addr) (cl : List (Str × Addr)) (code : Value) (fp : List Addr) (pn : List (Addr × Obj)), PE (gX X s H (gE X scope cl C code) fp pn) elt te)
    (hs : ∀ v, genFold iter X.env v = pure v := by intro _; rfl)
    (hst : starEach [.GeneratorExp elt [⟨tg, iter, ifs, 0⟩] scope gpos] X.env = (false, eval (.GeneratorExp elt [⟨tg, iter, ifs, 0⟩] scope gpos) X.env) :: starEach [] X.env := by rfl) :
    PE X (.Call (.Name "any" p) [.GeneratorExp elt [⟨tg, iter, ifs, 0⟩] scope gpos] [] pos) (tAnyG P wi g tt te (own.map (·.2))) := by
  refine ⟨fun pins s σ H Q I h => ?_⟩
  refine wpAny_Call_Name_kw (ld_blt I hgl hm boot_any ?_)
  refine PyProof.Rows.callWith_builtin1 ?_ hst (by rfl)
  rw [hst]
  show wpAny _ _ (spliced ((false, eval (.GeneratorExp elt [⟨tg, iter, ifs, 0⟩] scope gpos) X.env) :: backTo pos (starEach [] X.env))) _ _ s
  refine Calls.spliced_cons (gx_make (Qe := fun H => Q (.bl false) H) (cons := consAny fun b H => Q (.bl b) H) hr hc hN TB hcode ok hi hg ht he hs I h fun Xg fp a gg n s5 hp hG back => ?_)
  refine Calls.spliced_nil ?_
  refine call_function_tree F.kind_any F.plain_any F.entry_any (F.args_any1 _) ?_
  unfold Builtin.«any»
  refine wpAny_bind (m := oneArg "any" _) (wpAny_pure ?_)
  refine wpAny_bind (wpAny_pyIter_gen hG.1 ?_)
  refine wpAny_pure ⟨plainId_quiet F.plain_any_loop _, any_loop (Q := fun b H => Q (.bl b) H) hr hp (fun b pins' σ' H' s' I' q => ?_) n s5 hG⟩
  exact ⟨.bl b, H', back _ _ _ _ I', rfl, q⟩
end
end GX

set_option Elab.async false
set_option linter.all false
set_option maxRecDepth 100000
set_option maxHeartbeats 2000000
/-! Gx2: a generator expression of two clauses, drawn by all and any. -/
namespace GX
open PySem PySem.Spec PyProof.Rows L2 GxR GenW

section
variable {elt t1 it1 t2 it2 : Expr} {ifs1 ifs2 : List Expr} {scope : Scope} {pos : Pos}
theorem compTurn_gen2_in (it acc : Value) (env : Env) :
    compTurn (.GeneratorExp elt [⟨t1, it1, ifs1, 0⟩, ⟨t2, it2, ifs2, 0⟩] scope pos) 1 it acc env = (do
      standAt it2.pos
      match ← pyNext it with
      | none => pure (.done .next)
      | some v =>
        letOwnedTupleGo t2 it v
        assign t2 env v
        let mut ok := true
        for c in ifs2 do
          if ok then ok ← isTrue c env (eval c env)
        if ok then
          (do let v ← eval elt env; standAt elt.pos; let _ ← yieldOut env v)
        again (.compLoop (.GeneratorExp elt [⟨t1, it1, ifs1, 0⟩, ⟨t2, it2, ifs2, 0⟩] scope pos) 1 it acc env)) := by rfl
theorem compTurn_gen2_out (it acc : Value) (env : Env) :
    compTurn (.GeneratorExp elt [⟨t1, it1, ifs1, 0⟩, ⟨t2, it2, ifs2, 0⟩] scope pos) 0 it acc env = (do
      standAt it1.pos
      match ← pyNext it with
      | none => pure (.done .next)
      | some v =>
        letOwnedTupleGo t1 it v
        assign t1 env v
        let mut ok := true
        for c in ifs1 do
          if ok then ok ← isTrue c env (eval c env)
        if ok then
          let x ← eval it2 env
          standAt it2.pos
          let x ← foldedSetIterable it2 env x
          let _ ← runOwn (.compStart (.GeneratorExp elt [⟨t1, it1, ifs1, 0⟩, ⟨t2, it2, ifs2, 0⟩] scope pos) 1 (← holding [x] (pyIter x)) acc env) env
        again (.compLoop (.GeneratorExp elt [⟨t1, it1, ifs1, 0⟩, ⟨t2, it2, ifs2, 0⟩] scope pos) 0 it acc env)) := by rfl
theorem over2_loop {A : Around} {it acc it0 acc0 : Value} {cenv : Env} {k : Result → Sem Fin} {g : Bool} {l : List Value} {p : Pos} {kp : List Value} :
    A.over (.compLoop (.GeneratorExp elt [⟨t1, it1, ifs1, 0⟩, ⟨t2, it2, ifs2, 0⟩] scope pos) 1 it acc cenv) [.ret k none g l (.compLoop (.GeneratorExp elt [⟨t1, it1, ifs1, 0⟩, ⟨t2, it2, ifs2, 0⟩] scope pos) 0 it0 acc0 cenv) p kp] = A.deeper cenv := by
  obtain ⟨hd, d, fr, gs, u⟩ := A
  simp [Around.over, Around.deeper, marksOver, frameCount, unitsOf, envsOf, guardsOf, pushEnvs, pushGuards, Code.envs, Code.env?, Code.isFrame, Code.guards, Code.isGuard, Code.weight, Code.frames, Code.isCreation, Code.isCaller, Code.cUnits, Frame.where_, Frame.marks]
  rfl
theorem over2_start {A : Around} {it acc it0 acc0 : Value} {cenv : Env} {k : Result → Sem Fin} {g : Bool} {l : List Value} {p : Pos} {kp : List Value} :
    A.over (.compStart (.GeneratorExp elt [⟨t1, it1, ifs1, 0⟩, ⟨t2, it2, ifs2, 0⟩] scope pos) 1 it acc cenv) [.ret k none g l (.compLoop (.GeneratorExp elt [⟨t1, it1, ifs1, 0⟩, ⟨t2, it2, ifs2, 0⟩] scope pos) 0 it0 acc0 cenv) p kp] = A.deeper cenv := by
  obtain ⟨hd, d, fr, gs, u⟩ := A
  simp [Around.over, Around.deeper, marksOver, frameCount, unitsOf, envsOf, guardsOf, pushEnvs, pushGuards, Code.envs, Code.env?, Code.isFrame, Code.guards, Code.isGuard, Code.weight, Code.frames, Code.isCreation, Code.isCaller, Code.cUnits, Frame.where_, Frame.marks]
  rfl
end

section
variable {X : Cx} {s4 : Shared} {H4 : Hp} {cenv : Env} {fp : List Addr} {pn : List (Addr × Obj)}
/-- what is to be shown of the turns of the second clause -/
def GTurns1 (J : It) (g : TG) (tt : TT) (te : TE) (vs1 : List Nat) (σ2 : L2.St) (W1 : Nat → Nat → Hp → Prop) (Out : Nat → Hp → Prop) (cons : V → Hp → Prop → Prop) : Prop := ∀ j m H, W1 j m H →
  (J.stop j H ∧ Out m H) ∨ (J.go j H ∧ ∃ Nx : Hp → Prop, (∀ H', Nx H' → ∃ m', m' < m ∧ W1 (j + 1) m' H') ∧ ∀ x H', J.yld j H x H' → g x (wipe σ2 vs1) H' fun σ3 H3 => wipe σ3 vs1 = wipe σ2 vs1 ∧ tt σ3 H3 fun b H4 =>
    if b = true then te σ3 H4 fun y H5 => cons y H5 (Nx H5) else Nx H4)
/-- .. of both: W by the turn and a measure that falls in all turns -/
def GTurns2 (J : It) (g : TG) (tt : TT) (wi1 : TI) (g1 : TG) (tt1 : TT) (te : TE) (vs vs1 : List Nat) (σ : L2.St) (W : Nat → Nat → Hp → Prop) (Qe : Hp → Prop) (cons : V → Hp → Prop → Prop) : Prop := ∀ i m H, W i m H →
  (J.stop i H ∧ Qe H) ∨ (J.go i H ∧ ∀ x H', J.yld i H x H' → g x (wipe σ vs) H' fun σ2 H2 => wipe σ2 vs = wipe σ vs ∧ tt σ2 H2 fun b H3 =>
    if b = true then wi1 σ2 H3 fun J1 H4 => ∃ W1 : Nat → Nat → Hp → Prop, (∃ m1, m1 < m ∧ W1 0 m1 H4) ∧ GTurns1 J1 g1 tt1 te vs1 σ2 W1 (fun m1 H => ∃ m', m' < m1 ∧ W (i + 1) m' H) cons
    else ∃ m', m' < m ∧ W (i + 1) m' H3)
theorem gx2_all {elt t1 it1 t2 it2 : Expr} {ifs1 ifs2 : List Expr} {scope : Scope} {pos : Pos} {it : Addr} {J : It} {tn : Nat → Heap → Prop} {g g1 : TG} {tt tt1 : TT} {wi1 : TI} {te : TE} {vs vs1 : List Nat} {σ : L2.St} {W : Nat → Nat → Hp → Prop} {Qe : Hp → Prop} {cons : V → Hp → Prop → Prop}
    (hc : X.calm = true) (hco : cenv.scope.isCoroutine = false) (hv : ∀ i ∈ vs1, i ∈ vs) (T : Turn X.prog X.w X.K t1 J fp it tn) (hg : PG (gX X s4 H4 cenv fp pn) t1 g) (ht : PTs (gX X s4 H4 cenv fp pn) ifs1 tt)
    (hi1 : PI (gX X s4 H4 cenv fp pn) t2 it2 wi1) (hg1 : PG (gX X s4 H4 cenv fp pn) t2 g1) (ht1 : PTs (gX X s4 H4 cenv fp pn) ifs2 tt1) (he : PE (gX X s4 H4 cenv fp pn) elt te)
    (hs1 : ∀ x, foldedSetIterable it2 cenv x = pure x)
    (turn : GTurns2 J g tt wi1 g1 tt1 te vs vs1 σ W Qe cons) (hpf : ∀ b ∈ fp, ∀ p ∈ pn, p.1 ≠ b) :
    ∀ (n m : Nat), m < n →
      (∀ (i : Nat) (s₀ s : Shared) (H : Hp), Inv (gX X s4 H4 cenv fp pn) [] (wipe σ vs) H s → tn i s.heap → (∀ b ∈ fp, H b = none) → W i m H →
        Seg (model X.prog X.w) X.A.in1.in1 (fun _ _ r s1 => r = .ok .next ∧ GRe (gX X s4 H4 cenv fp pn) (wipe σ vs) fp Qe s1) (GYe (gX X s4 H4 cenv fp pn) cons) n s₀
          (.compLoop (.GeneratorExp elt [⟨t1, it1, ifs1, 0⟩, ⟨t2, it2, ifs2, 0⟩] scope pos) 0 (.ref it) .none cenv)
          ((model X.prog X.w).den (.compLoop (.GeneratorExp elt [⟨t1, it1, ifs1, 0⟩, ⟨t2, it2, ifs2, 0⟩] scope pos) 0 (.ref it) .none cenv)) [] s) ∧
      (∀ (i j : Nat) (hp7 : Heap) (σ8 : L2.St) (itb : Addr) (fp1 : List Addr) (tn1 : Nat → Heap → Prop) (J1 : It) (W1 : Nat → Nat → Hp → Prop) (kk : Result → Sem Fin) (gg : Bool) (l : List Value) (p : Pos) (s₀ s : Shared) (H : Hp),
        tn (i + 1) hp7 → (∀ b ∈ fp, ∃ o, hp7.get? b = some o) → wipe σ8 vs = wipe σ vs → Turn X.prog X.w X.K t2 J1 fp1 itb tn1 → (∀ b ∈ fp1, ∀ H', H' b = none → FpOk (gX X s4 H4 cenv fp pn) ([] ++ pinsAt fp hp7) H' b) →
        GTurns1 J1 g1 tt1 te vs1 σ8 W1 (fun m1 H => ∃ m', m' < m1 ∧ W (i + 1) m' H) cons → kk (.ok .next) = .pure (.again (.compLoop (.GeneratorExp elt [⟨t1, it1, ifs1, 0⟩, ⟨t2, it2, ifs2, 0⟩] scope pos) 0 (.ref it) .none cenv)) → gg = false →
        Inv (gX X s4 H4 cenv fp pn) ([] ++ pinsAt fp hp7) (wipe σ8 vs1) H s → tn1 j s.heap → (∀ b ∈ fp1, H b = none) → W1 j m H →
        Seg (model X.prog X.w) X.A.in1.in1 (fun _ _ r s1 => r = .ok .next ∧ GRe (gX X s4 H4 cenv fp pn) (wipe σ vs) fp Qe s1) (GYe (gX X s4 H4 cenv fp pn) cons) n s₀
          (.compLoop (.GeneratorExp elt [⟨t1, it1, ifs1, 0⟩, ⟨t2, it2, ifs2, 0⟩] scope pos) 1 (.ref itb) .none cenv)
          ((model X.prog X.w).den (.compLoop (.GeneratorExp elt [⟨t1, it1, ifs1, 0⟩, ⟨t2, it2, ifs2, 0⟩] scope pos) 1 (.ref itb) .none cenv)) [.ret kk none gg l (.compLoop (.GeneratorExp elt [⟨t1, it1, ifs1, 0⟩, ⟨t2, it2, ifs2, 0⟩] scope pos) 0 (.ref it) .none cenv) p []] s) := by
  have ov : X.A.in1.in1.over (.compLoop (.GeneratorExp elt [⟨t1, it1, ifs1, 0⟩, ⟨t2, it2, ifs2, 0⟩] scope pos) 0 (.ref it) .none cenv) [] = gA X.A cenv := over_loop0
  have ov1 : ∀ {itb : Addr} {kk : Result → Sem Fin} {gg : Bool} {l : List Value} {p : Pos}, X.A.in1.in1.over (.compLoop (.GeneratorExp elt [⟨t1, it1, ifs1, 0⟩, ⟨t2, it2, ifs2, 0⟩] scope pos) 1 (.ref itb) .none cenv) [.ret kk none gg l (.compLoop (.GeneratorExp elt [⟨t1, it1, ifs1, 0⟩, ⟨t2, it2, ifs2, 0⟩] scope pos) 0 (.ref it) .none cenv) p []] = gA X.A cenv := over2_loop
  have stat : ∀ {σ' : L2.St} {H' : Hp} {s' : Shared}, Inv (gX X s4 H4 cenv fp pn) [] σ' H' s' → (∀ b ∈ fp, H' b = none) → ∀ b ∈ fp, FpOk (gX X s4 H4 cenv fp pn) [] H' b := fun {σ' H' s'} I' hn b hb =>
    ⟨hn b hb, (I'.ok.exf b hb).1, I'.ok.exfs b hb, .inl hb, fun x c e => (I'.ok.exf b hb).2 x c e, fun p hp' => hpf b hb p (by simpa using hp')⟩
  have hy : ∀ v, yieldOut cenv v = yieldValue v := fun v => by simp only [yieldOut, hco, Bool.false_eq_true, if_false]
  intro n
  induction n with
  | zero => intro m hm; exact absurd hm (Nat.not_lt_zero _)
  | succ n ihn =>
    intro m
    induction m using Nat.strongRecOn with
    | ind m ihm =>
      intro hm
      refine ⟨fun i s₀ s H I st nf w => ?_, fun i j hp7 σ8 itb fp1 tn1 J1 W1 kk gg l p s₀ s H st7 ob7 hw8 T1 f1 turn1 hkk hgg I st nf w => ?_⟩
      · show Seg _ X.A.in1.in1 _ _ _ s₀ _ ((compTurn (.GeneratorExp elt [⟨t1, it1, ifs1, 0⟩, ⟨t2, it2, ifs2, 0⟩] scope pos) 0 (.ref it) .none cenv).onRaise (leaving cenv)) [] s
        rw [compTurn_gen2_out, Sem.onRaise_eq_wrap]
        refine seg_bind_wrap (wpAny_standAt ?_)
        refine seg_bind_wrap ?_
        rw [ov]
        rcases turn i m H w with ⟨stop, qe⟩ | ⟨go, step⟩
        · have td := T.done (gX X s4 H4 cenv fp pn) rfl rfl rfl hc i [] s _ H (fun _ _ => False) I (stat I nf) st stop
          refine thnF td fun r s6 ⟨hr, I6⟩ => ?_
          subst hr
          exact seg_end (.ok .next) ⟨rfl, H, I6, nf, qe⟩
        · have ti := T.item (gX X s4 H4 cenv fp pn) rfl rfl rfl hc i [] s _ H (fun _ _ => False) I (stat I nf) st go
          refine thnF ti fun r s6 ⟨u, hr, h6⟩ => ?_
          subst hr
          refine seg_bind_wrap ?_
          rw [ov]
          refine thnF h6 fun _ s7 ⟨x, H7, I7, r7, y7, st7, n7⟩ => ?_
          have I7' := I7.pinned (stat I7 n7) (T.obj _ _ st7)
          refine seg_bind_wrap ?_
          rw [ov]
          refine thnF (hg.run _ s7 _ H7 x u _ I7' r7 (step x H7 y7)) fun _ s8 ⟨σ8, H8, I8, hw8, q8⟩ => ?_
          refine seg_bind_wrap ?_
          rw [ov]
          refine thnF (ht.run _ s8 σ8 H8 _ I8 q8) fun b s9 ⟨H9, I9, q9⟩ => ?_
          cases b with
          | false =>
            simp only [Bool.false_eq_true, if_false] at q9 ⊢
            obtain ⟨m', hm', w'⟩ := q9
            have pin' : ∀ b ∈ fp, ∀ o, s7.heap.get? b = some o → s9.heap.get? b = some o ∧ H9 b = none := fun b hb o e =>
              let z := I9.pin (b, o) (List.mem_append_right _ (List.mem_append_right _ (mem_pinsAt hb e)))
              ⟨z.1, z.2.1⟩
            have hl : (wipe σ vs).length = σ8.length := by rw [← hw8, wipe_length]
            refine seg_again rfl ((ihm m' hm' (by omega)).1 (i + 1) s₀ s9 H9 ((I9.unpinned (pins := [])).weak hl (fun j v e => ?_)) (T.keep _ _ _ st7 fun b hb o e => (pin' b hb o e).1) (fun b hb => ?_) w')
            · rw [← hw8] at e
              exact (wipe_some e).1
            · obtain ⟨o, e, _⟩ := T.obj _ _ st7 b hb
              exact (pin' b hb o e).2
          | true =>
            simp only [if_true] at q9 ⊢
            refine seg_bind_wrap ?_
            rw [ov]
            refine thnF (hi1.run _ s9 σ8 H9 _ I9 q9) fun xv s10 hx => ?_
            refine seg_bind_wrap (wpAny_standAt ?_)
            refine seg_bind_wrap (wpAny_of_eq (hs1 xv) ?_)
            refine seg_bind_wrap (wpAny_holding ?_)
            rw [ov]
            refine thnF hx fun itv s11 ⟨itb, fp1, tn1, J1, H11, e11, I11, T1, st11, f11, W1, ⟨m1, hm1, w1⟩, turn1⟩ => ?_
            subst e11
            have obj7 : ∀ b ∈ fp, ∃ o, s7.heap.get? b = some o := fun b hb => by
              obtain ⟨o, e, _⟩ := T.obj _ _ st7 b hb
              exact ⟨o, e⟩
            refine seg_call fun p => ?_
            have inner := fun (kk : Result → Sem Fin) (gg : Bool) (l : List Value) (p : Pos) (e1 : kk (.ok .next) = .pure (.again (.compLoop (.GeneratorExp elt [⟨t1, it1, ifs1, 0⟩, ⟨t2, it2, ifs2, 0⟩] scope pos) 0 (.ref it) .none cenv))) (e2 : gg = false) =>
              (ihm m1 hm1 (by omega)).2 i 0 s7.heap σ8 itb fp1 tn1 J1 W1 kk gg l p s₀ s11 H11 st7 obj7 hw8 T1 (fun b hb H' hn => ⟨hn, (f11 b hb).2⟩) turn1 e1 e2 (I11.weak (wipe_length _ _) (fun j v e => (wipe_some e).1)) st11 (fun b hb => (f11 b hb).1) w1
            show Seg _ X.A.in1.in1 _ _ _ s₀ _ ((compStart (.GeneratorExp elt [⟨t1, it1, ifs1, 0⟩, ⟨t2, it2, ifs2, 0⟩] scope pos) 1 (.ref itb) .none cenv).onRaise (fun x => do noteFrame x cenv; standAt theWindowsPlace)) _ s11
            unfold compStart
            rw [Sem.onRaise_eq_wrap]
            show Seg _ X.A.in1.in1 _ _ _ s₀ _ ((ask >>= _).wrap _ _ _ _) _ s11
            refine seg_bind_wrap (wpAny_askSetting ?_)
            split
            · exact seg_again rfl (inner _ _ _ _ rfl rfl)
            · refine seg_bind_wrap (wpAny_rule ?_)
              first
                | exact seg_bind_wrap (wpAny_standAt (seg_bind_wrap (T1.self _ 0 s11 _ _ st11 (seg_again rfl (inner _ _ _ _ rfl rfl)))))
                | (show Seg _ X.A.in1.in1 _ _ _ s₀ _ ((standAt it2.pos >>= _).wrap _ _ _ _) _ s11; exact seg_bind_wrap (wpAny_standAt (seg_bind_wrap (T1.self _ 0 s11 _ _ st11 (seg_again rfl (inner _ _ _ _ rfl rfl))))))
      · show Seg _ X.A.in1.in1 _ _ _ s₀ _ ((compTurn (.GeneratorExp elt [⟨t1, it1, ifs1, 0⟩, ⟨t2, it2, ifs2, 0⟩] scope pos) 1 (.ref itb) .none cenv).onRaise (fun x => do noteFrame x cenv; theTreesLotGoes x)) _ s
        rw [compTurn_gen2_in, Sem.onRaise_eq_wrap]
        refine seg_bind_wrap (wpAny_standAt ?_)
        refine seg_bind_wrap ?_
        rw [ov1]
        rcases turn1 j m H w with ⟨stop, m', hm', w'⟩ | ⟨go, Nx, hNx, step⟩
        · refine thnF (T1.done (gX X s4 H4 cenv fp pn) rfl rfl rfl hc j _ s (wipe σ8 vs1) H (fun _ _ => False) I (fun b hb => f1 b hb H (nf b hb)) st stop) fun r s6 ⟨hr, I6⟩ => ?_
          subst hr
          have pin' : ∀ b ∈ fp, ∀ o, hp7.get? b = some o → s6.heap.get? b = some o ∧ H b = none := fun b hb o e =>
            let z := I6.pin (b, o) (List.mem_append_right _ (List.mem_append_right _ (mem_pinsAt hb e)))
            ⟨z.1, z.2.1⟩
          refine seg_leaf (.ok .next) ?_
          rw [hkk]
          refine seg_again rfl ((ihm m' hm' (by omega)).1 (i + 1) s₀ s6 H ((I6.unpinned (pins := [])).weak ?_ (fun j v e => ?_)) (T.keep _ _ _ st7 fun b hb o e => (pin' b hb o e).1) (fun b hb => ?_) w')
          · rw [← hw8, wipe_length, wipe_length]
          · rw [← hw8] at e
            obtain ⟨e1, e2⟩ := wipe_some e
            rw [wipe_out fun z => e2 (hv j z)]
            exact e1
          · obtain ⟨o, e⟩ := ob7 b hb
            exact (pin' b hb o e).2
        · refine thnF (T1.item (gX X s4 H4 cenv fp pn) rfl rfl rfl hc j _ s (wipe σ8 vs1) H (fun _ _ => False) I (fun b hb => f1 b hb H (nf b hb)) st go) fun r s6 ⟨u, hr, h6⟩ => ?_
          subst hr
          refine seg_bind_wrap ?_
          rw [ov1]
          refine thnF h6 fun _ s9 ⟨x, H9, I9, r9, y9, st9, n9⟩ => ?_
          have I9' := I9.pinned (fun b hb => f1 b hb H9 (n9 b hb)) (T1.obj _ _ st9)
          refine seg_bind_wrap ?_
          rw [ov1]
          refine thnF (hg1.run _ s9 _ H9 x u _ I9' r9 (step x H9 y9)) fun _ s10 ⟨σ10, H10, I10, hw10, q10⟩ => ?_
          refine seg_bind_wrap ?_
          rw [ov1]
          refine thnF (ht1.run _ s10 σ10 H10 _ I10 q10) fun b s11 ⟨H11, I11, q11⟩ => ?_
          have fin : ∀ {s' : Shared} {H' : Hp}, Inv (gX X s4 H4 cenv fp pn) (([] ++ pinsAt fp hp7) ++ pinsAt fp1 s9.heap) σ10 H' s' → Nx H' → ∃ m', m' < m ∧ Inv (gX X s4 H4 cenv fp pn) ([] ++ pinsAt fp hp7) (wipe σ8 vs1) H' s' ∧ tn1 (j + 1) s'.heap ∧ (∀ b ∈ fp1, H' b = none) ∧ W1 (j + 1) m' H' := fun {s' H'} I' nx => by
            obtain ⟨m', hm, w'⟩ := hNx H' nx
            have pin' : ∀ b ∈ fp1, ∀ o, s9.heap.get? b = some o → s'.heap.get? b = some o ∧ H' b = none := fun b hb o e =>
              let z := I'.pin (b, o) (List.mem_append_right _ (List.mem_append_right _ (mem_pinsAt hb e)))
              ⟨z.1, z.2.1⟩
            refine ⟨m', hm, I'.unpinned.weak (by rw [← hw10, wipe_length]) (fun j v e => by rw [← hw10] at e; exact (wipe_some e).1), T1.keep _ _ _ st9 fun b hb o e => (pin' b hb o e).1, fun b hb => ?_, w'⟩
            obtain ⟨o, e, _⟩ := T1.obj _ _ st9 b hb
            exact (pin' b hb o e).2
          cases b with
          | false =>
            simp only [Bool.false_eq_true, if_false] at q11 ⊢
            obtain ⟨m', hm', I', st', nf', w'⟩ := fin I11 q11
            exact seg_again rfl ((ihm m' hm' (by omega)).2 i (j + 1) hp7 σ8 itb fp1 tn1 J1 W1 kk gg l p s₀ s11 H11 st7 ob7 hw8 T1 f1 turn1 hkk hgg I' st' nf' w')
          | true =>
            simp only [if_true] at q11 ⊢
            simp only [hy]
            rw [Sem.bind_eq_wrap', Sem.bind_eq_wrap', Sem.wrap_wrap, Sem.wrap_wrap]
            refine seg_wrap ?_
            rw [ov1]
            refine thnF (he.run _ s11 σ10 H11 _ I11 q11) fun z s12 ⟨yv, H12, I12, r12, c12⟩ => ?_
            refine seg_at (seg_yield rfl rfl (by subst hgg; rfl) ⟨_, σ10, yv, H12, Nx H12, I12, r12, c12, fun s' k os hb nx => ?_⟩)
            obtain ⟨m', hm', I', st', nf', w'⟩ := fin (Inv.keepS I12 os k hb) nx
            exact seg_again rfl ((ihn m' (by omega)).2 i (j + 1) hp7 σ8 itb fp1 tn1 J1 W1 kk gg l p s' s' H12 st7 ob7 hw8 T1 f1 turn1 hkk hgg I' st' nf' w')
theorem gx2_begin {elt tg iter tg1 iter1 : Expr} {ifs ifs1 : List Expr} {scope : Scope} {pos : Pos} {it : Addr} {J : It} {tn : Nat → Heap → Prop} {wi1 : TI} {g g1 : TG} {tt tt1 : TT} {te : TE} {vs vs1 : List Nat} {σ : L2.St} {W : Nat → Nat → Hp → Prop} {Qe : Hp → Prop} {cons : V → Hp → Prop → Prop}
    (hc : X.calm = true) (hco : cenv.scope.isCoroutine = false) (hv : ∀ i ∈ vs1, i ∈ vs) (T : Turn X.prog X.w X.K tg J fp it tn) (hg : PG (gX X s4 H4 cenv fp pn) tg g) (ht : PTs (gX X s4 H4 cenv fp pn) ifs tt) (hi1 : PI (gX X s4 H4 cenv fp pn) tg1 iter1 wi1) (hg1 : PG (gX X s4 H4 cenv fp pn) tg1 g1) (ht1 : PTs (gX X s4 H4 cenv fp pn) ifs1 tt1) (he : PE (gX X s4 H4 cenv fp pn) elt te) (hs1 : ∀ v, foldedSetIterable iter1 cenv v = pure v)
    (turn : GTurns2 J g tt wi1 g1 tt1 te vs vs1 σ W Qe cons) (hpf : ∀ b ∈ fp, ∀ p ∈ pn, p.1 ≠ b) (n m : Nat) (s₀ s : Shared) (H : Hp) (hm : m < n) (I : Inv (gX X s4 H4 cenv fp pn) [] (wipe σ vs) H s) (st : tn 0 s.heap) (nf : ∀ b ∈ fp, H b = none) (w : W 0 m H) :
      Seg (model X.prog X.w) X.A.in1.in1 (fun _ _ r s1 => r = .ok .next ∧ GRe (gX X s4 H4 cenv fp pn) (wipe σ vs) fp Qe s1) (GYe (gX X s4 H4 cenv fp pn) cons) n s₀
        (.compStart (.GeneratorExp elt [⟨tg, iter, ifs, 0⟩, ⟨tg1, iter1, ifs1, 0⟩] scope pos) 0 (.ref it) .none cenv)
        ((model X.prog X.w).den (.compStart (.GeneratorExp elt [⟨tg, iter, ifs, 0⟩, ⟨tg1, iter1, ifs1, 0⟩] scope pos) 0 (.ref it) .none cenv)) [] s := by
  have loop := (gx2_all (it1 := iter) (scope := scope) (pos := pos) hc hco hv T hg ht hi1 hg1 ht1 he hs1 turn hpf n m hm).1 0 s₀ s H I st nf w
  show Seg _ X.A.in1.in1 _ _ _ s₀ _ ((compStart (.GeneratorExp elt [⟨tg, iter, ifs, 0⟩, ⟨tg1, iter1, ifs1, 0⟩] scope pos) 0 (.ref it) .none cenv).onRaise (leaving cenv)) [] s
  unfold compStart
  rw [Sem.onRaise_eq_wrap]
  show Seg _ X.A.in1.in1 _ _ _ s₀ _ ((ask >>= _).wrap _ _ _ _) [] s
  refine seg_bind_wrap (wpAny_askSetting ?_)
  split
  · exact seg_again rfl loop
  · first
      | exact seg_bind_wrap (wpAny_rule (seg_bind_wrap (wpAny_standAt (seg_bind_wrap (T.self _ 0 s _ _ st (seg_again rfl loop))))))
      | (refine seg_bind_wrap (wpAny_rule ?_); show Seg _ X.A.in1.in1 _ _ _ s₀ _ ((standAt iter.pos >>= _).wrap _ _ _ _) [] s; exact seg_bind_wrap (wpAny_standAt (seg_bind_wrap (T.self _ 0 s _ _ st (seg_again rfl loop)))))

end

section
variable {M : Model} {A : Around} {E : Value → Shared → Prop} {s : Shared}
theorem eval_GeneratorExp2 (elt target iter : Expr) (ifs : List Expr) (rest : List Comprehension) (scope : Scope) (pos : Pos) (env : Env) (hco : scope.isCoroutine = false) :
    eval (.GeneratorExp elt (⟨target, iter, ifs, 0⟩ :: rest) scope pos) env = (do
      let x ← eval iter env
      standAt iter.pos
      let x ← genFold iter env x
      let it ← holding [x] (pyIter x)
      enterFrame
      let cl ← closureFor scope env
      let code ← genexprCode env pos (env.qual ++ "<genexpr>") scope
      let bi ← builtinsFor env.globals env.builtins
      let cenv ← newFunctionEnv scope env.globals cl [(".0", it)] (env.qual ++ "<genexpr>.") none code none bi
      newGenerator (.compStart (.GeneratorExp elt (⟨target, iter, ifs, 0⟩ :: rest) scope pos) 0 it .none cenv) "<genexpr>" (env.qual ++ "<genexpr>")) := by
  rw [arm_eval_GeneratorExp]
  simp only [hco, Bool.false_eq_true, if_false]
  cases iter <;> rfl

theorem wpAny_GeneratorExp_make2 {env : Env} {elt target iter : Expr} {ifs : List Expr} {rest : List Comprehension} {scope : Scope} {cl : List (Str × Addr)} {pos : Pos} {Q : Value → Shared → Prop}
    (hco : scope.isCoroutine = false) (hclos : closureFor scope env = pure cl) (hcell : ∀ y ∈ scope.names, y.2 ≠ .cell) (h0 : scope.names.lookup (".0" : Str) = some NameKind.local) (hkind : scope.kind = .function)
    (hroom : A.depth < recursionLimit)
    (h : wpAny M A (eval iter env) (fun xv s₁ => wpAny M A (pyIter xv) (fun it s₂ => s₂.heap.NoLimit ∧
      wpAny M A (genexprCode env pos (env.qual ++ "<genexpr>") scope) (fun code s₃ => wpAny M A (builtinsFor env.globals env.builtins) (fun bi s₄ =>
        ∀ h', h'.Ns s₄.heap.objs.size (fun y => if y = ".0" then some it else none) → Heap.SameBut s₄.heap.objs.size (s₄.heap.push { cls := .type "frame", data := .dict #[] }) h' →
          Q (.ref h'.objs.size) { s₄ with
            gens := s₄.gens.push (.fresh (.compStart (.GeneratorExp elt (⟨target, iter, ifs, 0⟩ :: rest) scope pos) 0 it .none (genEnv scope cl s₄.heap.objs.size code bi env))),
            toks := s₄.toks + 1 + 1 + 1,
            heap := h'.push { cls := .type "generator", data := .fields #[.int s₄.gens.size 0, .str "<genexpr>" (s₄.toks + 1), .str (env.qual ++ "<genexpr>") (s₄.toks + 1 + 1)] } }) E s₃) E s₂) E s₁) E s)
    (hs : ∀ x, genFold iter env x = pure x) :
    wpAny M A (eval (.GeneratorExp elt (⟨target, iter, ifs, 0⟩ :: rest) scope pos) env) Q E s := by
  rw [eval_GeneratorExp2 _ _ _ _ _ _ _ _ hco, hclos]
  refine wpAny_bind (wpAny_mono h (fun xv s₁ h₁ => ?_) fun _ _ e => e)
  refine wpAny_bind (wpAny_standAt ?_)
  refine wpAny_bind (wpAny_of_eq (hs xv) ?_)
  refine wpAny_bind (wpAny_holding (wpAny_mono h₁ (fun it s₂ h₂ => ?_) fun _ _ e => e))
  refine wpAny_bind (wpAny_enterFrame h₂.1 hroom ?_)
  refine wpAny_bind (wpAny_pure ?_)
  refine wpAny_bind (wpAny_mono h₂.2 (fun code s₃ h₃ => ?_) fun _ _ e => e)
  refine wpAny_bind (wpAny_mono h₃ (fun bi s₄ h₄ => ?_) fun _ _ e => e)
  have hbinds : ∀ y ∈ ([((".0" : Str), it)] : List (Str × Value)), scope.names.lookup y.1 = some NameKind.local := by
    intro y hy
    rcases List.mem_cons.mp hy with rfl | hy
    · exact h0
    · cases hy
  refine wpAny_bind (wpAny_newFunctionEnv hcell hbinds (fun h' hn' hs' => ?_) hkind)
  have e : (fun y : Str => ([((".0" : Str), it)] : List (Str × Value)).reverse.lookup y) = fun y : Str => if y = (".0" : Str) then some it else none := by
    funext y
    by_cases hy : y = ".0"
    · subst hy; simp
    · have : (y == (".0" : Str)) = false := by simpa using hy
      simp [List.lookup, this, hy]
  rw [e] at hn'
  simp only [newGenerator, newFields]
  refine wpAny_bind (wpAny_newGen (wpAny_bind (wpAny_mkText (wpAny_bind (wpAny_mkText (wpAny_newObj_type ?_ (by size_fits)))))))
  exact h₄ h' hn' hs'

end

section
variable {X : Cx} {pins : List (Addr × Obj)} {σ : L2.St} {H : Hp} {s : Shared}
theorem gx2_make {c P : Addr} {elt tg iter tg1 iter1 : Expr} {ifs ifs1 : List Expr} {vs1 : List Nat} {scope : Scope} {own : List (Str × Nat)} {gpos : Pos} {wi wi1 : TI} {g g1 : TG} {tt tt1 : TT} {te : TE} {Qe : Hp → Prop} {cons : V → Hp → Prop → Prop} {Q' : Value → Shared → Prop}
    (hr : Room 1 X.A) (hc : X.calm = true) (hN : X.N.Nodup) (TB : LamX.TabB X.base X.mg c P) (hcode : X.env.code = .ref c) (ok : GOk X.N X.env.scope scope own) (hv : ∀ i ∈ vs1, i ∈ own.map (·.2)) (hi : PI X tg iter wi)
    (hg : ∀ (s : Shared) (H : Hp) (C : Addr) (cl : List (Str × Addr)) (code : Value) (fp : List Addr) (pn : List (Addr × Obj)), PG (gX X s H (gE X scope cl C code) fp pn) tg g)
    (ht : ∀ (s : Shared) (H : Hp) (C : Addr) (cl : List (Str × Addr)) (code : Value) (fp : List Addr) (pn : List (Addr × Obj)), PTs (gX X s H (gE X scope cl C code) fp pn) ifs tt)
    (hi1 : ∀ (s : Shared) (H : Hp) (C : Addr) (cl : List (Str × Addr)) (code : Value) (fp : List Addr) (pn : List (Addr × Obj)), PI (gX X s H (gE X scope cl C code) fp pn) tg1 iter1 wi1)
    (hg1 : ∀ (s : Shared) (H : Hp) (C : Addr) (cl : List (Str × Addr)) (code : Value) (fp : List Addr) (pn : List (Addr × Obj)), PG (gX X s H (gE X scope cl C code) fp pn) tg1 g1)
    (ht1 : ∀ (s : Shared) (H : Hp) (C : Addr) (cl : List (Str × Addr)) (code : Value) (fp : List Addr) (pn : List (Addr × Obj)), PTs (gX X s H (gE X scope cl C code) fp pn) ifs1 tt1)
    (he : ∀ (s : Shared) (H : Hp) (C : Addr) (cl : List (Str × Addr)) (code : Value) (fp : List Addr) (pn : List (Addr × Obj)), PE (gX X s H (gE X scope cl C code) fp pn) elt te)
    (hs : ∀ v, genFold iter X.env v = pure v) (hs1 : ∀ env v, foldedSetIterable iter1 env v = pure v) (I : Inv X pins σ H s)
    (h : wi σ H fun J H1 => TabG H1 P ∧ ∀ H2, Tabbed P H1 H2 → ∃ W : Nat → Nat → Hp → Prop, (∃ m, W 0 m H2) ∧ GTurns2 J g tt wi1 g1 tt1 te (own.map (·.2)) vs1 σ W Qe cons)
    (hQ : ∀ Xg fp a g n s5, GPin Xg a g → GReady X Xg (wipe σ (own.map (·.2))) fp Qe cons a g n s5 → (∀ pins' σ' H' s', Inv Xg pins' σ' H' s' → Inv X pins σ H' s') → Q' (.ref a) s5) :
    wpAny (model X.prog X.w) X.A (eval (.GeneratorExp elt [⟨tg, iter, ifs, 0⟩, ⟨tg1, iter1, ifs1, 0⟩] scope gpos) X.env) Q' X.xe s := by
  have hfree : ∀ y ∈ scope.names, y.2 = .free → ∃ c, X.env.cells.lookup y.1 = some c := fun y hy e => by
    rcases ok.blk.free y hy e with k | k
    · exact I.ok.has _ (.inl k)
    · exact I.ok.has _ (.inr k)
  refine wpAny_GeneratorExp_make2 ok.co (closure_ok hfree) ok.cell ok.dot ok.blk.kind hr.depth ?_ hs
  refine thn (hi.run pins s σ H _ I h) fun xv s1 hx => thn hx fun itv s2 h2 => ?_
  obtain ⟨it, fp, tn, J, H2, rfl, I2, T, st2, f2, ⟨ps, hP, htr⟩, q2⟩ := h2
  have hPs : s2.heap.get? P = some { cls := .none, data := .fields ps } := I2.hok P _ hP
  have hPlt : P < s2.heap.objs.size := Heap.lt_size hPs
  have cd : PySem.W.CodeHd s2.heap c P := TB.code.keeps fun b u e => I2.bk b u e
  have lim2 : s2.heap.NoLimit := I2.nolimit
  have sz : ∀ b ∈ fp, b < s2.heap.objs.size := fun b hb => by
    obtain ⟨o, e, _⟩ := T.obj _ _ st2 b hb
    exact Heap.lt_size e
  have Pfp : ∀ b ∈ fp, b ≠ P := fun b hb e => by
    have z := (f2 b hb).1
    rw [e, hP] at z
    cases z
  have cont : ∀ (code : Value) (h3 : Heap) (tk : Nat) (ps' : Array Value), Heap.ExtBut P s2.heap h3 → s2.heap.objs.size ≤ h3.objs.size → h3.get? P = some { cls := .none, data := .fields ps' } → (∃ more, ps' = ps ++ more) → TriplesOk ps'.toList →
      wpAny (model X.prog X.w) X.A (builtinsFor X.env.globals X.env.builtins) (fun bi s₄ =>
        ∀ h', h'.Ns s₄.heap.objs.size (fun y => if y = ".0" then some (Value.ref it) else none) → Heap.SameBut s₄.heap.objs.size (s₄.heap.push { cls := .type "frame", data := .dict #[] }) h' →
          Q' (.ref h'.objs.size) { s₄ with
            gens := s₄.gens.push (.fresh (.compStart (.GeneratorExp elt [⟨tg, iter, ifs, 0⟩, ⟨tg1, iter1, ifs1, 0⟩] scope gpos) 0 (.ref it) .none (genEnv scope (cloFrom X.env.cells scope.names []) s₄.heap.objs.size code bi X.env))),
            toks := s₄.toks + 1 + 1 + 1,
            heap := h'.push { cls := .type "generator", data := .fields #[.int s₄.gens.size 0, .str "<genexpr>" (s₄.toks + 1), .str (X.env.qual ++ "<genexpr>") (s₄.toks + 1 + 1)] } }) X.xe { s2 with heap := h3, toks := tk } := by
    intro code h3 tk ps' hx hsz hP3 hmore ht3
    obtain ⟨more, rfl⟩ := hmore
    obtain ⟨bm, ob, e1, e2, e3, e4, e5, e6, e7, e8⟩ := TB.bm
    refine wpAny_builtinsFor (m := X.mg) (by rw [I2.ok.glob]; exact (I2.mod.glob.keeps I2.bk).extBut hx TB.gP) e1 e2 (hx _ _ e4 (I2.bk _ _ e5)) e6 e7 e8 ?_
    intro h' hn' hs'
    -- the def's state behind the code
    have I4 : Inv X pins σ (upd H2 P (.tbl (ps ++ more))) { s2 with heap := h3, toks := tk } := inv_tab (g' := s2.gens) (d' := s2.drawn) I2 hP hx hP3 I2.bare
    obtain ⟨W, ⟨m0, w0⟩, turn⟩ := q2 _ (⟨⟨ps ++ more, upd_same, ht3⟩, fun b hb => upd_ne hb⟩ : Tabbed P H2 (upd H2 P (.tbl (ps ++ more))))
    generalize hH4 : upd H2 P (.tbl (ps ++ more)) = H4 at I4 w0
    have nf4 : ∀ b ∈ fp, H4 b = none := fun b hb => by rw [← hH4, upd_ne (Pfp b hb)]; exact (f2 b hb).1
    have f4 : ∀ b ∈ fp, FpOk X pins H4 b ∧ b < ({ s2 with heap := h3, toks := tk } : Shared).heap.objs.size := fun b hb => ⟨⟨nf4 b hb, (f2 b hb).2⟩, Nat.lt_of_lt_of_le (sz b hb) hsz⟩
    have st4 : tn 0 h3 := T.keep _ _ _ st2 fun b hb o e => hx b o (Pfp b hb) e
    have hsz' : h'.objs.size = h3.objs.size + 1 := by rw [hs'.1, Heap.size_push]
    have keep' : ∀ b o, h3.get? b = some o → h'.get? b = some o := fun b o e => hs'.extBut b o (Nat.ne_of_lt (Heap.lt_size e)) (Heap.get?_push_of_some _ e)
    generalize hgo : ({ cls := .type "generator", data := .fields #[.int ({ s2 with heap := h3, toks := tk } : Shared).gens.size 0, .str "<genexpr>" (({ s2 with heap := h3, toks := tk } : Shared).toks + 1), .str (X.env.qual ++ "<genexpr>") (({ s2 with heap := h3, toks := tk } : Shared).toks + 1 + 1)] } : Obj) = go
    have keep5 : ∀ b o, h3.get? b = some o → (h'.push go).get? b = some o := fun b o e => Heap.get?_push_of_some _ (keep' b o e)
    have hga : (h'.push go).get? h'.objs.size = some go := Heap.get?_push_size _ (by rw [← hgo]; rfl)
    have hgd : ∀ v, go.data ≠ .cell v := fun v z => by rw [← hgo] at z; cases z
    have apart : ∀ b ∈ fp, h'.objs.size ≠ b := fun b hb e => by
      have h1 : b < h3.objs.size := (f4 b hb).2
      have h2 : b < h'.objs.size := by rw [hsz']; exact Nat.lt_succ_of_lt h1
      rw [e] at h2
      exact Nat.lt_irrefl _ h2
    have start : ∀ s5 : Shared, s5.os = s2.os → AllBare s5.gens → (∀ b o, (h'.push go).get? b = some o → s5.heap.get? b = some o) →
        Inv (gX X { s2 with heap := h3, toks := tk } H4 (gE X scope (cloFrom X.env.cells scope.names []) h3.objs.size code) fp [(h'.objs.size, go)]) [] (wipe σ (own.map (·.2))) H4 s5 := fun s5 os hb k =>
      gx_start I4 ok hN hr.hd f4 os hb (fun b o e => k b o (keep5 b o e)) ⟨_, (hn'.push go).keeps k⟩ (by show h3.objs.size < h'.objs.size; omega) (k _ _ hga) hgd
    refine hQ (gX X { s2 with heap := h3, toks := tk } H4 (gE X scope (cloFrom X.env.cells scope.names []) h3.objs.size code) fp [(h'.objs.size, go)]) fp h'.objs.size s2.gens.size (m0 + 1) _ ⟨go, _, _, by simp, by rw [← hgo], by rw [← hgo], by rw [← hgo]⟩ ?_ fun pins' σ' H' s' I' => ?_
    · refine ⟨⟨go, _, _, hga, by rw [← hgo], by rw [← hgo], by rw [← hgo]⟩, ?_, _, Array.getElem?_push_size .., rfl, ?_⟩
      · exact (lim2.extBut hx (fun e => by
          obtain ⟨_, hns, _⟩ := lim2
          obtain ⟨o', es, ep, ho, hd, _⟩ := hns
          rw [e, hPs] at ho
          cases ho
          cases hd)).keeps keep5
      · refine gx2_begin hc ok.co hv T (hg _ _ _ _ _ _ _) (ht _ _ _ _ _ _ _) (hi1 _ _ _ _ _ _ _) (hg1 _ _ _ _ _ _ _) (ht1 _ _ _ _ _ _ _) (he _ _ _ _ _ _ _) (hs1 _) turn (fun b hb p hp => ?_) (m0 + 1) m0 _ _ H4 (Nat.lt_succ_self _) (start _ rfl (allBare_setGen (AllBare.push I2.bare rfl) rfl) fun _ _ e => e) ?_ nf4 w0
        · have e : p = (h'.objs.size, go) := by simpa using hp
          subst e
          exact apart b hb
        · exact T.keep _ _ _ st4 fun b _ o e => keep5 b o e
    · exact I4.call' (ch := fp) I'.os I'.base I'.hok I'.bare fun b hb => ⟨(f4 b hb).1.2.2.2.1, (f4 b hb).1.2.1, (f4 b hb).1.2.2.2.2.1, (f4 b hb).1.2.2.2.2.2⟩
  refine ⟨lim2, ?_⟩
  cases hf : codeAmong gpos ps.toList with
  | none =>
    refine wpAny_genexprCodeX hcode (cd.code hPs htr) (cd.tab hPs) hf fun c' h' tk hx hge hlt hco' _ htab' _ => ?_
    obtain ⟨o1, vs, f1, tf, fl, tg, inF, tx, tt, op, _, _, _, _, _, _, _, _, _, htr, _⟩ := hco'
    exact cont _ h' tk _ hx (Nat.le_trans hge (Nat.le_of_lt hlt)) htab'.2 ⟨_, rfl⟩ htr
  | some cv =>
    refine wpAny_genexprCode_hit hcode (cd.code hPs htr) hf ?_
    exact cont cv s2.heap s2.toks ps (Heap.ExtBut.refl _ _) (Nat.le_refl _) hPs ⟨#[], by simp⟩ htr

end
section
variable {X : Cx}

def tAllG2 (P : Addr) (wi : TI) (g : TG) (tt : TT) (wi1 : TI) (g1 : TG) (tt1 : TT) (te : TE) (vs vs1 : List Nat) : TE := fun σ H Q => wi σ H fun J H1 => TabG H1 P ∧ ∀ H2, Tabbed P H1 H2 → ∃ W : Nat → Nat → Hp → Prop, (∃ m, W 0 m H2) ∧ GTurns2 J g tt wi1 g1 tt1 te vs vs1 σ W (fun H => Q (.bl true) H) (consAll fun b H => Q (.bl b) H)
def tAnyG2 (P : Addr) (wi : TI) (g : TG) (tt : TT) (wi1 : TI) (g1 : TG) (tt1 : TT) (te : TE) (vs vs1 : List Nat) : TE := fun σ H Q => wi σ H fun J H1 => TabG H1 P ∧ ∀ H2, Tabbed P H1 H2 → ∃ W : Nat → Nat → Hp → Prop, (∃ m, W 0 m H2) ∧ GTurns2 J g tt wi1 g1 tt1 te vs vs1 σ W (fun H => Q (.bl false) H) (consAny fun b H => Q (.bl b) H)
theorem pe_allG2 {c P : Addr} {elt tg iter tg1 iter1 : Expr} {ifs ifs1 : List Expr} {vs1 : List Nat} {scope : Scope} {own : List (Str × Nat)} {p pos gpos : Pos} {wi wi1 : TI} {g g1 : TG} {tt tt1 : TT} {te : TE}
    (hr : Room 1 X.A) (hc : X.calm = true) (hN : X.N.Nodup) (hgl : Gl X "all") (hm : X.mg "all" = none) (TB : LamX.TabB X.base X.mg c P) (hcode : X.env.code = .ref c) (ok : GOk X.N X.env.scope scope own) (hv : ∀ i ∈ vs1, i ∈ own.map (·.2)) (hi : PI X tg iter wi)
    (hg : ∀ (s : Shared) (H : Hp) (C : Addr) (cl : List (Str × Addr)) (code : Value) (fp : List Addr) (pn : List (Addr × Obj)), PG (gX X s H (gE X scope cl C code) fp pn) tg g)
    (ht : ∀ (s : Shared) (H : Hp) (C : Addr) (cl : List (Str × Addr)) (code : Value) (fp : List Addr) (pn : List (Addr × Obj)), PTs (gX X s H (gE X scope cl C code) fp pn) ifs tt)
    (hi1 : ∀ (s : Shared) (H : Hp) (C : Addr) (cl : List (Str × Addr)) (code : Value) (fp : List Addr) (pn : List (Addr × Obj)), PI (gX X s H (gE X scope cl C code) fp pn) tg1 iter1 wi1)
    (hg1 : ∀ (s : Shared) (H : Hp) (C : Addr) (cl : List (Str × Addr)) (code : Value) (fp : List Addr) (pn : List (Addr × Obj)), PG (gX X s H (gE X scope cl C code) fp pn) tg1 g1)
    (ht1 : ∀ (s : Shared) (H : Hp) (C : Addr) (cl : List (Str × Addr)) (code : Value) (fp : List Addr) (pn : List (Addr × Obj)), PTs (gX X s H (gE X scope cl C code) fp pn) ifs1 tt1)
    (he : ∀ (s : Shared) (H : Hp) (C : Addr) (cl : List (Str × Addr)) (code : Value) (fp : List Addr) (pn : List (Addr × Obj)), PE (gX X s H (gE X scope cl C code) fp pn) elt te)
    (hs : ∀ v, genFold iter X.env v = pure v := by intro _; rfl) (hs1 : ∀ env v, foldedSetIterable iter1 env v = pure v := by intro _ _; rfl)
    (hst : starEach [.GeneratorExp elt [⟨tg, iter, ifs, 0⟩, ⟨tg1, iter1, ifs1, 0⟩] scope gpos] X.env = (false, eval (.GeneratorExp elt [⟨tg, iter, ifs, 0⟩, ⟨tg1, iter1, ifs1, 0⟩] scope gpos) X.env) :: starEach [] X.env := by rfl) :
    PE X (.Call (.Name "all" p) [.GeneratorExp elt [⟨tg, iter, ifs, 0⟩, ⟨tg1, iter1, ifs1, 0⟩] scope gpos] [] pos) (tAllG2 P wi g tt wi1 g1 tt1 te (own.map (·.2)) vs1) := by
  refine ⟨fun pins s σ H Q I h => ?_⟩
  refine wpAny_Call_Name_kw (ld_blt I hgl hm boot_all ?_)
  refine PyProof.Rows.callWith_builtin1 ?_ hst (by rfl)
  rw [hst]
  show wpAny _ _ (spliced ((false, eval (.GeneratorExp elt [⟨tg, iter, ifs, 0⟩, ⟨tg1, iter1, ifs1, 0⟩] scope gpos) X.env) :: backTo pos (starEach [] X.env))) _ _ s
  refine Calls.spliced_cons (gx2_make (Qe := fun H => Q (.bl true) H) (cons := consAll fun b H => Q (.bl b) H) hr hc hN TB hcode ok hv hi hg ht hi1 hg1 ht1 he hs hs1 I h fun Xg fp a gg n s5 hp hG back => ?_)
  refine Calls.spliced_nil ?_
  refine call_function_tree F.kind_all F.plain_all F.entry_all (F.args_all1 _) ?_
  unfold Builtin.«all»
  refine wpAny_bind (m := oneArg "all" _) (wpAny_pure ?_)
  refine wpAny_bind (wpAny_pyIter_gen hG.1 ?_)
  refine wpAny_pure ⟨plainId_quiet F.plain_all_loop _, all_loop (Q := fun b H => Q (.bl b) H) hr hp (fun b pins' σ' H' s' I' q => ?_) n s5 hG⟩
  exact ⟨.bl b, H', back _ _ _ _ I', rfl, q⟩
theorem pe_anyG2 {c P : Addr} {elt tg iter tg1 iter1 : Expr} {ifs ifs1 : List Expr} {vs1 : List Nat} {scope : Scope} {own : List (Str × Nat)} {p pos gpos : Pos} {wi wi1 : TI} {g g1 : TG} {tt tt1 : TT} {te : TE}
    (hr : Room 1 X.A) (hc : X.calm = true) (hN : X.N.Nodup) (hgl : Gl X "any") (hm : X.mg "any" = none) (TB : LamX.TabB X.base X.mg c P) (hcode : X.env.code = .ref c) (ok : GOk X.N X.env.scope scope own) (hv : ∀ i ∈ vs1, i ∈ own.map (·.2)) (hi : PI X tg iter wi)
    (hg : ∀ (s : Shared) (H : Hp) (C : Addr) (cl : List (Str × Addr)) (code : Value) (fp : List Addr) (pn : List (Addr × Obj)), PG (gX X s H (gE X scope cl C code) fp pn) tg g)
    (ht : ∀ (s : Shared) (H : Hp) (C : Addr) (cl : List (Str × Addr)) (code : Value) (fp : List Addr) (pn : List (Addr × Obj)), PTs (gX X s H (gE X scope cl C code) fp pn) ifs tt)
    (hi1 : ∀ (s : Shared) (H : Hp) (C : Addr) (cl : List (Str × Addr)) (code : Value) (fp : List Addr) (pn : List (Addr × Obj)), PI (gX X s H (gE X scope cl C code) fp pn) tg1 iter1 wi1)
    (hg1 : ∀ (s : Shared) (H : Hp) (C : Addr) (cl : List (Str × Addr)) (code : Value) (fp : List Addr) (pn : List (Addr × Obj)), PG (gX X s H (gE X scope cl C code) fp pn) tg1 g1)
    (ht1 : ∀ (s : Shared) (H : Hp) (C : Addr) (cl : List (Str × Addr)) (code : Value) (fp : List Addr) (pn : List (Addr × Obj)), PTs (gX X s H (gE X scope cl C code) fp pn) ifs1 tt1)
    (he : ∀ (s : Shared) (H : Hp) (C : Addr) (cl : List (Str × Addr)) (code : Value) (fp : List Addr) (pn : List (Addr × Obj)), PE (gX X s H (gE X scope cl C code) fp pn) elt te)
    (hs : ∀ v, genFold iter X.env v = pure v := by intro _; rfl) (hs1 : ∀ env v, foldedSetIterable iter1 env v = pure v := by intro _ _; rfl)
    (hst : starEach [.GeneratorExp elt [⟨tg, iter, ifs, 0⟩, ⟨tg1, iter1, ifs1, 0⟩] scope gpos] X.env = (false, eval (.GeneratorExp elt [⟨tg, iter, ifs, 0⟩, ⟨tg1, iter1, ifs1, 0⟩] scope gpos) X.env) :: starEach [] X.env := by rfl) :
    PE X (.Call (.Name "any" p) [.GeneratorExp elt [⟨tg, iter, ifs, 0⟩, ⟨tg1, iter1, ifs1, 0⟩] scope gpos] [] pos) (tAnyG2 P wi g tt wi1 g1 tt1 te (own.map (·.2)) vs1) := by
  refine ⟨fun pins s σ H Q I h => ?_⟩
  refine wpAny_Call_Name_kw (ld_blt I hgl hm boot_any ?_)
  refine PyProof.Rows.callWith_builtin1 ?_ hst (by rfl)
  rw [hst]
  show wpAny _ _ (spliced ((false, eval (.GeneratorExp elt [⟨tg, iter, ifs, 0⟩, ⟨tg1, iter1, ifs1, 0⟩] scope gpos) X.env) :: backTo pos (starEach [] X.env))) _ _ s
  refine Calls.spliced_cons (gx2_make (Qe := fun H => Q (.bl false) H) (cons := consAny fun b H => Q (.bl b) H) hr hc hN TB hcode ok hv hi hg ht hi1 hg1 ht1 he hs hs1 I h fun Xg fp a gg n s5 hp hG back => ?_)
  refine Calls.spliced_nil ?_
  refine call_function_tree F.kind_any F.plain_any F.entry_any (F.args_any1 _) ?_
  unfold Builtin.«any»
  refine wpAny_bind (m := oneArg "any" _) (wpAny_pure ?_)
  refine wpAny_bind (wpAny_pyIter_gen hG.1 ?_)
  refine wpAny_pure ⟨plainId_quiet F.plain_any_loop _, any_loop (Q := fun b H => Q (.bl b) H) hr hp (fun b pins' σ' H' s' I' q => ?_) n s5 hG⟩
  exact ⟨.bl b, H', back _ _ _ _ I', rfl, q⟩
end
end GX

set_option Elab.async false
set_option linter.all false
set_option maxRecDepth 100000
set_option maxHeartbeats 2000000
/-! Tree: data as trees over the abstract heap, what stays of a heap (tables of code objects may grow, what is named may change), repr. -/
namespace Tree
open PySem PySem.Spec PyProof.Rows L2 GxR

/-! ### what stays -/
/-- all that is tracked is as it was, but what B names; a table of a code object may have grown -/
def Kx (B : List Addr) (H H' : Hp) : Prop := ∀ b o, b ∉ B → H b = some o → H' b = some o ∨ ∃ ps qs, o = .tbl ps ∧ H' b = some (.tbl qs) ∧ (TriplesOk ps.toList → TriplesOk qs.toList)
theorem Kx.refl {B : List Addr} (H : Hp) : Kx B H H := fun _ _ _ h => .inl h
theorem Kx.trans {B : List Addr} {H H1 H2 : Hp} (a : Kx B H H1) (b : Kx B H1 H2) : Kx B H H2 := fun c o n h => by
  rcases a c o n h with h1 | ⟨ps, qs, rfl, h1, f⟩
  · exact b c o n h1
  · rcases b c _ n h1 with h2 | ⟨ps', qs', e, h2, f'⟩
    · exact .inr ⟨ps, qs, rfl, h2, f⟩
    · cases e
      exact .inr ⟨ps, qs', rfl, h2, fun z => f' (f z)⟩
theorem Kx.of {B : List Addr} {H H' : Hp} (k : Kx [] H H') : Kx B H H' := fun b o _ h => k b o (by simp) h
theorem Kx.sub {B C : List Addr} {H H' : Hp} (k : Kx B H H') (h : ∀ b ∈ B, b ∈ C) : Kx C H H' := fun b o n e => k b o (fun z => n (h b z)) e
/-- a new object -/
theorem Kx.new {B : List Addr} {H : Hp} {p : Addr} {o : HO} (h : H p = none) : Kx B H (upd H p o) := fun b u _ e => .inl (by rw [upd_ne (ne_of_none e h)]; exact e)
/-- a named object is written -/
theorem Kx.put {B : List Addr} {H : Hp} {p : Addr} {o : HO} (h : p ∈ B) : Kx B H (upd H p o) := fun b u n e => .inl (by rw [upd_ne (fun z => n (by rw [z]; exact h))]; exact e)
/-- an object younger than H may change -/
theorem Kx.mut {B : List Addr} {H H' : Hp} {p : Addr} {o : HO} (k : Kx B H H') (h : H p = none) : Kx B H (upd H' p o) := fun b u n e => by
  have hb : b ≠ p := ne_of_none e h
  rw [upd_ne hb]
  exact k b u n e
theorem Kx.at {B : List Addr} {H H' : Hp} (k : Kx B H H') {b : Addr} {o : HO} (n : b ∉ B) (h : H b = some o) (ht : ∀ ps, o ≠ .tbl ps) : H' b = some o := by
  rcases k b o n h with h1 | ⟨ps, _, e, _⟩
  · exact h1
  · exact absurd e (ht ps)
theorem Kx.lst {B : List Addr} {H H' : Hp} (k : Kx B H H') {b : Addr} {xs : List V} (n : b ∉ B) (h : H b = some (.lst xs)) : H' b = some (.lst xs) := k.at n h fun _ z => by cases z
theorem Kx.tup {B : List Addr} {H H' : Hp} (k : Kx B H H') {b : Addr} {xs : List V} (n : b ∉ B) (h : H b = some (.tup xs)) : H' b = some (.tup xs) := k.at n h fun _ z => by cases z
theorem Kx.free {B : List Addr} {H H' : Hp} (k : Kx B H H') {b : Addr} (n : b ∉ B) (h : H' b = none) : H b = none := by
  cases e : H b with
  | none => rfl
  | some o =>
    rcases k b o n e with h1 | ⟨_, _, _, h1, _⟩ <;> rw [h] at h1 <;> cases h1
/-- what Tabbed says -/
theorem Kx.tabbed {B : List Addr} {H H' : Hp} {P : Addr} (h0 : TabG H P) (h : Tabbed P H H') : Kx B H H' := fun b o _ e => by
  by_cases hb : b = P
  · subst hb
    obtain ⟨ps, e1, t1⟩ := h0
    obtain ⟨⟨qs, e2, t2⟩, _⟩ := h
    rw [e] at e1; cases e1
    exact .inr ⟨ps, qs, rfl, e2, fun _ => t2⟩
  · exact .inl (by rw [h.2 b hb]; exact e)
theorem Kx.tab {B : List Addr} {H H' : Hp} {P : Addr} (k : Kx B H H') (n : P ∉ B) (h : TabG H P) : TabG H' P := by
  obtain ⟨ps, e, t⟩ := h
  rcases k P _ n e with h1 | ⟨_, qs, e2, h1, f⟩
  · exact ⟨ps, h1, t⟩
  · cases e2
    exact ⟨qs, h1, f t⟩
/-- the tables stand -/
def Tb (Ps : List Addr) (H : Hp) : Prop := ∀ P ∈ Ps, TabG H P
theorem Tb.kx {B : List Addr} {H H' : Hp} {Ps : List Addr} (h : Tb Ps H) (k : Kx B H H') (n : ∀ P ∈ Ps, P ∉ B := by intro P _; simp) : Tb Ps H' := fun P hP => k.tab (n P hP) (h P hP)
theorem Tb.sub {H : Hp} {Ps Qs : List Addr} (h : Tb Ps H) (s : ∀ P ∈ Qs, P ∈ Ps) : Tb Qs H := fun P hP => h P (s P hP)

/-! ### trees -/
mutual
/-- v is the tree d over H, no part of it at an address of B -/
inductive Tr (B : List Addr) (H : Hp) : V → PyData → Prop
  | non : Tr B H .non .none
  | bl (b : Bool) : Tr B H (.bl b) (.bool b)
  | int (i : Int) : Tr B H (.int i) (.int i)
  | str (x : Str) : Tr B H (.str x) (.str x)
  | lst {a : Addr} {xs : List V} {ds : List PyData} : a ∉ B → H a = some (.lst xs) → TrAll B H xs ds → Tr B H (.ref a) (.list ds)
  | tup {a : Addr} {xs : List V} {ds : List PyData} : a ∉ B → H a = some (.tup xs) → TrAll B H xs ds → Tr B H (.ref a) (.tuple ds)
  | dic {a : Addr} : a ∉ B → H a = some (.dK []) → Tr B H (.ref a) (.dict [])
inductive TrAll (B : List Addr) (H : Hp) : List V → List PyData → Prop
  | nil : TrAll B H [] []
  | cons {v : V} {vs : List V} {d : PyData} {ds : List PyData} : Tr B H v d → TrAll B H vs ds → TrAll B H (v :: vs) (d :: ds)
end
mutual
theorem Tr.kx {B C : List Addr} {H H' : Hp} (k : Kx C H H') (hs : ∀ b ∈ C, b ∈ B) : ∀ (d : PyData) (v : V), Tr B H v d → Tr B H' v d
  | _, _, .non => .non
  | _, _, .bl b => .bl b
  | _, _, .int i => .int i
  | _, _, .str x => .str x
  | .list ds, _, .lst n h l => .lst n (k.lst (fun z => n (hs _ z)) h) (TrAll.kx k hs ds _ l)
  | .tuple ds, _, .tup n h l => .tup n (k.tup (fun z => n (hs _ z)) h) (TrAll.kx k hs ds _ l)
  | _, _, .dic n h => .dic n (k.at (fun z => n (hs _ z)) h fun _ z => by cases z)
theorem TrAll.kx {B C : List Addr} {H H' : Hp} (k : Kx C H H') (hs : ∀ b ∈ C, b ∈ B) : ∀ (ds : List PyData) (vs : List V), TrAll B H vs ds → TrAll B H' vs ds
  | _, _, .nil => .nil
  | d :: ds, _, .cons h t => .cons (Tr.kx k hs d _ h) (TrAll.kx k hs ds _ t)
end
mutual
/-- fewer addresses are forbidden -/
theorem Tr.less {B C : List Addr} {H : Hp} (hs : ∀ b ∈ C, b ∈ B) : ∀ (d : PyData) (v : V), Tr B H v d → Tr C H v d
  | _, _, .non => .non
  | _, _, .bl b => .bl b
  | _, _, .int i => .int i
  | _, _, .str x => .str x
  | .list ds, _, .lst n h l => .lst (fun z => n (hs _ z)) h (TrAll.less hs ds _ l)
  | .tuple ds, _, .tup n h l => .tup (fun z => n (hs _ z)) h (TrAll.less hs ds _ l)
  | _, _, .dic n h => .dic (fun z => n (hs _ z)) h
theorem TrAll.less {B C : List Addr} {H : Hp} (hs : ∀ b ∈ C, b ∈ B) : ∀ (ds : List PyData) (vs : List V), TrAll B H vs ds → TrAll C H vs ds
  | _, _, .nil => .nil
  | d :: ds, _, .cons h t => .cons (Tr.less hs d _ h) (TrAll.less hs ds _ t)
end
section
variable {B : List Addr} {H H' : Hp} {v : V} {d : PyData} {vs : List V} {ds : List PyData}
theorem Tr.up (h : Tr B H v d) (k : Kx [] H H') : Tr B H' v d := Tr.kx k (by simp) d v h
theorem Tr.upB (h : Tr B H v d) (k : Kx B H H') : Tr B H' v d := Tr.kx k (fun _ z => z) d v h
theorem TrAll.up (h : TrAll B H vs ds) (k : Kx [] H H') : TrAll B H' vs ds := TrAll.kx k (by simp) ds vs h
theorem TrAll.upB (h : TrAll B H vs ds) (k : Kx B H H') : TrAll B H' vs ds := TrAll.kx k (fun _ z => z) ds vs h
theorem Tr.nil (h : Tr B H v d) : Tr [] H v d := Tr.less (by simp) d v h
theorem TrAll.nilB (h : TrAll B H vs ds) : TrAll [] H vs ds := TrAll.less (by simp) ds vs h
theorem TrAll.length : ∀ {vs : List V} {ds : List PyData}, TrAll B H vs ds → vs.length = ds.length
  | _, _, .nil => rfl
  | _, _, .cons _ t => congrArg (· + 1) t.length
theorem TrAll.get : ∀ {vs : List V} {ds : List PyData} {i : Nat} {v : V}, TrAll B H vs ds → vs[i]? = some v → ∃ d, ds[i]? = some d ∧ Tr B H v d
  | _, _, _, _, .nil, e => by simp at e
  | _, _, 0, _, .cons h _, e => by simp at e; subst e; exact ⟨_, rfl, h⟩
  | _, _, i + 1, _, .cons _ t, e => by
    obtain ⟨d, h1, h2⟩ := TrAll.get (i := i) t (by simpa using e)
    exact ⟨d, by simpa using h1, h2⟩
theorem TrAll.get' : ∀ {vs : List V} {ds : List PyData} {i : Nat} {d : PyData}, TrAll B H vs ds → ds[i]? = some d → ∃ v, vs[i]? = some v ∧ Tr B H v d
  | _, _, _, _, .nil, e => by simp at e
  | _, _, 0, _, .cons h _, e => by simp at e; subst e; exact ⟨_, rfl, h⟩
  | _, _, i + 1, _, .cons _ t, e => by
    obtain ⟨d, h1, h2⟩ := TrAll.get' (i := i) t (by simpa using e)
    exact ⟨d, by simpa using h1, h2⟩
theorem TrAll.append : ∀ {vs ws : List V} {ds es : List PyData}, TrAll B H vs ds → TrAll B H ws es → TrAll B H (vs ++ ws) (ds ++ es)
  | _, _, _, _, .nil, s => s
  | _, _, _, _, .cons r t, s => .cons r (TrAll.append t s)
theorem TrAll.take : ∀ {vs : List V} {ds : List PyData} (n : Nat), TrAll B H vs ds → TrAll B H (vs.take n) (ds.take n)
  | _, _, 0, _ => .nil
  | _, _, _ + 1, .nil => .nil
  | _, _, n + 1, .cons r t => .cons r (TrAll.take n t)
theorem TrAll.drop : ∀ {vs : List V} {ds : List PyData} (n : Nat), TrAll B H vs ds → TrAll B H (vs.drop n) (ds.drop n)
  | _, _, 0, r => r
  | _, _, _ + 1, .nil => .nil
  | _, _, n + 1, .cons _ t => TrAll.drop n t
theorem TrAll.reverse : ∀ {vs : List V} {ds : List PyData}, TrAll B H vs ds → TrAll B H vs.reverse ds.reverse
  | _, _, .nil => .nil
  | _, _, .cons r t => by
    rw [List.reverse_cons, List.reverse_cons]
    exact TrAll.append (TrAll.reverse t) (.cons r .nil)
theorem TrAll.snoc (h : TrAll B H vs ds) (r : Tr B H v d) : TrAll B H (vs ++ [v]) (ds ++ [d]) := h.append (.cons r .nil)
theorem TrAll.ints : ∀ ns : List Int, TrAll B H (ns.map V.int) (ns.map PyData.int)
  | [] => .nil
  | n :: ns => .cons (.int n) (TrAll.ints ns)
end

/-! ### kinds -/
def tyD : PyData → String
  | .none => "NoneType"
  | .bool _ => "bool"
  | .int _ => "int"
  | .str _ => "str"
  | .list _ => "list"
  | .tuple _ => "tuple"
  | .dict _ => "dict"
theorem Tr.ty {K : PySem.W.Frag} {B : List Addr} {H : Hp} {v : V} {d : PyData} (h : Tr B H v d) : TyX K H v (.type (tyD d)) := by
  cases h with
  | non => exact .base .non
  | bl b => exact .base (.bl b)
  | int i => exact .base (.int i)
  | str x => exact .base (.str x)
  | lst _ h _ => exact .base (.lst h)
  | tup _ h _ => exact .base (.tup h)
  | dic _ h => exact .base (.dK h)

/-! ### to the library's Reads -/
theorem dic_entries {P : Program} {w : World} {h : Heap} {a : Addr} (x : h.DictOf (mixKind P w) a []) : ∃ o es n, h.get? a = some o ∧ o.cls = .type "dict" ∧ o.data = .dict es n ∧ es.toList = [] := by
  obtain ⟨o, es, n, e, hx, hd, _, hes, _⟩ := x
  refine ⟨o, es, n, e, hx.1, hd, ?_⟩
  cases q : es.toList with
  | nil => rfl
  | cons y r =>
    rw [q] at hes
    exact nomatch hes
section
variable {X : Cx} {pins : List (Addr × Obj)} {σ : L2.St} {s : Shared}
mutual
theorem Tr.reads {B : List Addr} {H : Hp} (I : Inv X pins σ H s) : ∀ (d : PyData) (v : V) (u : Value), Tr B H v d → RelV v u → ∃ as, Reads s.heap u d as ∧ ∀ b ∈ as, H b ≠ none
  | .none, v, u, h, r => by
    cases h
    cases r
    exact ⟨[], .none, by simp⟩
  | .bool b, v, u, h, r => by
    cases h
    cases r
    exact ⟨[], .bool b, by simp⟩
  | .int i, v, u, h, r => by
    cases h
    obtain ⟨t, rfl⟩ := r
    exact ⟨[], .int i t, by simp⟩
  | .str x, v, u, h, r => by
    cases h
    obtain ⟨t, rfl⟩ := r
    exact ⟨[], .str x t, by simp⟩
  | .list ds, v, u, h, r => by
    cases h with
    | lst n e l =>
      rename_i a xs
      obtain rfl : u = Value.ref a := r
      obtain ⟨_, its, k, rv, e2⟩ := I.hok a _ e
      obtain ⟨as, h1, h2⟩ := TrAll.reads I ds xs its l rv
      exact ⟨a :: as, .list e2 rfl rfl (by simpa using h1), fun b hb => by
        rcases List.mem_cons.mp hb with z | z
        · rw [z, e]; simp
        · exact h2 b z⟩
  | .tuple ds, v, u, h, r => by
    cases h with
    | tup n e l =>
      rename_i a xs
      obtain rfl : u = Value.ref a := r
      obtain ⟨_, its, rv, o, e2, c, k, d⟩ := I.hok a _ e
      obtain ⟨as, h1, h2⟩ := TrAll.reads I ds xs its l rv
      exact ⟨as, .tuple e2 c d (by simpa using h1), h2⟩
  | .dict kvs, v, u, h, r => by
    cases h with
    | dic n e =>
      rename_i a
      obtain rfl : u = Value.ref a := r
      obtain ⟨_, _, vs, kv, x⟩ := I.hok a _ e
      cases kv
      obtain ⟨o, es, k, e2, c, hd, hes⟩ := dic_entries x
      refine ⟨a :: [] ++ [], .dict (n := k) e2 c hd (by rw [hes]; exact .nil) (by rw [hes]; exact .nil), fun b hb => ?_⟩
      have z : b = a := by simpa using hb
      rw [z, e]; simp
theorem TrAll.reads {B : List Addr} {H : Hp} (I : Inv X pins σ H s) : ∀ (ds : List PyData) (vs : List V) (us : List Value), TrAll B H vs ds → Vals vs us → ∃ as, ReadsAll s.heap us ds as ∧ ∀ b ∈ as, H b ≠ none
  | [], vs, us, h, r => by
    cases h
    cases r
    exact ⟨[], .nil, by simp⟩
  | d :: ds, vs, us, h, r => by
    cases h with
    | cons h1 h2 =>
      cases r with
      | cons r1 r2 =>
        obtain ⟨as, a1, a2⟩ := Tr.reads I d _ _ h1 r1
        obtain ⟨bs, b1, b2⟩ := TrAll.reads I ds _ _ h2 r2
        exact ⟨as ++ bs, .cons a1 b1, fun b hb => (List.mem_append.mp hb).elim (a2 b) (b2 b)⟩
end
/-- repr of a tree, where no guard is under way -/
def rRepr : List V → Hp → VK → Prop := fun xs H Q => ∃ v d, xs = [v] ∧ Tr [] H v d ∧ d.showable = true ∧ d.depth ≤ 40 ∧ d.shown.length ≤ sizeLine ∧ Q (.str d.shown) H
theorem call_repr_tree (hg : X.A.guards = some []) (hu : X.A.units + 64 < cLine) (hm : ∃ o, X.base.get? sysModules = some o) : CallR X (.builtin "repr") rRepr := by
  intro pins s σ H vs us Q I r h
  obtain ⟨v, d, rfl, ht, hs, hd, hz, q⟩ := h
  cases r with
  | cons r rr =>
    cases rr
    rename_i u
    obtain ⟨as, hr, ha⟩ := Tr.reads I d v u ht r
    have fin : ∀ (h' : Heap) (t tk : Nat), (∀ b o, s.heap.get? b = some o → h'.get? b = some o) → EP X pins σ Q (.str d.shown t) { s with heap := h', toks := tk } := fun h' t tk k => ⟨.str d.shown, H, I.kept (t' := tk) k, ⟨t, rfl⟩, q⟩
    cases hr with
    | none => exact PySem.P.repr_of_none (fin s.heap _ _ fun _ _ e => e)
    | bool b => exact PySem.P.repr_of_bool (fin s.heap _ _ fun _ _ e => e)
    | int i t => exact PySem.P.repr_of_int (by simpa [PyData.showable] using hs) (fin s.heap _ _ fun _ _ e => e)
    | str x t => exact PySem.P.repr_of_str (fin s.heap _ _ fun _ _ e => e) hz
    | list h1 h2 h3 h4 =>
      exact repr_of_reads' (.list h1 h2 h3 h4) hs (fun _ z => by
        obtain ⟨o, e⟩ := hm
        exact ha _ z (I.bs _ _ e).2) hg (by omega) (fun _ _ e => e) (fun h' t tk k => fin h' t tk k) hz
    | tuple h1 h2 h3 h4 =>
      exact repr_of_reads' (.tuple h1 h2 h3 h4) hs (fun _ z => by
        obtain ⟨o, e⟩ := hm
        exact ha _ z (I.bs _ _ e).2) hg (by omega) (fun _ _ e => e) (fun h' t tk k => fin h' t tk k) hz
    | dict h1 h2 h3 h4 h5 =>
      exact repr_of_reads' (.dict h1 h2 h3 h4 h5) hs (fun _ z => by
        obtain ⟨o, e⟩ := hm
        exact ha _ z (I.bs _ _ e).2) hg (by omega) (fun _ _ e => e) (fun h' t tk k => fin h' t tk k) hz
end
end Tree

set_option Elab.async false
set_option linter.all false
set_option maxRecDepth 100000
set_option maxHeartbeats 2000000
/-! EndG: the end of a law row whose own def asks repr: no guard is under way where it is called. -/
namespace EndG
open PySem PySem.Spec PyProof.Rows L2
/-- a def kept where no guard is under way -/
structure FnG (P : Program) (w : World) (K : PySem.W.Frag) (mg : Str → Option Value) (base : Heap) (k : Nat) (f : Addr) (fd : FuncData) (ps : List Str) (sp : Sp) : Prop where
  len : ∀ vs H Q E, sp vs H Q E → vs.length = ps.length
  run : ∀ (A : Around) (outer : List Env) (s : Shared) (H : Hp) (args : Args) (us : List Value) (vs : List V) (Q : VK) (E : XK), A.guards = some [] → Room k A → Env0 P w K mg base A outer s H → BindsTo s fd args (ps.zip us) → Vals vs us → sp vs H Q E →
    codeAny (model P w) A (.call (.ref f) args) (CR CX0 outer P w H s Q E) s
section
variable {P : Program} {w : World} {K : PySem.W.Frag} {mg : Str → Option Value} {base : Heap}
theorem fnG {x qual : Str} {st : Stmt} {f : Addr} {fd : FuncData} {N ps : List Str} {k : Nat} {sp : Sp} (F : FunD K x qual (defArgs st) (defBody st) (defScope st) [] [] f fd) (S : FnScope N ps (defScope st)) (len : ∀ vs H Q E, sp vs H Q E → vs.length = ps.length)
    (hbody : ∀ (cdv : Value) (A : Around) (outer : List Env) (s : Shared) (H : Hp) (vs : List V) (Q : VK) (E : XK), A.guards = some [] → fd.code = cdv → Room k (A.deeper (envOfC qual (defScope st) s.heap.objs.size f cdv)) → sp vs H Q E →
      ∃ t, PSs (cxOf CX0 P w K mg base N qual (defScope st) f cdv A outer s H E).nox (defBody st) t ∧ t { nx := fun _ H' => Q .non H', rt := Q } (start N vs) H) : FnG P w K mg base (k + 1) f fd ps sp := by
  obtain ⟨oc, od, dV, kV, doc, pm, an, cdv, ct, osl, rfl, lk, hcd, _, _⟩ := F.ex
  refine ⟨len, fun A outer s H args us vs Q E hgu hr e0 hb r hsp => ?_⟩
  have KX : K.In s.heap := e0.mod.kin.keeps fun b o e => (e0.bs b o e).1
  have lim := e0.mod.nolimit.keeps fun b o e => (e0.bs b o e).1
  have hkind : ∀ y ∈ ps.zip us, (defScope st).names.lookup y.1 = some .local ∨ ((defScope st).names.lookup y.1 = some .cell ∧ ((cellsFrom (s.heap.objs.size + 1) (defScope st).names []).lookup y.1).isSome = true) := fun y hy =>
    (S.par y.1 (List.of_mem_zip (show (y.1, y.2) ∈ ps.zip us from hy)).1).elim .inl fun q => .inr ⟨q, PySem.W.cellsFrom_some _ _ _ (.inl q)⟩
  refine codeAny_call_function hr.depth (KX _ _ lk) rfl S.co S.gen rfl (PySem.W.codeRec_of KX hcd) (hb _ _ _ _ (wpAny_newFunctionEnv_cells S.kind hkind fun env he s1 x => ?_))
  subst he
  refine ⟨lim.keeps x.toInCall.keep, codeAny_func ?_⟩
  obtain ⟨t, ht, hq⟩ := hbody cdv A outer s H vs Q E hgu rfl (hr.deeper _) hsp
  have I := inv_start (CX := CX0) (E := E) S hr.hd e0 (len _ _ _ _ hsp) r x
  refine wpAny_mono (ht.nox.run [] s1 (start N vs) H _ I hq) (fun fl s' hs => ?_) fun e s' hs => hs
  cases fl with
  | ret u => obtain ⟨v, σ', H', J, rv, q⟩ := hs; exact ⟨v, H', J.os, J.bare, J.base, J.hok, rv, q⟩
  | next => obtain ⟨σ', H', J, q⟩ := hs; exact ⟨V.non, H', J.os, J.bare, J.base, J.hok, rfl, q⟩
  | brk => obtain ⟨_, _, _, q⟩ := hs; exact q.elim
  | cont => obtain ⟨_, _, _, q⟩ := hs; exact q.elim
/-- what is known of the law's promise at the head's heap h; cs: the code objects with their tables -/
def LawAtG (l : PySem.W.OpenLaw) (w : World) (K : PySem.W.Frag) (k n : Nat) (x : Str) (mg : Str → Option Value) (fa : Addr) (h : Heap) : Prop :=
  ∃ (fd : FuncData) (cs : List (Addr × Addr)) (sp : Sp), (∀ p ∈ cs, h.get? p.2 = some { cls := .none, data := .fields #[] }) ∧ (∀ p ∈ cs, K.lookup p.2 = none) ∧ (∀ p ∈ cs, PySem.W.CodeHd h p.1 p.2) ∧ (∃ o, h.get? sysModules = some o ∧ o.cls = .type "dict") ∧ (∀ (s : Shared) (u : Value), BindsTo s fd ⟨[u], []⟩ [(x, u)]) ∧
    (∀ (H : Hp) (a : Addr) (ns : List Int), ns.length ≤ n → (∀ z ∈ ns, Builtin.Int.intBits z ≤ 1048576) → (∀ p ∈ cs, H p.2 = some (.tbl #[])) → SqL K H a (ns.map V.int) → sp [.ref a] H (fun v _ => v = .bl true) fun _ _ _ => False) ∧
    ∀ base : Heap, K.In base → base.Ns mainGlobals mg → (∀ p ∈ cs, LamX.TabB base mg p.1 p.2) → (∃ o, base.get? sysModules = some o) → FnG l.prog w K mg base k fa fd [x] sp

/-- the call of the law's def behind the head; T: the tables' places -/
theorem law_callG {mb : Str → Option Value} {k : Nat} {fa a : Addr} {cs : List (Addr × Addr)} {fd : FuncData} {x : Str} {sp : Sp} {s₁ : Shared} {vs : List Value} {ns : List Int}
    (KX : K.In s₁.heap) (hns : s₁.heap.Ns mainGlobals mg) (hb : s₁.heap.Ns builtinsNs mb) (hbb : ∀ x : Str, x ≠ "__name__" → mb x = bootBuiltins x) (hlim : s₁.heap.NoLimit) (hg : s₁.gens = #[])
    (hT : ∀ p ∈ cs, s₁.heap.get? p.2 = some { cls := .none, data := .fields #[] }) (nT : ∀ p ∈ cs, K.lookup p.2 = none) (C : ∀ p ∈ cs, PySem.W.CodeHd s₁.heap p.1 p.2)
    (hbm : ∃ (bm : Addr) (ob : Obj), mg "__builtins__" = some (.ref bm) ∧ bm ≠ builtinsNs ∧ s₁.heap.get? bm = some ob ∧ ob.cls = .type "module" ∧ ob.dict = some builtinsNs ∧ ob.data = .plain)
    (ha : s₁.heap.get? a = some { cls := .type "list", data := .seq vs.toArray }) (hi : IntsAre vs ns) (hl : ns.length ≤ sizeLine) (hr : Room k callerA)
    (F : ∀ base : Heap, K.In base → base.Ns mainGlobals mg → (∀ p ∈ cs, LamX.TabB base mg p.1 p.2) → (∃ o, base.get? sysModules = some o) → FnG P w K mg base k fa fd [x] sp) (hsm : ∃ o, s₁.heap.get? sysModules = some o ∧ o.cls = .type "dict") (hbind : ∀ (s : Shared) (u : Value), BindsTo s fd ⟨[u], []⟩ [(x, u)])
    (hsp : ∀ H : Hp, (∀ p ∈ cs, H p.2 = some (.tbl #[])) → SqL K H a (ns.map V.int) → sp [.ref a] H (fun v _ => v = .bl true) fun _ _ _ => False) :
    codeAny (model P w) callerA (.call (.ref fa) ⟨[.ref a], []⟩) (fun r s' => r = .ok (.ret (.bool true)) ∧ OldK s₁.heap s'.heap ∧ s'.os = s₁.os ∧ AllBare s'.gens) s₁ := by
  have rv := vals_ints hi
  have lenV := hi.length
  -- the places of the tables
  have isT : ∀ b : Addr, (∃ p ∈ cs, p.2 = b) → s₁.heap.get? b = some { cls := .none, data := .fields #[] } := fun b ⟨p, hp, e⟩ => e ▸ hT p hp
  have aT : ¬ ∃ p ∈ cs, p.2 = a := fun z => by
    have q := (isT a z).symm.trans ha
    cases q
  -- H: nothing but tables and (where it is no object of the module) the script
  have core : ∀ H : Hp, (∀ p ∈ cs, H p.2 = some (.tbl #[])) → (∀ b, H b = none ∨ (∃ p ∈ cs, p.2 = b) ∨ ∃ o xs, H b = some (.frz o (.lst xs))) → SqL K H a (ns.map V.int) → HOk P w H s₁.heap → (∀ b, H b ≠ none → b = a ∨ ∃ p ∈ cs, p.2 = b) → (H a ≠ none → K.lookup a = none) →
      codeAny (model P w) callerA (.call (.ref fa) ⟨[.ref a], []⟩) (fun r s' => r = .ok (.ret (.bool true)) ∧ OldK s₁.heap s'.heap ∧ s'.os = s₁.os ∧ AllBare s'.gens) s₁ := by
    intro H hH hO hS hok hA hK
    have low : ∀ {b : Addr} {o : Obj}, s₁.heap.get? b = some o → H b = none → (hidT s₁.heap H).get? b = some o := fun e n => hidT_get e n
    have untr : ∀ {b : Addr} {o : Obj}, s₁.heap.get? b = some o → (∀ vs n, o.data ≠ .seq vs n) → o.data ≠ .fields #[] → H b = none := fun {b o} e h1 h2 => by
      refine Classical.byContradiction fun q => ?_
      rcases hA b q with e' | e'
      · subst e'; rw [ha] at e; cases e; exact h1 _ _ rfl
      · rw [isT b e'] at e; cases e; exact h2 rfl
    have nsL : ∀ {b : Addr} {m : Str → Option Value}, s₁.heap.Ns b m → (hidT s₁.heap H).Ns b m := fun {b m} ⟨o, es, ep, e, d, r⟩ =>
      ⟨o, es, ep, low e (untr e (fun _ _ z => by rw [d] at z; cases z) fun z => by rw [d] at z; cases z), d, r⟩
    have hKb : K.In (hidT s₁.heap H) := fun b o e => low (KX b o e) (Classical.byContradiction fun q => by
      rcases hA b q with e' | ⟨p, hp, ep⟩
      · subst e'; rw [hK q] at e; cases e
      · rw [← ep, nT p hp] at e; cases e)
    have hM : L2.Mod K mg (hidT s₁.heap H) := ⟨hKb, nsL hns, ⟨mb, nsL hb, hbb⟩, hlim.elim fun mc h => ⟨mc, nsL h.1, h.2⟩⟩
    have gne : ∀ (b : Addr), s₁.heap.get? b = some { cls := .none, data := .fields #[] } → mainGlobals ≠ b := fun b e z => by
      obtain ⟨o, es, ep, e', hd, _⟩ := hns
      rw [z, e] at e'; cases e'; cases hd
    have TB : ∀ p ∈ cs, LamX.TabB (hidT s₁.heap H) mg p.1 p.2 := fun p hp => by
      refine ⟨?_, ?_, gne _ (hT p hp)⟩
      · obtain ⟨o, us, file, tf, flags, tg, inF, text, tt, e1, r0, r1, r2, r⟩ := C p hp
        refine ⟨o, us, file, tf, flags, tg, inF, text, tt, low e1 (untr e1 (fun _ _ z => ?_) fun z => ?_), r0, r1, r2, r⟩
        · rw [r1] at z; cases z
        · rw [r1] at z; cases z; simp at r2
      · obtain ⟨bm, ob, b1, b2, b3, b4, b5, b6⟩ := hbm
        refine ⟨bm, ob, b1, b2, fun q => ?_, fun q => ?_, low b3 (untr b3 (fun _ _ z => ?_) fun z => ?_), b4, b5, b6⟩
        · obtain ⟨o, es, ep, e, hd, _⟩ := hns
          rw [q, e] at b3; cases b3; rw [hd] at b6; cases b6
        · rw [q, hT p hp] at b3; cases b3; cases b6
        · rw [b6] at z; cases z
        · rw [b6] at z; cases z
    have e0 : Env0 P w K mg (hidT s₁.heap H) callerA [] s₁ H := ⟨rfl, hM, fun b o e => of_hidT e, Nat.le_of_eq (hidT_size _ _), trivial, fun b hb => absurd (show b ∈ ([] : List Addr) from hb) (by simp), hok, .of_eq hg⟩
    have sm : ∃ o, (hidT s₁.heap H).get? sysModules = some o := by
      obtain ⟨o, e, c⟩ := hsm
      refine ⟨o, low e (Classical.byContradiction fun q => ?_)⟩
      rcases hA _ q with e' | e'
      · rw [e', ha] at e; cases e; exact absurd (Value.type.inj c) (by decide)
      · rw [isT _ e'] at e; cases e; cases c
    refine codeAny_mono ((F _ hKb (nsL hns) TB sm).run callerA [] s₁ H ⟨[.ref a], []⟩ [.ref a] [.ref a] _ _ rfl hr e0 (hbind s₁ (.ref a)) (.cons rfl .nil) (hsp H hH hS)) fun r s' h => ?_
    match r, h with
    | .error e, h => exact False.elim h
    | .ok .next, h => exact False.elim h
    | .ok .brk, h => exact False.elim h
    | .ok .cont, h => exact False.elim h
    | .ok (.ret u), h =>
      obtain ⟨v, H', os, bare, un, hok', r', q⟩ := h
      have q' : v = .bl true := q
      subst q'
      obtain rfl : u = Value.bool true := r'
      have key : ∀ b o, (¬ ∃ p ∈ cs, p.2 = b) → s₁.heap.get? b = some o → s'.heap.get? b = some o := fun b o nb e => by
        rcases hO b with z | z | ⟨ob, xs, z⟩
        · exact un.keep b o e z (fun hm => absurd (show b ∈ ([] : List Addr) from hm) (by simp)) (by simp)
        · exact absurd z nb
        · have e1 := (hok b _ z).1
          rw [e] at e1; cases e1
          exact (hok' b _ (un.frzs b o _ z)).1
      have grown : ∀ p ∈ cs, ∃ more : Array Value, s'.heap.get? p.2 = some { cls := .none, data := .fields more } := fun p hp => by
        obtain ⟨more, z⟩ := un.tbls p.2 #[] (hH p hp)
        exact ⟨_, hok' p.2 _ z⟩
      refine ⟨rfl, ⟨fun b o e => ?_, fun b o e => ?_⟩, os, bare⟩
      · by_cases hb : ∃ p ∈ cs, p.2 = b
        · obtain ⟨p, hp, rfl⟩ := hb
          obtain ⟨more, hm⟩ := grown p hp
          rw [hT p hp] at e; cases e
          exact .inr (.inl ⟨((C p hp).tab (hT p hp)).isCodeTable, rfl, #[], more, rfl, by rw [Array.empty_append]; exact hm⟩)
        · exact .inl (key b o hb e)
      · by_cases hb : ∃ p ∈ cs, p.2 = b
        · obtain ⟨p, hp, rfl⟩ := hb
          obtain ⟨more, hm⟩ := grown p hp
          exact ⟨_, hm⟩
        · exact ⟨o, key b o hb e⟩
  have dec : ∀ b : Addr, Decidable (∃ p ∈ cs, p.2 = b) := fun b => Classical.propDecidable _
  cases hk : K.lookup a with
  | some o =>
    have e := KX a o hk
    rw [ha] at e; cases e
    refine core (fun b => if ∃ p ∈ cs, p.2 = b then some (.tbl #[]) else none) (fun p hp => if_pos ⟨p, hp, rfl⟩) (fun b => ?_) (.inr ⟨_, vs.toArray, _, hk, rfl, rfl, rfl, by rw [List.size_toArray, lenV]; exact hl, by simpa using rv⟩) (fun b u z => ?_) (fun b z => ?_) fun z => absurd (if_neg aT) z
    · by_cases hb : ∃ p ∈ cs, p.2 = b
      · exact .inr (.inl hb)
      · exact .inl (if_neg hb)
    · by_cases hb : ∃ p ∈ cs, p.2 = b
      · have z' := (if_pos hb).symm.trans z; cases z'; exact isT b hb
      · have z' := (if_neg hb).symm.trans z; cases z'
    · by_cases hb : ∃ p ∈ cs, p.2 = b
      · exact .inr hb
      · exact absurd (if_neg hb) z
  | none =>
    refine core (fun b => if b = a then some (.frz { cls := .type "list", data := .seq vs.toArray } (.lst (ns.map V.int))) else if ∃ p ∈ cs, p.2 = b then some (.tbl #[]) else none) (fun p hp => (if_neg (fun z => aT ⟨p, hp, z⟩)).trans (if_pos ⟨p, hp, rfl⟩)) (fun b => ?_)
      (.inl (.inr ⟨{ cls := .type "list", data := .seq vs.toArray }, if_pos rfl⟩)) (fun b u z => ?_) (fun b z => ?_) fun _ => hk
    · by_cases hb : b = a
      · exact .inr (.inr ⟨_, _, if_pos hb⟩)
      · by_cases hb2 : ∃ p ∈ cs, p.2 = b
        · exact .inr (.inl hb2)
        · exact .inl ((if_neg hb).trans (if_neg hb2))
    · by_cases hb : b = a
      · have z' := (if_pos hb).symm.trans z; cases z'
        rw [hb]
        exact ⟨ha, by rw [List.length_map]; exact hl, vs, _, rv, ha⟩
      · have z1 := (if_neg hb).symm.trans z
        by_cases hb2 : ∃ p ∈ cs, p.2 = b
        · have z' := (if_pos hb2).symm.trans z1; cases z'; exact isT b hb2
        · have z' := (if_neg hb2).symm.trans z1; cases z'
    · by_cases hb : b = a
      · exact .inl hb
      · by_cases hb2 : ∃ p ∈ cs, p.2 = b
        · exact .inr hb2
        · exact absurd ((if_neg hb).trans (if_neg hb2)) z
end
theorem walk_ofG {l : PySem.W.OpenLaw} {n k : Nat} {q : Program} {loose : List Str} {XP : (Str → Option Value) → Heap → Prop} {YP : World → Heap → Prop} {d : DefRec} {x : Str}
    (hn : l.most = some n) (hn2 : n ≤ sizeLine) (hdf : d.params.defaults = []) (hr : Room k callerA)
    (F : ∀ (w : World) (mg : Str → Option Value) (fa : Addr) (h : Heap), YP w h → h.Ns mainGlobals mg → mg d.name = some (.ref fa) → ∃ K : PySem.W.Frag, K.In h ∧ LawAtG l w K k n x mg fa h) :
    PySem.W.WalkO q loose XP YP l.row.toRowW d [] (fun f vs => PySem.call f vs) := by
  refine Att.attach_callB hn hdf fun w s₀ s₁ mg mb fa o pm cd doc a vs ns G Y ho hd hcd hmg hobj hints hlen hbits hg => ?_
  obtain ⟨K, KX, fd, cs, sp, hT, nT, C, hsm, hb, hsp, hF⟩ := F w mg fa _ Y G.T.g hmg
  exact law_callG KX G.T.g G.T.b G.T.builtins G.T.nolimit hg hT nT C G.T.bmain hobj hints (Nat.le_trans hlen hn2) hr hF hsm hb fun H hH hS => hsp H a ns hlen hbits hH hS
end EndG

set_option Elab.async false
set_option linter.all false
set_option maxRecDepth 100000
set_option maxHeartbeats 2000000
/-! Kit: a def of the text with its facts, constants, a few operators. -/
namespace Kit
open PySem PySem.Spec PyProof.Rows L2 GxR Tree

/-- a def without defaults as it stands behind the top -/
structure DefAt (K : PySem.W.Frag) (mg : Str → Option Value) (x : Str) (st : Stmt) (ps : List Str) (f : Addr) (fd : FuncData) : Prop where
  F : FunD K x x (defArgs st) (defBody st) (defScope st) [] [] f fd
  g : mg x = some (.ref f)
  b : Binds K fd ps []
theorem DefAt.kp {K : PySem.W.Frag} {mg : Str → Option Value} {x : Str} {st : Stmt} {ps : List Str} {f : Addr} {fd : FuncData} (D : DefAt K mg x st ps f fd) : PySem.W.keepIn K (.ref f) = true := D.F.kp
/-- the code object of the def and its table -/
structure TabAt (base : Heap) (mg : Str → Option Value) (fd : FuncData) (c P : Addr) : Prop where
  code : fd.code = .ref c
  tb : LamX.TabB base mg c P
section
variable {P : Program} {w : World} {K : PySem.W.Frag} {mg : Str → Option Value} {base : Heap} {x : Str} {st : Stmt} {ps : List Str} {f : Addr} {fd : FuncData}
/-- THE RULE for a def; its code object is told -/
theorem DefAt.ok {N : List Str} {k : Nat} {sp : Sp} (D : DefAt K mg x st ps f fd) (S : FnScope N ps (defScope st)) (len : ∀ vs H Q E, sp vs H Q E → vs.length = ps.length)
    (hbody : ∀ (cdv : Value) (A : Around) (outer : List Env) (s : Shared) (H : Hp) (vs : List V) (Q : VK) (E : XK), fd.code = cdv → Room k (A.deeper (envOfC x (defScope st) s.heap.objs.size f cdv)) → sp vs H Q E →
      ∃ t, PSs (cxOf CX0 P w K mg base N x (defScope st) f cdv A outer s H E).nox (defBody st) t ∧ t { nx := fun _ H' => Q .non H', rt := Q } (start N vs) H) : FnOk P w K mg base CX0 (k + 1) f fd ps sp := by
  obtain ⟨oc, od, dV, kV, doc, pm, an, cdv, ct, osl, rfl, lk, hcd, _, _⟩ := D.F.ex
  exact fn_of lk hcd S len fun A outer s H vs Q E hr hsp => by
    obtain ⟨t, h, q⟩ := hbody cdv A outer s H vs Q E rfl hr hsp
    exact ⟨t, h.nox, q⟩
end
/-- the built-in names that the text does not bind -/
structure Bt (mg : Str → Option Value) : Prop where
  len : mg "len" = none
  range : mg "range" = none
  isinstance : mg "isinstance" = none
  int : mg "int" = none
  bool : mg "bool" = none
  str : mg "str" = none
  list : mg "list" = none
  tuple : mg "tuple" = none
  set : mg "set" = none
  dict : mg "dict" = none
  sorted : mg "sorted" = none
  repr : mg "repr" = none
  max : mg "max" = none
  min : mg "min" = none
  sum : mg "sum" = none
  all : mg "all" = none
  any : mg "any" = none
section
variable {X : Cx}
/-- a constant of the module -/
theorem pe_gint {x : Str} {i : Int} {pos : Pos} (hg : Gl X x) (hm : ∃ t, X.mg x = some (.int i t)) (hd : (x == ("__debug__" : Str)) = false := by decide) : PE X (.Name x pos) (tC (.int i)) := by
  obtain ⟨t, hm⟩ := hm
  exact pe_glob hg hm ⟨_, rfl⟩ hd
/-! rules with the written part named (so that a reading within a block does not hang on the block) -/
theorem ix_listK (K : PySem.W.Frag) (h : X.K = K) : IxR X (rIxL K) := h ▸ ix_list
theorem ix_tupK (K : PySem.W.Frag) (h : X.K = K) : IxR X (rIxT K) := h ▸ ix_tup
theorem sl_listK (K : PySem.W.Frag) (h : X.K = K) : SlR X (rSlL K) := h ▸ sl_list
theorem sl_tupAK (K : PySem.W.Frag) (h : X.K = K) : SlR X (rSlA K) := h ▸ sl_tupA
def rLenK (K : PySem.W.Frag) : List V → Hp → VK → Prop := fun xs H Q => ∃ p ys, xs = [.ref p] ∧ (SqL K H p ys ∨ SqT K H p ys) ∧ Q (.int ys.length) H
theorem call_lenK (K : PySem.W.Frag) (h : X.K = K) : CallR X (.builtin "len") (rLenK K) := h ▸ call_len_seq
theorem call_isiK' (K : PySem.W.Frag) (h : X.K = K) : CallR X (.builtin "isinstance") (rIsi K) := h ▸ call_isi
theorem call_isiTK (K : PySem.W.Frag) (h : X.K = K) : CallR X (.builtin "isinstance") (rIsiT K) := h ▸ call_isiT
def rListK (K : PySem.W.Frag) : List V → Hp → VK → Prop := fun xs H Q => ∃ p ys, xs = [.ref p] ∧ (SqL K H p ys ∨ SqT K H p ys) ∧ ∀ l, H l = none → Q (.ref l) (upd H l (.lst ys))
theorem call_listK (K : PySem.W.Frag) (h : X.K = K) : CallR X (.type "list") (rListK K) := h ▸ call_list_of
def rTupleK (K : PySem.W.Frag) : List V → Hp → VK → Prop := fun xs H Q => ∃ p ys, xs = [.ref p] ∧ ((SqL K H p ys ∧ ∀ l, H l = none → Q (.ref l) (upd H l (.tup ys))) ∨ (SqT K H p ys ∧ Q (.ref p) H))
theorem call_tupleK (K : PySem.W.Frag) (h : X.K = K) : CallR X (.type "tuple") (rTupleK K) := h ▸ call_tuple_of
theorem op_inK (K : PySem.W.Frag) (h : X.K = K) : OpR X (compareOp .In) (rIn K false) := h ▸ op_in_seq
theorem op_notInK (K : PySem.W.Frag) (h : X.K = K) : OpR X (compareOp .NotIn) (rIn K true) := h ▸ op_notIn_seq
theorem op_catAK (K : PySem.W.Frag) (h : X.K = K) : OpR X (binaryOp .Add) (rCatA K) := h ▸ op_catA
theorem op_eqDK (K : PySem.W.Frag) (h : X.K = K) (hu : X.A.units + 64 < cLine) : OpR X (compareOp .Eq) (rEqD K) := h ▸ op_eqD hu
theorem op_neDK (K : PySem.W.Frag) (h : X.K = K) (hu : X.A.units + 64 < cLine) : OpR X (compareOp .NotEq) (rNeD K) := h ▸ op_neD hu
theorem pi_listK (K : PySem.W.Frag) (h : X.K = K) {tg l : Expr} {tl : TE} (hl : PE X l tl) : PI X tg l (iList K tl) := h ▸ pi_list hl
theorem pi_tupK (K : PySem.W.Frag) (h : X.K = K) {tg l : Expr} {tl : TE} (hl : PE X l tl) : PI X tg l (iTup K tl) := h ▸ pi_tup hl
theorem pg_tupK (K : PySem.W.Frag) (hK : X.K = K) {es : List Expr} {k : Nat} {t : TGs} {n : Nat} {pos : Pos} (hc : X.calm = true) (h : PGs X es t)
    (hn : (assignEach es X.env).length = n := by rfl) (hst : (assignEach es X.env).findIdx? (·.1) = none := by rfl) : PG X (.Tuple es k pos) (gTup K n t) := hK ▸ pg_tup hc h hn hst
theorem pe_revLK (K : PySem.W.Frag) (h : X.K = K) {e : Expr} {te : TE} {k j : Nat} {p1 p2 p3 pos : Pos} (he : PE X e te) : PE X (.Subscript e (.Slice none none (some (.UnaryOp .USub (.Constant (.int 1) k p1) p2)) p3) pos) (tRevL K te) := h ▸ pe_revL he
/-- ** of ints that are not too great -/
def CPowW (i j : Int) : Prop := 0 ≤ j ∧ (i.natAbs.log2 + 1 : Nat) * j ≤ 2 ^ 27
theorem op_powW : OpR X (binaryOp .Pow) (rI CPowW fun i j => .int (i ^ j.toNat)) := opI fun i j _ _ _ _ _ hc q => by
  refine pow_int hc.1 ?_ q
  have h1 : Builtin.Int.intBits i ≤ i.natAbs.log2 + 1 := by
    unfold Builtin.Int.intBits
    split <;> omega
  have h2 : ((Builtin.Int.intBits i : Nat) : Int) * j ≤ ((i.natAbs.log2 + 1 : Nat) : Int) * j := Int.mul_le_mul_of_nonneg_right (by exact_mod_cast h1) hc.1
  exact Int.le_trans h2 hc.2
theorem powW_ok {i j : Int} {b : Nat} (hj : 0 ≤ j) (hi : i.natAbs < 2 ^ b) (h0 : 0 < b) (h : (b : Int) * j ≤ 2 ^ 27) : CPowW i j := by
  refine ⟨hj, ?_⟩
  have h1 := PySem.Flt.log2_lt_of h0 hi
  exact Int.le_trans (Int.mul_le_mul_of_nonneg_right (by omega) hj) h
end
end Kit

set_option Elab.async false
set_option linter.all false
set_option maxRecDepth 100000
set_option maxHeartbeats 2000000
/-! Data: what a day is, as a total function on trees. -/
namespace Data
open PySem PySem.Spec PyProof.Rows L2 GxR Tree Kit

def isiD (T : String) : PyData → Bool
  | .int _ => T == "int"
  | .bool _ => T == "int" || T == "bool"
  | .none => T == "NoneType"
  | .str _ => T == "str"
  | .list _ => T == "list"
  | .tuple _ => T == "tuple"
  | .dict _ => T == "dict"
theorem kit_int {K : PySem.W.Frag} (d : PyData) : PySem.W.kitOne K (.type (tyD d)) (.type "int") = some (isiD "int" d) := by
  cases d <;> (refine kit_ty ?_; dsimp only [tyD, isiD]; decide +kernel)
theorem kit_bool {K : PySem.W.Frag} (d : PyData) : PySem.W.kitOne K (.type (tyD d)) (.type "bool") = some (isiD "bool" d) := by
  cases d <;> (refine kit_ty ?_; dsimp only [tyD, isiD]; decide +kernel)
theorem kit_list {K : PySem.W.Frag} (d : PyData) : PySem.W.kitOne K (.type (tyD d)) (.type "list") = some (isiD "list" d) := by
  cases d <;> (refine kit_ty ?_; dsimp only [tyD, isiD]; decide +kernel)
theorem kit_tuple {K : PySem.W.Frag} (d : PyData) : PySem.W.kitOne K (.type (tyD d)) (.type "tuple") = some (isiD "tuple" d) := by
  cases d <;> (refine kit_ty ?_; dsimp only [tyD, isiD]; decide +kernel)

def isNum : PyData → Bool
  | .int _ => true
  | _ => false
def isWh (lo hi : Int) : PyData → Bool
  | .int i => decide (lo ≤ i) && decide (i ≤ hi)
  | _ => false
def isLs (lo hi : Int) : PyData → Bool
  | .list xs => decide (lo ≤ (xs.length : Int)) && decide ((xs.length : Int) ≤ hi)
  | _ => false
def isTp (n : Int) : PyData → Bool
  | .tuple xs => decide ((xs.length : Int) = n)
  | _ => false
def listAll (p : PyData → Bool) : PyData → Bool
  | .list xs => xs.all p
  | _ => false
/-- the ints among the things -/
def intsD : List PyData → List Int
  | [] => []
  | .int i :: r => i :: intsD r
  | _ :: r => intsD r
def risesB (ns : List Int) : Bool := decide (ns.Pairwise (· < ·))
def heardB (craft : Int) : PyData → Bool
  | .list xs => xs.all (isWh 0 (craft - 1)) && risesB (intsD xs)
  | _ => false
def sightB (hours craft : Int) : PyData → Bool := fun d => isLs hours hours d && listAll (heardB craft) d
def storesB : PyData → Bool := fun d => isLs 1 4 d && listAll (isWh 0 5) d
def sightsB (hours craft : Int) : PyData → Bool := fun d => isLs 1 3 d && listAll (sightB hours craft) d
def isNone : PyData → Bool
  | .none => true
  | _ => false
def asksB (dishes : Int) : PyData → Bool := fun d => isLs dishes dishes d && listAll (fun a => isNone a || isWh 0 999 a) d
def blockB (hours craft : Int) : PyData → Bool
  | .tuple [house, number, ready, due, worth] => isWh 0 5 house && (isWh 0 (craft - 1) number && (isWh 0 (hours - 1) ready && ((isNone due || (match ready with | .int r => isWh r (hours - 1) due | _ => false)) && isWh 1 9999 worth)))
  | _ => false
def blocksB (hours craft : Int) : PyData → Bool := fun d => isLs 0 14 d && listAll (blockB hours craft) d
def lenD : PyData → Int
  | .list xs => xs.length
  | .tuple xs => xs.length
  | _ => 0
def intOf : PyData → Int
  | .int i => i
  | _ => 0
def isDayB : PyData → Bool
  | .tuple [hours, stores, sights, asks, blocks] => isWh 1 10 hours && (storesB stores && (sightsB (intOf hours) (lenD stores) sights && (asksB (lenD sights) asks && blocksB (intOf hours) (lenD stores) blocks)))
  | _ => false

theorem isWh_int {lo hi : Int} {d : PyData} (h : isWh lo hi d = true) : ∃ i, d = .int i ∧ lo ≤ i ∧ i ≤ hi := by
  cases d with
  | int i =>
    have h' : (decide (lo ≤ i) && decide (i ≤ hi)) = true := h
    simp only [Bool.and_eq_true, decide_eq_true_eq] at h'
    exact ⟨i, rfl, h'.1, h'.2⟩
  | _ => cases h
theorem isLs_list {lo hi : Int} {d : PyData} (h : isLs lo hi d = true) : ∃ xs, d = .list xs ∧ lo ≤ (xs.length : Int) ∧ (xs.length : Int) ≤ hi := by
  cases d with
  | list xs =>
    have h' : (decide (lo ≤ (xs.length : Int)) && decide ((xs.length : Int) ≤ hi)) = true := h
    simp only [Bool.and_eq_true, decide_eq_true_eq] at h'
    exact ⟨xs, rfl, h'.1, h'.2⟩
  | _ => cases h
theorem isTp_tuple {n : Int} {d : PyData} (h : isTp n d = true) : ∃ xs, d = .tuple xs ∧ (xs.length : Int) = n := by
  cases d with
  | tuple xs => exact ⟨xs, rfl, of_decide_eq_true h⟩
  | _ => cases h
theorem tuple5 {xs : List PyData} (h : (xs.length : Int) = 5) : ∃ a b c d e, xs = [a, b, c, d, e] := by
  match xs, h with
  | [a, b, c, d, e], _ => exact ⟨a, b, c, d, e, rfl⟩
  | [], h => simp at h
  | [_], h => simp at h
  | [_, _], h => simp at h
  | [_, _, _], h => simp at h
  | [_, _, _, _], h => simp at h
  | _ :: _ :: _ :: _ :: _ :: _ :: r, h => simp at h; omega
theorem all_ints {lo hi : Int} : ∀ {xs : List PyData}, xs.all (isWh lo hi) = true → xs = (intsD xs).map PyData.int
  | [], _ => rfl
  | x :: r, h => by
    rw [List.all_cons, Bool.and_eq_true] at h
    obtain ⟨i, rfl, _, _⟩ := isWh_int h.1
    show PyData.int i :: r = PyData.int i :: (intsD r).map PyData.int
    rw [← all_ints h.2]
/-! ### how many parts -/
mutual
def sz : PyData → Nat
  | .none => 1
  | .bool _ => 1
  | .int _ => 1
  | .str _ => 1
  | .list xs => szAll xs + 1
  | .tuple xs => szAll xs + 1
  | .dict _ => 1
def szAll : List PyData → Nat
  | [] => 0
  | x :: xs => sz x + szAll xs
end
theorem sz_pos (d : PyData) : 1 ≤ sz d := by
  cases d <;> simp only [sz] <;> omega
theorem szAll_mem : ∀ {xs : List PyData} {d : PyData}, d ∈ xs → sz d ≤ szAll xs
  | x :: xs, d, h => by
    simp only [szAll]
    rcases List.mem_cons.mp h with rfl | h
    · omega
    · have := szAll_mem h
      omega
theorem szAll_len : ∀ xs : List PyData, xs.length ≤ szAll xs
  | [] => Nat.le_refl _
  | x :: xs => by
    have h1 := sz_pos x
    have h2 := szAll_len xs
    simp only [szAll, List.length_cons]
    omega
theorem szAll_append : ∀ xs ys : List PyData, szAll (xs ++ ys) = szAll xs + szAll ys
  | [], ys => by simp [szAll]
  | x :: xs, ys => by
    simp only [List.cons_append, szAll, szAll_append xs ys]
    omega
theorem intsD_length : ∀ xs : List PyData, (intsD xs).length ≤ xs.length
  | [] => Nat.le_refl _
  | x :: xs => by
    have ih := intsD_length xs
    cases x <;> simp only [intsD, List.length_cons] <;> omega
end Data

set_option Elab.async false
set_option linter.all false
set_option maxRecDepth 100000
set_option maxHeartbeats 2000000
/-! Loops: all, any over lists of trees and over ranges; comprehensions over them; what they keep is said by Kx. -/
namespace Loops
open PySem PySem.Spec PyProof.Rows L2 GxR GX Tree Kit
section
variable {K : PySem.W.Frag} {P : Addr} {g : TG} {te : TE} {vs : List Nat} {σ : L2.St} {H : Hp} {Q : VK}
/-- all(e for x in l), l the list at a: one turn hands on any wish R of the truth -/
theorem all_tree {a : Addr} {xs : List V} {ds : List PyData} {pd : PyData → Bool} (ha : H a = some (.lst xs)) (hd : TrAll [] H xs ds) (hT : TabG H P)
    (step : ∀ x d H', d ∈ ds → Tr [] H' x d → Kx [] H H' → ∀ R : Bool → Hp → Prop, (∀ H'', Kx [] H' H'' → R (pd d) H'') → g x (wipe σ vs) H' fun σ2 H2 => wipe σ2 vs = wipe σ vs ∧ te σ2 H2 fun y H4 => ∃ b, y = .bl b ∧ R b H4)
    (q : ∀ H', Kx [] H H' → Q (.bl (ds.all pd)) H') :
    TabG H P ∧ ∀ H2, Tabbed P H H2 → ∃ W : Nat → Nat → Hp → Prop, (∃ m, W 0 m H2) ∧ GTurns (Itl K a) g tYes te vs σ W (fun H => Q (.bl true) H) (consAll fun b H => Q (.bl b) H) := by
  refine ⟨hT, fun H2 ht => ?_⟩
  have hlen := hd.length
  refine ⟨fun i m H' => m = xs.length - i ∧ i ≤ xs.length ∧ Kx [] H H' ∧ (ds.take i).all pd = true, ⟨xs.length, by simp, Nat.zero_le _, Kx.tabbed hT ht, by simp⟩, ?_⟩
  rintro i m H' ⟨rfl, hi, k, hp⟩
  have hS : SqL K H' a xs := SqL.of (k.lst (by simp) ha)
  by_cases hlt : i < xs.length
  · have hdl : i < ds.length := by omega
    have ei : ds[i]? = some ds[i] := List.getElem?_eq_getElem hdl
    have et : (ds.take (i + 1)).all pd = ((ds.take i).all pd && pd ds[i]) := by
      rw [List.take_add_one, ei, List.all_append]
      simp
    refine .inr ⟨⟨xs, xs[i], hS, by simp [hlt]⟩, fun H'' => Kx [] H H'' ∧ pd ds[i] = true, fun H'' z => ⟨xs.length - (i + 1), by omega, rfl, hlt, z.1, by rw [et, hp, z.2]; rfl⟩, fun x H5 y => ?_⟩
    obtain ⟨rfl, y⟩ := y
    have hx := y xs hS
    obtain ⟨d, e1, e2⟩ := (hd.up k).get hx
    rw [ei] at e1
    cases e1
    have st := step x ds[i] H5 (List.getElem_mem hdl) e2 k (fun b H4 => if b = true then (Kx [] H H4 ∧ pd ds[i] = true) else Q (.bl false) H4) (fun H'' k2 => by
      cases hb : pd ds[i] with
      | true => exact ⟨k.trans k2, rfl⟩
      | false =>
        have hall : ds.all pd = false := by
          rw [Bool.eq_false_iff]
          intro z
          rw [List.all_eq_true.mp z _ (List.getElem_mem hdl)] at hb
          cases hb
        have := q H'' (k.trans k2)
        rw [hall] at this
        exact this)
    exact st
  · have e : i = xs.length := by omega
    subst e
    refine .inl ⟨⟨xs, hS, Nat.le_refl _⟩, ?_⟩
    have := q H' k
    rw [hlen, List.take_length] at hp
    rw [hp] at this
    exact this
/-- all(e for i in range(n)) -/
theorem all_range {n : Nat} {p : Nat → Bool} (hT : TabG H P)
    (step : ∀ i H', i < n → Kx [] H H' → ∀ R : Bool → Hp → Prop, (∀ H'', Kx [] H' H'' → R (p i) H'') → g (.int i) (wipe σ vs) H' fun σ2 H2 => wipe σ2 vs = wipe σ vs ∧ te σ2 H2 fun y H4 => ∃ b, y = .bl b ∧ R b H4)
    (q : ∀ H', Kx [] H H' → Q (.bl ((List.range n).all p)) H') :
    TabG H P ∧ ∀ H2, Tabbed P H H2 → ∃ W : Nat → Nat → Hp → Prop, (∃ m, W 0 m H2) ∧ GTurns (Itr 0 n) g tYes te vs σ W (fun H => Q (.bl true) H) (consAll fun b H => Q (.bl b) H) := by
  refine ⟨hT, fun H2 ht => ?_⟩
  refine ⟨fun i m H' => m = n - i ∧ i ≤ n ∧ Kx [] H H' ∧ ∀ j, j < i → p j = true, ⟨n, by simp, Nat.zero_le _, Kx.tabbed hT ht, fun j hj => absurd hj (Nat.not_lt_zero _)⟩, ?_⟩
  rintro i m H' ⟨rfl, hi, k, hp⟩
  by_cases hlt : i < n
  · refine .inr ⟨hlt, fun H'' => Kx [] H H'' ∧ p i = true, fun H'' z => ⟨n - (i + 1), by omega, rfl, hlt, z.1, fun j hj => ?_⟩, fun x H5 y => ?_⟩
    · rcases Nat.lt_or_eq_of_le (Nat.le_of_lt_succ hj) with h | h
      · exact hp j h
      · rw [h]; exact z.2
    · obtain ⟨rfl, rfl⟩ := y
      rw [Int.zero_add]
      refine step i H5 hlt k (fun b H4 => if b = true then (Kx [] H H4 ∧ p i = true) else Q (.bl false) H4) (fun H'' k2 => ?_)
      cases hb : p i with
      | true => exact ⟨k.trans k2, rfl⟩
      | false =>
        have hall : (List.range n).all p = false := by
          rw [Bool.eq_false_iff]
          intro z
          rw [List.all_eq_true.mp z i (List.mem_range.mpr hlt)] at hb
          cases hb
        have := q H'' (k.trans k2)
        rw [hall] at this
        exact this
  · have e : i = n := by omega
    subst e
    refine .inl ⟨Nat.le_refl _, ?_⟩
    have := q H' k
    rw [show (List.range i).all p = true from List.all_eq_true.mpr fun j hj => hp j (List.mem_range.mp hj)] at this
    exact this
/-- the same at a name that holds the list -/
theorem all_treeV {j : Nat} {a : Addr} {xs : List V} {ds : List PyData} (pd : PyData → Bool) (hσ : σ[j]? = some (some (.ref a))) (ha : H a = some (.lst xs)) (hd : TrAll [] H xs ds) (hT : TabG H P)
    (step : ∀ x d H', d ∈ ds → Tr [] H' x d → Kx [] H H' → ∀ R : Bool → Hp → Prop, (∀ H'', Kx [] H' H'' → R (pd d) H'') → g x (wipe σ vs) H' fun σ2 H2 => wipe σ2 vs = wipe σ vs ∧ te σ2 H2 fun y H4 => ∃ b, y = .bl b ∧ R b H4)
    (q : ∀ H', Kx [] H H' → Q (.bl (ds.all pd)) H') : tAllG P (iList K (tVar j)) g tYes te vs σ H Q :=
  ⟨.ref a, hσ, a, rfl, ⟨xs, SqL.of ha⟩, all_tree ha hd hT step q⟩
end
end Loops

set_option Elab.async false
set_option linter.all false
set_option maxRecDepth 100000
set_option maxHeartbeats 2000000
/-! Comps: comprehensions and for loops whose turns may change what B names. -/
namespace Comps
open PySem PySem.Spec PyProof.Rows L2 GxR GX Tree Kit
/-- the iteration J hands out f 0, .., f (N - 1), as long as all stays but B -/
structure ItAt (J : It) (B : List Addr) (H : Hp) (N : Nat) (f : Nat → V) : Prop where
  go : ∀ i H', i < N → Kx B H H' → J.go i H'
  stop : ∀ H', Kx B H H' → J.stop N H'
  yld : ∀ i H' x H'', i < N → Kx B H H' → J.yld i H' x H'' → H'' = H' ∧ x = f i
theorem itr_at {B : List Addr} {H : Hp} (n : Nat) : ItAt (Itr 0 n) B H n (fun i => .int i) :=
  ⟨fun i H' h _ => h, fun H' _ => Nat.le_refl _, fun i H' x H'' h k y => by
    obtain ⟨rfl, rfl⟩ := y
    rw [Int.zero_add]
    exact ⟨rfl, rfl⟩⟩
theorem itl_at {K : PySem.W.Frag} {B : List Addr} {H : Hp} {a : Addr} {xs : List V} (h : H a = some (.lst xs)) (n : a ∉ B) : ItAt (Itl K a) B H xs.length (fun i => xs.getD i .non) :=
  ⟨fun i H' hi k => ⟨xs, xs[i], SqL.of (k.lst n h), by simp [hi]⟩, fun H' k => ⟨xs, SqL.of (k.lst n h), Nat.le_refl _⟩, fun i H' x H'' hi k y => by
    obtain ⟨rfl, y⟩ := y
    have := y xs (SqL.of (k.lst n h))
    exact ⟨rfl, by rw [List.getD_eq_getElem?_getD, this]; rfl⟩⟩
/-- after a step from H -/
theorem _root_.Tree.Kx.then {B C : List Addr} {H H1 H2 : Hp} (k : Kx C H H1) (k2 : Kx B H1 H2) (h : ∀ b ∈ B, b ∈ C) : Kx C H H2 := k.trans (k2.sub h)
/-- what a comprehension over the iteration J asks -/
def CompG (J : It) (g : TG) (tt : TT) (te : TE) (vs : List Nat) (σ : L2.St) (H : Hp) (Q : VK) : Prop := ∀ D, H D = none → ∃ W : Nat → Nat → Hp → Prop, (∃ m, W 0 m (upd H D (.lst []))) ∧ ∀ i m H, W i m H → (J.stop i H ∧ Q (.ref D) H) ∨ (J.go i H ∧ ∃ Nx : Hp → Prop, (∀ H', Nx H' → ∃ m', m' < m ∧ W (i + 1) m' H') ∧ ∀ x H', J.yld i H x H' → g x (wipe σ vs) H' fun σ2 H2 => wipe σ2 vs = wipe σ vs ∧ tt σ2 H2 fun b H3 => if b = true then te σ2 H3 fun y H4 => ∃ acc, H4 D = some (.lst acc) ∧ acc.length < sizeLine ∧ Nx (upd H4 D (.lst (acc ++ [y]))) else Nx H3)
theorem lc_use {wi : TI} {g : TG} {tt : TT} {te : TE} {vs : List Nat} {σ : L2.St} {H : Hp} {Q : VK} (h : wi σ H fun J H1 => CompG J g tt te vs σ H1 Q) : tLc wi g tt te vs σ H Q := h
theorem st_name {i : Nat} {v : V} {σ : L2.St} {H : Hp} {Q : L2.St → Hp → Prop} (h : Q (σ.set i (some v)) H) : gName i v σ H Q := h
theorem st_asg {te : TE} {g : TG} {D : Ends} {σ : L2.St} {H : Hp} (h : te σ H fun x H1 => g x σ H1 D.nx) : tAsg te g D σ H := h
theorem st_seq {a b : TS} {D : Ends} {σ : L2.St} {H : Hp} (h : a { D with nx := b D } σ H) : tSeq a b D σ H := h
theorem st_set {te : TE} {i : Nat} {b : TS} {D : Ends} {σ : L2.St} {H : Hp} (h : te σ H fun x H1 => b D (σ.set i (some x)) H1) : tSeq (tAsg te (gName i)) b D σ H := h
theorem st_yes {te : TE} {σ : L2.St} {H : Hp} {R : VK} {R0 : Hp → Prop} (h : te σ H R) : tYes σ H fun b H3 => if b = true then te σ H3 R else R0 H3 := by
  show if true = true then te σ H R else R0 H
  rw [if_pos rfl]
  exact h
theorem st_next {D : Ends} {σ : L2.St} {H : Hp} (h : D.nx σ H) : tNext D σ H := h
theorem st_ifs {t : TT} {a b : TS} {D : Ends} {σ : L2.St} {H : Hp} (h : t σ H fun c H1 => if c = true then a D σ H1 else b D σ H1) : tIfS t a b D σ H := h
theorem st_test {te : TE} {σ : L2.St} {H : Hp} {Q : Bool → Hp → Prop} (h : te σ H fun x H' => ∃ k, x = .bl k ∧ Q k H') : tTest te σ H Q := h
theorem st_op {r : R2} {ta tb : TE} {σ : L2.St} {H : Hp} {Q : VK} (h : ta σ H fun x H1 => tb σ H1 fun y H2 => r x y H2 Q) : tOp r ta tb σ H Q := h
theorem st_ret {te : TE} {D : Ends} {σ : L2.St} {H : Hp} (h : te σ H D.rt) : tRet te D σ H := h
theorem st_lst {ts : TA} {σ : L2.St} {H : Hp} {Q : VK} (h : ts σ H fun xs H1 => xs.length ≤ sizeLine ∧ ∀ p, H1 p = none → Q (.ref p) (upd H1 p (.lst xs))) : tLst ts σ H Q := h
theorem st_for {wi : TI} {g : TG} {tb : TS} {D : Ends} {σ : L2.St} {H : Hp} (h : wi σ H fun J H1 => ∃ W : Nat → Nat → L2.St → Hp → Prop, (∃ m, W 0 m σ H1) ∧ ∀ i m σ H, W i m σ H → (J.stop i H ∧ D.nx σ H) ∨ (J.go i H ∧ ∃ N : L2.St → Hp → Prop, (∀ σ' H', N σ' H' → ∃ m', m' < m ∧ W (i + 1) m' σ' H') ∧ ∀ x H', J.yld i H x H' → g x σ H' fun σ2 H2 => tb { D with nx := N, ct := N, bk := D.nx } σ2 H2)) : tFor wi g tb D σ H := h
theorem st_ilist {te : TE} {σ : L2.St} {H : Hp} {K : PySem.W.Frag} {R : It → Hp → Prop} (h : te σ H fun x H1 => ∃ a, x = .ref a ∧ (∃ xs, SqL K H1 a xs) ∧ R (Itl K a) H1) : iList K te σ H R := h
theorem st_cons {ta : TE} {ts : TA} {σ : L2.St} {H : Hp} {Q : List V → Hp → Prop} (h : ta σ H fun x H1 => ts σ H1 fun xs H2 => Q (x :: xs) H2) : tCons ta ts σ H Q := h
section
variable {g : TG} {tt : TT} {te : TE} {vs : List Nat} {σ : L2.St} {H : Hp} {Q : VK}
/-- a comprehension; A i acc: what is known of the items behind i turns -/
theorem lc_gen {J : It} {B : List Addr} {N : Nat} {f : Nat → V} (It : ItAt J B H N f) (hN : N < sizeLine) {D : Addr} (hD : H D = none) {A : Nat → List V → Hp → Prop}
    (h0 : A 0 [] (upd H D (.lst [])))
    (step : ∀ i H' acc, i < N → Kx B H H' → H' D = some (.lst acc) → A i acc H' → ∀ (R : V → Hp → Prop) (R0 : Hp → Prop),
      (∀ y H'', Kx B H H'' → H'' D = some (.lst acc) → A (i + 1) (acc ++ [y]) (upd H'' D (.lst (acc ++ [y]))) → R y H'') →
      (∀ H'', Kx B H H'' → H'' D = some (.lst acc) → A (i + 1) acc H'' → R0 H'') →
      g (f i) (wipe σ vs) H' fun σ2 H2 => wipe σ2 vs = wipe σ vs ∧ tt σ2 H2 fun b H3 => if b = true then te σ2 H3 R else R0 H3)
    (q : ∀ acc H', Kx B H H' → H' D = some (.lst acc) → A N acc H' → Q (.ref D) H') :
    ∃ W : Nat → Nat → Hp → Prop, (∃ m, W 0 m (upd H D (.lst []))) ∧ ∀ i m H, W i m H → (J.stop i H ∧ Q (.ref D) H) ∨ (J.go i H ∧ ∃ Nx : Hp → Prop, (∀ H', Nx H' → ∃ m', m' < m ∧ W (i + 1) m' H') ∧ ∀ x H', J.yld i H x H' → g x (wipe σ vs) H' fun σ2 H2 => wipe σ2 vs = wipe σ vs ∧ tt σ2 H2 fun b H3 => if b = true then te σ2 H3 fun y H4 => ∃ acc, H4 D = some (.lst acc) ∧ acc.length < sizeLine ∧ Nx (upd H4 D (.lst (acc ++ [y]))) else Nx H3) := by
  refine ⟨fun i m H' => m = N - i ∧ i ≤ N ∧ Kx B H H' ∧ ∃ acc, H' D = some (.lst acc) ∧ acc.length ≤ i ∧ A i acc H', ⟨N, by simp, Nat.zero_le _, (Kx.refl H).mut hD, [], upd_same, Nat.le_refl _, h0⟩, ?_⟩
  rintro i m H' ⟨rfl, hi, k, acc, hd, hl, ha⟩
  by_cases hlt : i < N
  · refine .inr ⟨It.go i H' hlt k, fun H'' => Kx B H H'' ∧ ∃ acc, H'' D = some (.lst acc) ∧ acc.length ≤ i + 1 ∧ A (i + 1) acc H'', fun H'' z => ⟨N - (i + 1), by omega, rfl, hlt, z.1, z.2⟩, fun x H5 y => ?_⟩
    obtain ⟨rfl, rfl⟩ := It.yld i H' x H5 hlt k y
    exact step i H5 acc hlt k hd ha _ _ (fun y H'' k2 hd2 ha2 => ⟨acc, hd2, by omega, k2.mut hD, _, upd_same, by rw [List.length_append]; exact Nat.succ_le_succ hl, ha2⟩) (fun H'' k2 hd2 ha2 => ⟨k2, acc, hd2, by omega, ha2⟩)
  · have e : i = N := by omega
    subst e
    exact .inl ⟨It.stop H' k, q acc H' k hd ha⟩
/-- items as trees: each turn hands on one that is G (or, where ex is false, perhaps none); Iv: what is known of all else -/
theorem lc_tr {J : It} {B C : List Addr} {N : Nat} {f : Nat → V} (It : ItAt J B H N f) (hN : N < sizeLine) {Iv : Nat → Hp → Prop} (G : PyData → Prop) (ex : Bool) (hBC : ∀ b ∈ B, b ∈ C) (hC : ∀ c ∈ C, H c ≠ none)
    (hIv : ∀ i H' D o, H D = none → Iv i H' → Iv i (upd H' D o)) (hBn : ∀ i H', Iv i H' → ∀ b ∈ B, H' b ≠ none) (h0 : Iv 0 H)
    (step : ∀ D i H', H D = none → (∀ c ∈ D :: C, H' c ≠ none) → i < N → Kx B H H' → Iv i H' → ∀ (R : V → Hp → Prop) (R0 : Hp → Prop),
      (∀ y d H'', Kx B H' H'' → Iv (i + 1) H'' → Tr (D :: C) H'' y d → G d → R y H'') →
      (ex = false → ∀ H'', Kx B H' H'' → Iv (i + 1) H'' → R0 H'') →
      g (f i) (wipe σ vs) H' fun σ2 H2 => wipe σ2 vs = wipe σ vs ∧ tt σ2 H2 fun b H3 => if b = true then te σ2 H3 R else R0 H3)
    (q : ∀ D ds H', Kx B H H' → Iv N H' → Tr C H' (.ref D) (.list ds) → ds.length ≤ N → (ex = true → ds.length = N) → (∀ d ∈ ds, G d) → Q (.ref D) H') :
    CompG J g tt te vs σ H Q := by
  intro D hD
  have nD : D ∉ C := fun h => hC D h hD
  have nB : D ∉ B := fun h => nD (hBC D h)
  refine lc_gen It hN hD (A := fun i acc H' => Iv i H' ∧ ∃ ds, TrAll (D :: C) H' acc ds ∧ ds.length ≤ i ∧ (ex = true → ds.length = i) ∧ ∀ d ∈ ds, G d) ⟨hIv 0 H D _ hD h0, [], .nil, Nat.le_refl _, fun _ => rfl, fun d h => nomatch h⟩ (fun i H' acc hi k hd ha R R0 hR hR0 => ?_) fun acc H' k hd ha => ?_
  · obtain ⟨iv, ds, ht, hl, hx, hg⟩ := ha
    have dk : ∀ {H''}, Kx B H' H'' → H'' D = some (.lst acc) := fun k2 => k2.lst nB hd
    refine step D i H' hD (fun c hc => ?_) hi k iv R R0 (fun y d H'' k2 iv2 ty gd => hR y H'' (k.trans k2) (dk k2) ⟨hIv _ _ _ _ hD iv2, ds ++ [d], ?_, by rw [List.length_append]; exact Nat.succ_le_succ hl, fun z => by rw [List.length_append, hx z]; rfl, fun d' h => ?_⟩) fun z H'' k2 iv2 => hR0 H'' (k.trans k2) (dk k2) ⟨iv2, ds, TrAll.kx k2 (fun b hb => List.mem_cons_of_mem _ (hBC b hb)) _ _ ht, Nat.le_succ_of_le hl, (fun y => by rw [z] at y; cases y), hg⟩
    · rcases List.mem_cons.mp hc with e | e
      · rw [e, hd]; simp
      · intro z
        by_cases hb : c ∈ B
        · exact hBn i H' iv c hb z
        · exact hC c e (k.free hb z)
    · have t2 := TrAll.kx k2 (fun b hb => List.mem_cons_of_mem _ (hBC b hb)) _ _ ht
      have kp : Kx [D] H'' (upd H'' D (.lst (acc ++ [y]))) := Kx.put (by simp)
      exact TrAll.kx kp (fun b hb => by rcases List.mem_cons.mp hb with e | e <;> simp_all) _ _ (t2.snoc ty)
    · rcases List.mem_append.mp h with h | h
      · exact hg d' h
      · rw [List.mem_singleton.mp h]; exact gd
  · obtain ⟨iv, ds, ht, hl, hx, hg⟩ := ha
    exact q D ds H' k iv (.lst nD hd (TrAll.less (fun b hb => List.mem_cons_of_mem _ hb) _ _ ht)) hl hx hg
/-- items as trees, each with the turn that made it -/
inductive Made (G : Nat → PyData → Prop) : List Nat → List PyData → Prop
  | nil : Made G [] []
  | snoc {js : List Nat} {ds : List PyData} {j : Nat} {d : PyData} : Made G js ds → (∀ i ∈ js, i < j) → G j d → Made G (js ++ [j]) (ds ++ [d])
theorem lc_ix {J : It} {B C : List Addr} {N : Nat} {f : Nat → V} (It : ItAt J B H N f) (hN : N < sizeLine) {Iv : Nat → Hp → Prop} (G : Nat → PyData → Prop) (hBC : ∀ b ∈ B, b ∈ C) (hC : ∀ c ∈ C, H c ≠ none)
    (hIv : ∀ i H' D o, H D = none → Iv i H' → Iv i (upd H' D o)) (hBn : ∀ i H', Iv i H' → ∀ b ∈ B, H' b ≠ none) (h0 : Iv 0 H)
    (step : ∀ D i H', H D = none → (∀ c ∈ D :: C, H' c ≠ none) → i < N → Kx B H H' → Iv i H' → ∀ (R : V → Hp → Prop) (R0 : Hp → Prop),
      (∀ y d H'', Kx B H' H'' → Iv (i + 1) H'' → Tr (D :: C) H'' y d → G i d → R y H'') →
      (∀ H'', Kx B H' H'' → Iv (i + 1) H'' → R0 H'') →
      g (f i) (wipe σ vs) H' fun σ2 H2 => wipe σ2 vs = wipe σ vs ∧ tt σ2 H2 fun b H3 => if b = true then te σ2 H3 R else R0 H3)
    (q : ∀ D js ds H', Kx B H H' → Iv N H' → Tr C H' (.ref D) (.list ds) → Made G js ds → (∀ j ∈ js, j < N) → Q (.ref D) H') :
    CompG J g tt te vs σ H Q := by
  intro D hD
  have nD : D ∉ C := fun h => hC D h hD
  have nB : D ∉ B := fun h => nD (hBC D h)
  refine lc_gen It hN hD (A := fun i acc H' => Iv i H' ∧ ∃ js ds, TrAll (D :: C) H' acc ds ∧ Made G js ds ∧ ∀ j ∈ js, j < i) ⟨hIv 0 H D _ hD h0, [], [], .nil, .nil, fun _ h => nomatch h⟩ (fun i H' acc hi k hd ha R R0 hR hR0 => ?_) fun acc H' k hd ha => ?_
  · obtain ⟨iv, js, ds, ht, hm, hl⟩ := ha
    have dk : ∀ {H''}, Kx B H' H'' → H'' D = some (.lst acc) := fun k2 => k2.lst nB hd
    refine step D i H' hD (fun c hc => ?_) hi k iv R R0 (fun y d H'' k2 iv2 ty gd => hR y H'' (k.trans k2) (dk k2) ⟨hIv _ _ _ _ hD iv2, js ++ [i], ds ++ [d], ?_, .snoc hm hl gd, fun j hj => ?_⟩) fun H'' k2 iv2 => hR0 H'' (k.trans k2) (dk k2) ⟨iv2, js, ds, TrAll.kx k2 (fun b hb => List.mem_cons_of_mem _ (hBC b hb)) _ _ ht, hm, fun j hj => Nat.lt_succ_of_lt (hl j hj)⟩
    · rcases List.mem_cons.mp hc with e | e
      · rw [e, hd]; simp
      · intro z
        by_cases hb : c ∈ B
        · exact hBn i H' iv c hb z
        · exact hC c e (k.free hb z)
    · have t2 := TrAll.kx k2 (fun b hb => List.mem_cons_of_mem _ (hBC b hb)) _ _ ht
      have kp : Kx [D] H'' (upd H'' D (.lst (acc ++ [y]))) := Kx.put (by simp)
      exact TrAll.kx kp (fun b hb => by rcases List.mem_cons.mp hb with e | e <;> simp_all) _ _ (t2.snoc ty)
    · rcases List.mem_append.mp hj with h | h
      · exact Nat.lt_succ_of_lt (hl j h)
      · rw [List.mem_singleton.mp h]; exact Nat.lt_succ_self i
  · obtain ⟨iv, js, ds, ht, hm, hl⟩ := ha
    exact q D js ds H' k iv (.lst nD hd (TrAll.less (fun b hb => List.mem_cons_of_mem _ hb) _ _ ht)) hm hl
theorem Made.rising {G : Nat → PyData → Prop} {js : List Nat} {ds : List PyData} (h : Made G js ds) : js.Pairwise (· < ·) := by
  induction h with
  | nil => exact .nil
  | snoc _ hl _ ih => exact List.pairwise_append.mpr ⟨ih, List.pairwise_singleton _ _, fun a ha b hb => by rw [List.mem_singleton.mp hb]; exact hl a ha⟩
theorem Made.eq {f : Nat → PyData} {js : List Nat} {ds : List PyData} (h : Made (fun j d => d = f j) js ds) : ds = js.map f := by
  induction h with
  | nil => rfl
  | snoc _ _ hg ih => rw [ih, hg, List.map_append]; rfl
theorem Made.length {G : Nat → PyData → Prop} {js : List Nat} {ds : List PyData} (h : Made G js ds) : js.length = ds.length := by
  induction h with
  | nil => rfl
  | snoc _ _ _ ih => rw [List.length_append, List.length_append, ih]; rfl
/-- [x for x in l if ..]: the items that pass; nothing old is changed -/
theorem lc_filter {K : PySem.W.Frag} {a : Addr} {xs : List V} {ds : List PyData} (pd : PyData → Bool) (ha : H a = some (.lst xs)) (hd : TrAll [] H xs ds) (hN : ds.length < sizeLine)
    (step : ∀ x d H', d ∈ ds → Tr [] H' x d → Kx [] H H' → ∀ (R : V → Hp → Prop) (R0 : Hp → Prop), (pd d = true → ∀ H'', Kx [] H' H'' → R x H'') → (pd d = false → ∀ H'', Kx [] H' H'' → R0 H'') →
      g x (wipe σ vs) H' fun σ2 H2 => wipe σ2 vs = wipe σ vs ∧ tt σ2 H2 fun b H3 => if b = true then te σ2 H3 R else R0 H3)
    (q : ∀ D ys H', Kx [] H H' → H D = none → H' D = some (.lst ys) → TrAll [] H' ys (ds.filter pd) → Q (.ref D) H') :
    CompG (Itl K a) g tt te vs σ H Q := by
  intro D hD
  have hlen := hd.length
  refine lc_gen (itl_at (B := []) ha (by simp)) (by omega) hD (A := fun i acc _ => TrAll [] H acc ((ds.take i).filter pd)) .nil (fun i H' acc hi k hdd hacc R R0 hR hR0 => ?_) fun acc H' k hdd hacc => ?_
  · have ei : ds[i]? = some ds[i] := List.getElem?_eq_getElem (by omega)
    have ex : xs[i]? = some xs[i] := List.getElem?_eq_getElem (by omega)
    obtain ⟨d, e1, e2⟩ := hd.get ex
    rw [ei] at e1
    cases e1
    have ef : ∀ b, pd ds[i] = b → (ds.take (i + 1)).filter pd = (ds.take i).filter pd ++ (if b = true then [ds[i]] else []) := fun b eb => by
      rw [List.take_add_one, ei, List.filter_append]
      cases b <;> simp [eb]
    have e3 : xs.getD i V.non = xs[i] := by
      rw [List.getD_eq_getElem?_getD, ex]; rfl
    rw [e3]
    refine step xs[i] ds[i] H' (List.getElem_mem (by omega)) (e2.up k) k R R0 (fun pt H'' k2 => hR _ H'' (k.trans k2) (k2.lst (by simp) hdd) ?_) fun pf H'' k2 => hR0 H'' (k.trans k2) (k2.lst (by simp) hdd) ?_
    · rw [ef true pt]
      exact hacc.snoc e2
    · rw [ef false pf]
      rw [if_neg (by simp), List.append_nil]
      exact hacc
  · rw [show xs.length = ds.length from hlen, List.take_length] at hacc
    exact q D acc H' k hD hdd (hacc.up k)
end
section
variable {g : TG} {tb : TS} {D : Ends} {σ : L2.St} {H : Hp}
/-- a for loop -/
theorem for_gen {J : It} {B : List Addr} {N : Nat} {f : Nat → V} (It : ItAt J B H N f) {Iv : Nat → L2.St → Hp → Prop} (h0 : Iv 0 σ H)
    (step : ∀ i σ' H', i < N → Kx B H H' → Iv i σ' H' → ∀ Nn : L2.St → Hp → Prop, (∀ σ'' H'', Kx B H H'' → Iv (i + 1) σ'' H'' → Nn σ'' H'') → g (f i) σ' H' fun σ2 H2 => tb { D with nx := Nn, ct := Nn, bk := D.nx } σ2 H2)
    (q : ∀ σ' H', Kx B H H' → Iv N σ' H' → D.nx σ' H') :
    ∃ W : Nat → Nat → L2.St → Hp → Prop, (∃ m, W 0 m σ H) ∧ ∀ i m σ H, W i m σ H → (J.stop i H ∧ D.nx σ H) ∨ (J.go i H ∧ ∃ N : L2.St → Hp → Prop, (∀ σ' H', N σ' H' → ∃ m', m' < m ∧ W (i + 1) m' σ' H') ∧ ∀ x H', J.yld i H x H' → g x σ H' fun σ2 H2 => tb { D with nx := N, ct := N, bk := D.nx } σ2 H2) := by
  refine ⟨fun i m σ' H' => m = N - i ∧ i ≤ N ∧ Kx B H H' ∧ Iv i σ' H', ⟨N, by simp, Nat.zero_le _, Kx.refl _, h0⟩, ?_⟩
  rintro i m σ' H' ⟨rfl, hi, k, hv⟩
  by_cases hlt : i < N
  · refine .inr ⟨It.go i H' hlt k, fun σ'' H'' => Kx B H H'' ∧ Iv (i + 1) σ'' H'', fun σ'' H'' z => ⟨N - (i + 1), by omega, rfl, hlt, z⟩, fun x H5 y => ?_⟩
    obtain ⟨rfl, rfl⟩ := It.yld i H' x H5 hlt k y
    exact step i σ' H5 hlt k hv _ fun σ'' H'' k2 h2 => ⟨k2, h2⟩
  · have e : i = N := by omega
    subst e
    exact .inl ⟨It.stop H' k, q σ' H' k hv⟩
end
end Comps

set_option Elab.async false
set_option linter.all false
set_option maxRecDepth 100000
set_option maxHeartbeats 2000000
/-! Loops2: all over two clauses of ranges; comprehensions that filter. -/
namespace Loops2
open PySem PySem.Spec PyProof.Rows L2 GxR GX Tree Kit Comps
section
variable {K : PySem.W.Frag} {P : Addr} {g g1 : TG} {te : TE} {wi1 : TI} {vs vs1 : List Nat} {σ : L2.St} {H : Hp} {Q : VK}
theorem meas {n1 n2 i j : Nat} (h : i < n1) : (n1 - (i + 1)) * (n2 + 2) + (n2 - j) + 1 < (n1 - i) * (n2 + 2) := by
  have e : n1 - i = (n1 - (i + 1)) + 1 := by omega
  rw [e, Nat.add_mul, Nat.one_mul]
  omega
/-- all(e for i in range(n1) for j in range(n2)) -/
theorem all_range2 {n1 n2 : Nat} {p : Nat → Nat → Bool} (hT : TabG H P)
    (step : ∀ i H', i < n1 → Kx [] H H' → ∀ Z : It → L2.St → Hp → Prop,
      (∀ σ2 H3, Kx [] H' H3 → (∀ j H5, j < n2 → Kx [] H3 H5 → ∀ R : Bool → Hp → Prop, (∀ H6, Kx [] H5 H6 → R (p i j) H6) → g1 (.int j) (wipe σ2 vs1) H5 fun σ3 H7 => wipe σ3 vs1 = wipe σ2 vs1 ∧ te σ3 H7 fun y H8 => ∃ b, y = .bl b ∧ R b H8) → Z (Itr 0 n2) σ2 H3) →
      g (.int i) (wipe σ vs) H' fun σ2 H2 => wipe σ2 vs = wipe σ vs ∧ wi1 σ2 H2 fun J1 H4 => Z J1 σ2 H4)
    (q : ∀ H', Kx [] H H' → Q (.bl ((List.range n1).all fun i => (List.range n2).all (p i))) H') :
    TabG H P ∧ ∀ H2, Tabbed P H H2 → ∃ W : Nat → Nat → Hp → Prop, (∃ m, W 0 m H2) ∧ GTurns2 (Itr 0 n1) g tYes wi1 g1 tYes te vs vs1 σ W (fun H => Q (.bl true) H) (consAll fun b H => Q (.bl b) H) := by
  refine ⟨hT, fun H2 ht => ?_⟩
  refine ⟨fun i m H' => m = (n1 - i) * (n2 + 2) ∧ i ≤ n1 ∧ Kx [] H H' ∧ ∀ i', i' < i → ∀ j, j < n2 → p i' j = true, ⟨_, rfl, Nat.zero_le _, Kx.tabbed hT ht, fun i' hi' => absurd hi' (Nat.not_lt_zero _)⟩, ?_⟩
  rintro i m H' ⟨rfl, hi, k, hp⟩
  by_cases hlt : i < n1
  · refine .inr ⟨hlt, fun x H5 y => ?_⟩
    obtain ⟨rfl, rfl⟩ := y
    rw [Int.zero_add]
    refine step i H5 hlt k (fun J1 σ2 H4 => ∃ W1 : Nat → Nat → Hp → Prop, (∃ m1, m1 < (n1 - i) * (n2 + 2) ∧ W1 0 m1 H4) ∧ GTurns1 J1 g1 tYes te vs1 σ2 W1 (fun m1 H' => ∃ m', m' < m1 ∧ (m' = (n1 - (i + 1)) * (n2 + 2) ∧ i + 1 ≤ n1 ∧ Kx [] H H' ∧ ∀ i', i' < i + 1 → ∀ j, j < n2 → p i' j = true)) (consAll fun b H => Q (.bl b) H)) fun σ2 H3 k3 inner => ?_
    refine ⟨fun j m1 H' => m1 = (n1 - (i + 1)) * (n2 + 2) + (n2 - j) + 1 ∧ j ≤ n2 ∧ Kx [] H3 H' ∧ ∀ j', j' < j → p i j' = true, ⟨_, meas hlt, rfl, Nat.zero_le _, Kx.refl _, fun j' hj' => absurd hj' (Nat.not_lt_zero _)⟩, ?_⟩
    rintro j m1 H6 ⟨rfl, hj, k6, hpj⟩
    have kk := k.trans (k3.trans k6)
    by_cases hjl : j < n2
    · refine .inr ⟨hjl, fun H'' => Kx [] H3 H'' ∧ p i j = true, fun H'' z => ⟨(n1 - (i + 1)) * (n2 + 2) + (n2 - (j + 1)) + 1, by omega, rfl, hjl, z.1, fun j' hj' => ?_⟩, fun x H7 y => ?_⟩
      · rcases Nat.lt_or_eq_of_le (Nat.le_of_lt_succ hj') with h | h
        · exact hpj j' h
        · rw [h]; exact z.2
      · obtain ⟨rfl, rfl⟩ := y
        rw [Int.zero_add]
        refine inner j H7 hjl k6 (fun b H4 => if b = true then (Kx [] H3 H4 ∧ p i j = true) else Q (.bl false) H4) (fun H'' k2 => ?_)
        cases hb : p i j with
        | true => exact ⟨k6.trans k2, rfl⟩
        | false =>
          have hall : ((List.range n1).all fun i => (List.range n2).all (p i)) = false := by
            rw [Bool.eq_false_iff]
            intro z
            have z1 := List.all_eq_true.mp z i (List.mem_range.mpr hlt)
            rw [List.all_eq_true.mp z1 j (List.mem_range.mpr hjl)] at hb
            cases hb
          have := q H'' (kk.trans k2)
          rw [hall] at this
          exact this
    · have e : j = n2 := by omega
      subst e
      refine .inl ⟨Nat.le_refl _, _, ?_, rfl, hlt, kk, fun i' hi' j' hj' => ?_⟩
      · omega
      · rcases Nat.lt_or_eq_of_le (Nat.le_of_lt_succ hi') with h | h
        · exact hp i' h j' hj'
        · rw [h]; exact hpj j' hj'
  · have e : i = n1 := by omega
    subst e
    refine .inl ⟨Nat.le_refl _, ?_⟩
    have := q H' k
    rw [show ((List.range i).all fun i => (List.range n2).all (p i)) = true from List.all_eq_true.mpr fun i' hi' => List.all_eq_true.mpr fun j hj => hp i' (List.mem_range.mp hi') j (List.mem_range.mp hj)] at this
    exact this
end
section
variable {g : TG} {tt : TT} {te : TE} {vs : List Nat} {σ : L2.St} {H : Hp} {Q : VK}
/-- [i for i in range(n) if ..] -/
theorem lc_range {n : Nat} (p : Nat → Bool) (hN : n < sizeLine)
    (step : ∀ i H', i < n → Kx [] H H' → ∀ (R : V → Hp → Prop) (R0 : Hp → Prop), (p i = true → ∀ H'', Kx [] H' H'' → R (.int i) H'') → (p i = false → ∀ H'', Kx [] H' H'' → R0 H'') →
      g (.int i) (wipe σ vs) H' fun σ2 H2 => wipe σ2 vs = wipe σ vs ∧ tt σ2 H2 fun b H3 => if b = true then te σ2 H3 R else R0 H3)
    (q : ∀ D H', Kx [] H H' → H D = none → H' D = some (.lst ((((List.range n).filter p).map fun i : Nat => (i : Int)).map V.int)) → Q (.ref D) H') :
    CompG (Itr 0 n) g tt te vs σ H Q := by
  intro D hD
  refine lc_gen (B := []) (itr_at n) hN hD (A := fun i acc _ => acc = ((((List.range i).filter p).map fun i : Nat => (i : Int)).map V.int)) rfl (fun i H' acc hi k hd ha R R0 hR hR0 => ?_) fun acc H' k hd ha => q D H' k hD (ha ▸ hd)
  have ef : ∀ b, p i = b → (List.range (i + 1)).filter p = (List.range i).filter p ++ (if b = true then [i] else []) := fun b eb => by
    rw [List.range_succ, List.filter_append]
    cases b <;> simp [eb]
  refine step i H' hi k R R0 (fun pt H'' k2 => hR _ H'' (k.trans k2) (k2.lst (by simp) hd) ?_) fun pf H'' k2 => hR0 H'' (k.trans k2) (k2.lst (by simp) hd) ?_
  · rw [ef true pt, ha, if_pos rfl, List.map_append, List.map_append]
    rfl
  · rw [ef false pf, ha, if_neg (by simp), List.append_nil]
/-- [x for x in l if ..], l a list of ints -/
theorem lc_filtI {K : PySem.W.Frag} {a : Addr} {ns : List Int} (p : Int → Bool) (ha : H a = some (.lst (ns.map V.int))) (hN : ns.length < sizeLine)
    (step : ∀ n H', n ∈ ns → Kx [] H H' → ∀ (R : V → Hp → Prop) (R0 : Hp → Prop), (p n = true → ∀ H'', Kx [] H' H'' → R (.int n) H'') → (p n = false → ∀ H'', Kx [] H' H'' → R0 H'') →
      g (.int n) (wipe σ vs) H' fun σ2 H2 => wipe σ2 vs = wipe σ vs ∧ tt σ2 H2 fun b H3 => if b = true then te σ2 H3 R else R0 H3)
    (q : ∀ D H', Kx [] H H' → H D = none → H' D = some (.lst ((ns.filter p).map V.int)) → Q (.ref D) H') :
    CompG (Itl K a) g tt te vs σ H Q := by
  intro D hD
  refine lc_gen (itl_at (B := []) ha (by simp)) (by rw [List.length_map]; exact hN) hD (A := fun i acc _ => acc = ((ns.take i).filter p).map V.int) rfl (fun i H' acc hi k hd hacc R R0 hR hR0 => ?_) fun acc H' k hd hacc => ?_
  · have hi' : i < ns.length := by rw [List.length_map] at hi; exact hi
    have ei : ns[i]? = some ns[i] := List.getElem?_eq_getElem hi'
    have ef : ∀ b, p ns[i] = b → (ns.take (i + 1)).filter p = (ns.take i).filter p ++ (if b = true then [ns[i]] else []) := fun b eb => by
      rw [List.take_add_one, ei, List.filter_append]
      cases b <;> simp [eb]
    have e3 : (ns.map V.int).getD i V.non = .int ns[i] := by
      rw [List.getD_eq_getElem?_getD, List.getElem?_map, ei]; rfl
    rw [e3]
    refine step ns[i] H' (List.getElem_mem hi') k R R0 (fun pt H'' k2 => hR _ H'' (k.trans k2) (k2.lst (by simp) hd) ?_) fun pf H'' k2 => hR0 H'' (k.trans k2) (k2.lst (by simp) hd) ?_
    · rw [ef true pt, if_pos rfl, List.map_append, hacc]
      rfl
    · rw [ef false pf, if_neg (by simp), List.append_nil]
      exact hacc
  · rw [List.length_map, List.take_length] at hacc
    exact q D H' k hD (hacc ▸ hd)
/-- .. of trees, none at an address of C -/
theorem lc_filtC {K : PySem.W.Frag} {C : List Addr} {a : Addr} {xs : List V} {ds : List PyData} (pd : PyData → Bool) (al : ∀ c ∈ C, H c ≠ none) (ha : H a = some (.lst xs)) (hd : TrAll C H xs ds) (hN : ds.length < sizeLine)
    (step : ∀ x d H', d ∈ ds → Tr C H' x d → Kx [] H H' → ∀ (R : V → Hp → Prop) (R0 : Hp → Prop), (pd d = true → ∀ H'', Kx [] H' H'' → R x H'') → (pd d = false → ∀ H'', Kx [] H' H'' → R0 H'') →
      g x (wipe σ vs) H' fun σ2 H2 => wipe σ2 vs = wipe σ vs ∧ tt σ2 H2 fun b H3 => if b = true then te σ2 H3 R else R0 H3)
    (q : ∀ D H', Kx [] H H' → H D = none → Tr C H' (.ref D) (.list (ds.filter pd)) → Q (.ref D) H') :
    CompG (Itl K a) g tt te vs σ H Q := by
  intro D hD
  have hlen := hd.length
  have nD : D ∉ C := fun z => al D z hD
  refine lc_gen (itl_at (B := []) ha (by simp)) (by omega) hD (A := fun i acc _ => TrAll C H acc ((ds.take i).filter pd)) .nil (fun i H' acc hi k hdd hacc R R0 hR hR0 => ?_) fun acc H' k hdd hacc => ?_
  · have ei : ds[i]? = some ds[i] := List.getElem?_eq_getElem (by omega)
    have ex : xs[i]? = some xs[i] := List.getElem?_eq_getElem (by omega)
    obtain ⟨d, e1, e2⟩ := hd.get ex
    rw [ei] at e1
    cases e1
    have ef : ∀ b, pd ds[i] = b → (ds.take (i + 1)).filter pd = (ds.take i).filter pd ++ (if b = true then [ds[i]] else []) := fun b eb => by
      rw [List.take_add_one, ei, List.filter_append]
      cases b <;> simp [eb]
    have e3 : xs.getD i V.non = xs[i] := by
      rw [List.getD_eq_getElem?_getD, ex]; rfl
    rw [e3]
    refine step xs[i] ds[i] H' (List.getElem_mem (by omega)) (e2.up k) k R R0 (fun pt H'' k2 => hR _ H'' (k.trans k2) (k2.lst (by simp) hdd) ?_) fun pf H'' k2 => hR0 H'' (k.trans k2) (k2.lst (by simp) hdd) ?_
    · rw [ef true pt]
      exact hacc.snoc e2
    · rw [ef false pf]
      rw [if_neg (by simp), List.append_nil]
      exact hacc
  · rw [show xs.length = ds.length from hlen, List.take_length] at hacc
    exact q D H' k hD (.lst nD hdd (hacc.up k))
end
end Loops2

set_option Elab.async false
set_option linter.all false
set_option maxRecDepth 100000
set_option maxHeartbeats 4000000
/-! Sets: set(l) of a list of ints, to be sorted; a list compared with an empty one. -/
namespace Sets
open PySem PySem.Spec PyProof.Rows L2
section
variable {P : Program} {w : World} {A : Around} {E : Value → Shared → Prop} {s : Shared}
abbrev soO (w : World) : Obj := { cls := .type "set", dict := none, data := .set #[] 0 (.fresh 0 0 (!w.params.followText "set-order")) }
theorem set_of_list {l : Addr} {items : Array Value} (ns : List Int) {Q : Value → Shared → Prop} (hh : A.handled = none) (hl : s.heap.IsList l items) (hit : IntsAre items.toList ns) (hb : ns.length + 1 < scanBound)
    (h : ∀ (h' : Heap) (tk c : Nat), SetR w h' s.heap.objs.size (fun j => decide (j ∈ ns)) c → c ≤ ns.length → (∀ b o, s.heap.get? b = some o → h'.get? b = some o) → Q (.ref s.heap.objs.size) { s with heap := h', toks := tk }) :
    wpAny (model P w) A (call (.type "set") [.ref l]) Q E s := by
  have hisz : items.size = ns.length := by simpa using hit.length
  obtain ⟨c, tl, hmro⟩ := F.called_set.mro
  have hmade := F.called_set.made
  have hsub := F.called_set.sub
  refine wpAny_call (codeAny_of_tree ?_)
  show wpAny _ _ (callAny (.type "set") _) _ _ _
  refine wpAny_pure ⟨Code.quiet_builtin _ (by decide +kernel), codeAny_builtin F.entry_type_call ?_⟩
  rw [Around.under_plain (weight_type_call_type "set" [.ref l] []) rfl]
  have h1 := F.called_set.notType
  have h2 := F.called_set.canCreate
  have hct := F.typeCall_set_1 (.ref l)
  repeat (any_goals (first | assumption | wp_step))
  have new := code_set_led1 (P := P) (w := w) (A := A.in1) (s := s) (.ref l) (E := E) (Q₁ := fun obj s₁ => obj = .ref s.heap.objs.size ∧ s₁ = { s with heap := s.heap.push (soO w) }) ⟨rfl, rfl⟩
  refine codeAny_mono new fun r s₁ hr => ?_
  match r, hr with
  | .error e, hr => exact hr
  | .ok .next, hr => exact hr.elim
  | .ok .brk, hr => exact hr.elim
  | .ok .cont, hr => exact hr.elim
  | .ok (.ret obj), hr =>
    obtain ⟨rfl, rfl⟩ := hr
    have hS : (s.heap.push (soO w)).get? s.heap.objs.size = some (soO w) := Heap.get?_push_size _ rfl
    have hT : Shared.TypeIs { s with heap := s.heap.push (soO w) } (.ref s.heap.objs.size) "set" := ⟨_, hS, rfl⟩
    have hli := F.called_set.init.lookup
    have hbi := F.called_set.init.bind (.ref s.heap.objs.size)
    repeat (any_goals (first | assumption | wp_step))
    refine codeAny_mono (codeAny_call_builtin (R := wants (fun r s₂ => r = .none ∧ ∃ h' tk c, s₂ = { s with heap := h', toks := tk } ∧ SetR w h' s.heap.objs.size (fun j => decide (j ∈ ns)) c ∧ c ≤ ns.length ∧
        (∀ b o, s.heap.get? b = some o → h'.get? b = some o)) E) F.called_set.init.plain F.entry_set_init (check_set_init_1 hT ?_)) fun r₂ s₂ hr₂ => ?_
    · obtain ⟨ol, hol, hcl, nl, hdl⟩ := hl
      obtain ⟨ocls, odict, odata, oslots⟩ := ol
      simp only at hcl hdl
      subst hcl; subst hdl
      have hol' : (s.heap.push (soO w)).get? l = some { cls := .type "list", dict := odict, data := .seq items nl, slots := oslots } := Heap.get?_push_of_some _ hol
      have hsls := F.sub_list_set
      have hslf := F.sub_list_frozenset
      have hne : (Value.type "list" == Value.type "dict") = false := by decide
      have hl1 : (s.heap.push (soO w)).IsList l items := ⟨_, hol', rfl, nl, rfl⟩
      unfold Builtin.«set.__init__» noKeywords Builtin.Frozenset.updateFrom
      generalize hPI : pyIter = PI
      wp_walk
      subst hPI
      refine wpAny_pyIter_list hl1 ?_
      refine wpAny_bind (wpAny_runValue ?_)
      have hlS : l < s.heap.objs.size := Heap.lt_size hol
      have sz1 : (s.heap.push (soO w)).objs.size = s.heap.objs.size + 1 := Heap.size_push ..
      have hneI : l ≠ (s.heap.push (soO w)).objs.size := by rw [sz1]; exact Nat.ne_of_lt (Nat.lt_succ_of_lt hlS)
      have hSf : s.heap.objs.size ∉ [(s.heap.push (soO w)).objs.size, l] := fun hm => by
        rcases List.mem_cons.mp hm with e | hm
        · rw [sz1] at e; exact absurd e (Nat.ne_of_lt (Nat.lt_succ_self _))
        · rcases List.mem_cons.mp hm with e | hm
          · exact absurd e (Nat.ne_of_gt hlS)
          · cases hm
      have hval : ∀ (i : Nat) (v : Value), items[i]? = some v → ∃ k t, ns[i]? = some k ∧ v = .int k t := fun i v hv => by
        have hi : i < ns.length := by rw [← hisz]; exact (Array.getElem?_eq_some_iff.mp hv).1
        obtain ⟨t, e⟩ := PyProof.Rows.IntsAre.int_at hit i v (by rw [Array.getElem?_toList]; exact hv)
        exact ⟨ns[i], t, List.getElem?_eq_getElem hi, by rw [e, List.getD_eq_getElem?_getD, List.getElem?_eq_getElem hi]; rfl⟩
      have hh3 : A.in1.in1.in1.handled = none := hh
      refine set_update_ints ((Walks.list hh3 _ l hneI items).toS) s.heap.objs.size hSf ns hisz hb hval (items.size - 0) 0 _ (by omega) (Nat.zero_le _)
        ⟨⟨_, Heap.get?_push_size _ rfl, rfl, rfl⟩, (hl1.push _)⟩ ⟨0, Nat.le_refl 0, setR_new_at (Heap.get?_push_of_some _ hS)⟩ fun s' c' hm hc' hS' => ?_
      obtain ⟨h', g2, d', tk', os'⟩ := s'
      obtain rfl : g2 = s.gens := hm.gens
      obtain rfl : d' = s.drawn := hm.drawn
      obtain rfl : os' = s.os := hm.os
      show wpAny _ _ _ _ _ _
      refine wpAny_pure ?_
      show wpAny _ _ (ret Value.none) _ _ _
      rw [hisz] at hc'
      refine wpAny_pure ⟨rfl, h', tk', c', rfl, hS', hc', fun b o e => ?_⟩
      have hb0 : b < s.heap.objs.size := Heap.lt_size e
      refine hm.heap b o (fun hm => ?_) (Heap.get?_push_of_some _ (Heap.get?_push_of_some _ e))
      rcases List.mem_cons.mp hm with e | hm
      · exact absurd e (Nat.ne_of_lt hb0)
      · rcases List.mem_cons.mp hm with e | hm
        · rw [sz1] at e; exact absurd e (Nat.ne_of_lt (Nat.lt_succ_of_lt hb0))
        · cases hm
    · match r₂, hr₂ with
      | .error e, hr₂ => exact hr₂
      | .ok .next, hr₂ => exact hr₂.elim
      | .ok .brk, hr₂ => exact hr₂.elim
      | .ok .cont, hr₂ => exact hr₂.elim
      | .ok (.ret r), hr₂ =>
        obtain ⟨rfl, h', tk, cc, rfl, hS', hc', hk'⟩ := hr₂
        repeat (any_goals (first | assumption | wp_step))
        exact h _ _ _ hS' hc' hk'
end
section
variable {X : Cx}
/-- set(l), l a list of ints -/
def rSetL (w : World) : List V → Hp → VK → Prop := fun xs H Q => ∃ (a : Addr) (ns : List Int), xs = [.ref a] ∧ H a = some (.lst (ns.map V.int)) ∧ ns.length ≤ 60 ∧
  ∀ p c, c ≤ ns.length → H p = none → Q (.ref p) (upd H p (SetO w p (fun j => decide (j ∈ ns)) c))
theorem call_setL (w : World) (hw : X.w = w) (hc : X.calm = true) : CallR X (.type "set") (rSetL w) := by
  subst hw
  intro pins s σ H vs us Q I r h
  obtain ⟨a, ns, rfl, ha, hz, q⟩ := h
  rw [Vals.ref1 r]
  obtain ⟨_, its, n, rv, e⟩ := I.hok a _ ha
  refine set_of_list ns (I.ok.hd hc) ⟨_, e, rfl, n, rfl⟩ (by simpa using ints_of_vals rv) (by unfold scanBound; omega) fun h' tk c R hle k => ?_
  have hn : H s.heap.objs.size = none := I.hok.fresh (Nat.le_refl _)
  exact ⟨.ref s.heap.objs.size, _, I.laid (t' := tk) k (Nat.le_refl _) (setO_new R), rfl, q _ c hle hn⟩
/-- l == [] and l != [] -/
def rEqNil : R2 := fun x y H Q => ∃ a b xs, x = .ref a ∧ y = .ref b ∧ H a = some (.lst xs) ∧ H b = some (.lst []) ∧ Q (.bl xs.isEmpty) H
def rNeNil : R2 := fun x y H Q => ∃ a b xs, x = .ref a ∧ y = .ref b ∧ H a = some (.lst xs) ∧ H b = some (.lst []) ∧ Q (.bl (!xs.isEmpty)) H
theorem op_eqNil (hu : X.A.units < cLine) : OpR X (compareOp .Eq) rEqNil := by
  intro pins s σ H x y v u Q I rx ry h
  obtain ⟨a, b, xs, rfl, rfl, ha, hb, q⟩ := h
  cases rx; cases ry
  obtain ⟨_, its, n, rv, e⟩ := I.hok a _ ha
  obtain ⟨_, its2, n2, rv2, e2⟩ := I.hok b _ hb
  cases rv2
  cases rv with
  | nil =>
    exact SeqAt.eq_listAt (e := fun _ => true) ⟨_, e, rfl, n, rfl⟩ ⟨_, e2, rfl, n2, rfl⟩ rfl hu (fun j h1 => absurd h1 (Nat.not_lt_zero _)) ⟨.bl true, H, I, rfl, q⟩
  | cons r rr =>
    exact SeqAt.eq_list_lengthsAt ⟨_, e, rfl, n, rfl⟩ ⟨_, e2, rfl, n2, rfl⟩ (by simp) hu ⟨.bl false, H, I, rfl, q⟩
theorem op_neNil (hu : X.A.units < cLine) : OpR X (compareOp .NotEq) rNeNil := by
  intro pins s σ H x y v u Q I rx ry h
  obtain ⟨a, b, xs, rfl, rfl, ha, hb, q⟩ := h
  cases rx; cases ry
  obtain ⟨_, its, n, rv, e⟩ := I.hok a _ ha
  obtain ⟨_, its2, n2, rv2, e2⟩ := I.hok b _ hb
  cases rv2
  cases rv with
  | nil =>
    exact SeqAt.RcNeAt.lists (e := fun _ => true) ⟨_, e, rfl, n, rfl⟩ ⟨_, e2, rfl, n2, rfl⟩ rfl hu (fun j h1 => absurd h1 (Nat.not_lt_zero _)) _ _ _ _ ⟨.bl false, H, I, rfl, q⟩
  | cons r rr =>
    exact SeqAt.RcNeAt.lists_lengths ⟨_, e, rfl, n, rfl⟩ ⟨_, e2, rfl, n2, rfl⟩ (by simp) hu _ _ _ _ ⟨.bl true, H, I, rfl, q⟩
end
end Sets

set_option Elab.async false
set_option linter.all false
set_option maxRecDepth 100000
set_option maxHeartbeats 4000000
/-! SetG: a set comprehension whose things are put in by any rule (ints, tuples of ints). -/
namespace SetG
open PySem PySem.Spec PyProof.Rows L2 PpSet
section
variable {X : Cx}
/-- what it asks to put y into the set at D, and what then holds -/
abbrev PutW : Type := V → Addr → Hp → (Hp → Prop) → Prop
/-- the rule of putting in -/
def PutR (X : Cx) (r : PutW) : Prop := ∀ (pins : List (Addr × Obj)) (τ : L2.St) (G : Hp) (z : Shared) (D : Addr) (y : V) (u : Value) (N : Hp → Prop), Inv X pins τ G z → RelV y u → r y D G N →
  wpAny (model X.prog X.w) X.A (call (.builtin "set.add") [.ref D, u]) (fun _ z' => ∃ G', Inv X pins τ G' z' ∧ N G') X.xe z
/-- the fresh set as an abstract object -/
def NewW (X : Cx) (n0 : Addr → HO) : Prop := ∀ (G : Hp) (h : Heap), ObjOk X.prog X.w G (h.push { cls := .type "set", dict := none, data := .set #[] 0 (.fresh 0 0 (!X.w.params.followText "set-order")) }) h.objs.size (n0 h.objs.size)
/-- what the comprehension asks -/
def SetG (n0 : Addr → HO) (r : PutW) (J : It) (g : TG) (tt : TT) (te : TE) (vs : List Nat) (σ : L2.St) (G : Hp) (Q : VK) : Prop := ∀ D, G D = none → ∃ W : Nat → Nat → Hp → Prop, (∃ m, W 0 m (upd G D (n0 D))) ∧ ∀ i m G, W i m G →
  (J.stop i G ∧ Q (.ref D) G) ∨ (J.go i G ∧ ∃ N : Hp → Prop, (∀ G', N G' → ∃ m', m' < m ∧ W (i + 1) m' G') ∧ ∀ x G', J.yld i G x G' → g x (wipe σ vs) G' fun τ G2 => wipe τ vs = wipe σ vs ∧ tt τ G2 fun b G3 => if b = true then te τ G3 fun y G4 => r y D G4 N else N G3)
def tSetG (n0 : Addr → HO) (r : PutW) (wi : TI) (g : TG) (tt : TT) (te : TE) (vs : List Nat) : TE := fun σ G Q => wi σ G fun J G1 => SetG n0 r J g tt te vs σ G1 Q
theorem pe_setG {n0 : Addr → HO} {r : PutW} {elt tg iter : Expr} {ifs : List Expr} {scope : Scope} {own : List (PySem.Str × Nat)} {pos : Pos} {wi : TI} {g : TG} {tt : TT} {te : TE}
    (cm : X.calm = true) (nn : NewW X n0) (nd : X.N.Nodup) (hi : PI X tg iter wi) (bo : BlkOk X.N X.env.scope scope own)
    (hg : ∀ (s : Shared) (H : Hp) (C : Addr) (cl : List (PySem.Str × Addr)) (fp : List Addr), PG (X.blk s H scope (compEnvC scope cl C X.env) fp) tg g)
    (ht : ∀ (s : Shared) (H : Hp) (C : Addr) (cl : List (PySem.Str × Addr)) (fp : List Addr), PTs (X.blk s H scope (compEnvC scope cl C X.env) fp) ifs tt)
    (he : ∀ (s : Shared) (H : Hp) (C : Addr) (cl : List (PySem.Str × Addr)) (fp : List Addr), PE (X.blk s H scope (compEnvC scope cl C X.env) fp) elt te)
    (hp : ∀ (s : Shared) (H : Hp) (C : Addr) (cl : List (PySem.Str × Addr)) (fp : List Addr), PutR (X.blk s H scope (compEnvC scope cl C X.env) fp) r)
    (fo : ∀ x, foldedSetIterable iter X.env x = pure x := by intro _; rfl) :
    PE X (.SetComp elt [⟨tg, iter, ifs, 0⟩] scope pos) (tSetG n0 r wi g tt te (own.map (·.2))) := by
  refine ⟨fun pins z0 σ G Q I hw => ?_⟩
  rw [eval_SetComp]
  have cells : ∀ y ∈ scope.names, y.2 = .free → ∃ c, X.env.cells.lookup y.1 = some c := fun y hy e => (bo.free y hy e).elim (fun k => I.ok.has _ (.inl k)) fun k => I.ok.has _ (.inr k)
  refine wpAny_comprehension_free rfl fo (closure_ok cells) bo.kind (fun y hy e => by rw [bo.uniq y hy, e]) ?_
  refine thn (hi.run pins z0 σ G _ I hw) fun xv z1 first => thn first fun itv z2 there => ?_
  obtain ⟨it, fp, tn, J, G2, rfl, I2, T, st2, apart, ask⟩ := there
  refine newSet_ok (newEnv_comp ?_)
  -- the set's place
  obtain ⟨D, eD⟩ : ∃ D, D = z2.heap.objs.size := ⟨_, rfl⟩
  have nD : G2 D = none := I2.hok.fresh (Nat.le_of_eq eD.symm)
  obtain ⟨W, ⟨mW, w0⟩, turn⟩ := ask D nD
  rw [← eD]
  obtain ⟨z3, e3⟩ : ∃ z3 : Shared, z3 = { z2 with heap := z2.heap.push { cls := .type "set", dict := none, data := .set #[] 0 (.fresh 0 0 (!X.w.params.followText "set-order")) } } := ⟨_, rfl⟩
  rw [← e3]
  have hh3 : z3.heap = z2.heap.push { cls := .type "set", dict := none, data := .set #[] 0 (.fresh 0 0 (!X.w.params.followText "set-order")) } := by rw [e3]
  have keep23 : ∀ b o, z2.heap.get? b = some o → z3.heap.get? b = some o := fun b o e => by rw [hh3]; exact Heap.get?_push_of_some _ e
  obtain ⟨G3, eG3⟩ : ∃ G3, G3 = upd G2 D (n0 D) := ⟨_, rfl⟩
  rw [← eG3] at w0
  have I3 : Inv X pins σ G3 z3 := by
    rw [eG3, e3]
    exact I2.laid (t' := z2.toks) (fun b o e => Heap.get?_push_of_some _ e) (Nat.le_of_eq eD.symm) (by rw [eD]; exact nn _ _)
  have low : ∀ b ∈ fp, b < z2.heap.objs.size := fun b hb => by
    obtain ⟨o, e, _⟩ := T.obj _ _ st2 b hb
    exact Heap.lt_size e
  have apart3 : ∀ b ∈ fp, FpOk X pins G3 b ∧ b < z3.heap.objs.size := fun b hb => by
    have l := low b hb
    have ne : b ≠ D := by rw [eD]; exact Nat.ne_of_lt l
    exact ⟨⟨by rw [eG3, upd_ne ne]; exact (apart b hb).1, (apart b hb).2⟩, by rw [hh3, Heap.size_push]; exact Nat.lt_succ_of_lt l⟩
  have none3 : ∀ b ∈ fp, G3 b = none := fun b hb => (apart3 b hb).1.1
  have st3 : tn 0 z3.heap := T.keep _ _ _ st2 fun b _ o e => keep23 b o e
  have I4 := block_start I3 bo nd apart3
  have pg := hg z3 G3 z3.heap.objs.size (cellsFrom (z3.heap.objs.size + 1) scope.names (cloFrom X.env.cells scope.names [])) fp
  have pt := ht z3 G3 z3.heap.objs.size (cellsFrom (z3.heap.objs.size + 1) scope.names (cloFrom X.env.cells scope.names [])) fp
  have pe := he z3 G3 z3.heap.objs.size (cellsFrom (z3.heap.objs.size + 1) scope.names (cloFrom X.env.cells scope.names [])) fp
  have pp := hp z3 G3 z3.heap.objs.size (cellsFrom (z3.heap.objs.size + 1) scope.names (cloFrom X.env.cells scope.names [])) fp
  obtain ⟨ce, ece⟩ : ∃ ce, ce = compEnvC scope (cellsFrom (z3.heap.objs.size + 1) scope.names (cloFrom X.env.cells scope.names [])) z3.heap.objs.size X.env := ⟨_, rfl⟩
  rw [← ece] at I4 pg pt pe pp
  obtain ⟨z4, e4⟩ : ∃ z4 : Shared, z4 = { z3 with heap := pushCells (z3.heap.push { cls := .type "dict", data := .dict #[] }) scope.names } := ⟨_, rfl⟩
  rw [← e4] at I4
  show codeAny _ _ (.compStart (.SetComp elt [⟨tg, iter, ifs, 0⟩] scope pos) 0 (.ref it) (.ref D) (compEnvC scope (cellsFrom (z3.heap.objs.size + 1) scope.names (cloFrom X.env.cells scope.names [])) z3.heap.objs.size X.env)) _ { z3 with heap := pushCells (z3.heap.push { cls := .type "dict", data := .dict #[] }) scope.names }
  rw [← ece, ← e4]
  have lce : ce.locals = z3.heap.objs.size := by rw [ece]; rfl
  have st4 : tn 0 z4.heap := T.keep _ _ _ st3 fun b _ o e => by rw [e4]; exact pushCells_keeps _ _ _ _ (Heap.get?_push_of_some _ e)
  have fpOk : ∀ {τ : L2.St} {G' : Hp} {z' : Shared}, Inv (X.blk z3 G3 scope ce fp) [] τ G' z' → (∀ b ∈ fp, G' b = none) → ∀ b ∈ fp, FpOk (X.blk z3 G3 scope ce fp) [] G' b := fun {τ G' z'} J' hn b hb =>
    ⟨hn b hb, (J'.ok.exf b hb).1, J'.ok.exfs b hb, .inl hb, fun x c e => (J'.ok.exf b hb).2 x c e, fun p hp => nomatch (show p ∈ ([] : List (Addr × Obj)) from by simpa using hp)⟩
  have loop : codeAny (model X.prog X.w) X.A (.compLoop (.SetComp elt [⟨tg, iter, ifs, 0⟩] scope pos) 0 (.ref it) (.ref D) ce) (compPost (model X.prog X.w) X.A X.xe none (EP X pins σ Q) (.ref D) z3.heap.objs.size) z4 := by
    refine compLoopS_any (fun n z' => ∃ i G', Inv (X.blk z3 G3 scope ce fp) [] (wipe σ (own.map (·.2))) G' z' ∧ tn i z'.heap ∧ (∀ b ∈ fp, G' b = none) ∧ W i n G') ?_ mW ⟨0, G3, I4, st4, none3, w0⟩
    rintro n z5 ⟨i, G5, I5, st5, none5, w5⟩
    rcases turn i n G5 w5 with ⟨stop, done⟩ | ⟨go, N, hN, step⟩
    · refine thnF (T.done (X.blk z3 G3 scope ce fp) rfl rfl rfl cm i [] z5 _ G5 (fun _ _ => False) I5 (fpOk I5 none5) st5 stop) fun r z6 ⟨er, I6⟩ => ?_
      subst er
      have back : Inv X pins σ G5 z6 := I3.call' (ch := fp) I6.os I6.base I6.hok I6.bare fun b hb => ⟨(apart3 b hb).1.2.2.2.1, (apart3 b hb).1.2.1, (apart3 b hb).1.2.2.2.2.1, (apart3 b hb).1.2.2.2.2.2⟩
      have free : G5 z3.heap.objs.size = none := by
        have q : G5 ce.locals = none := I6.free
        rwa [lce] at q
      obtain ⟨m, hns, _⟩ := I6.loc
      have hns : z6.heap.Ns ce.locals m := hns
      rw [lce] at hns
      refine ⟨m, hns, fun h'' sb => ?_⟩
      obtain ⟨a0, a1, a2, a3, a4, a5⟩ := I3.fpOk (Nat.le_refl _) free
      exact ⟨.ref D, G5, back.turned (t' := z6.toks) (fun b o hb e => (sb.2 b hb).trans e) free a1 a3 a4 a5, rfl, done⟩
    · refine thnF (T.item (X.blk z3 G3 scope ce fp) rfl rfl rfl cm i [] z5 _ G5 (fun _ _ => False) I5 (fpOk I5 none5) st5 go) fun r z6 ⟨u, er, got⟩ => ?_
      subst er
      refine thnF got fun _ z7 ⟨x, G7, I7, rx, yx, st7, none7⟩ => ?_
      refine thnF (pg.run _ z7 _ G7 x u _ (I7.pinned (fpOk I7 none7) (T.obj _ _ st7)) rx (step x G7 yx)) fun _ z8 ⟨τ8, G8, I8, eτ, q8⟩ => ?_
      refine thnF (pt.run _ z8 τ8 G8 _ I8 q8) fun b z9 ⟨G9, I9, q9⟩ => ?_
      have turned : ∀ {z' : Shared} {G' : Hp}, Inv (X.blk z3 G3 scope ce fp) ([] ++ pinsAt fp z7.heap) τ8 G' z' → N G' → ∃ m, m < n ∧ ∃ i G', Inv (X.blk z3 G3 scope ce fp) [] (wipe σ (own.map (·.2))) G' z' ∧ tn i z'.heap ∧ (∀ b ∈ fp, G' b = none) ∧ W i m G' := fun {z' G'} J' nx => by
        obtain ⟨m', lt, w'⟩ := hN G' nx
        have pin : ∀ b ∈ fp, ∀ o, z7.heap.get? b = some o → z'.heap.get? b = some o ∧ G' b = none := fun b hb o e =>
          have q := J'.pin (b, o) (List.mem_append_right _ (List.mem_append_right _ (mem_pinsAt hb e)))
          ⟨q.1, q.2.1⟩
        have el : (wipe σ (own.map (·.2))).length = τ8.length := by rw [← eτ, wipe_length]
        have wk := (J'.unpinned (pins := [])).weak el fun j v e => by
          rw [← eτ] at e
          exact (wipe_some e).1
        refine ⟨m', lt, i + 1, G', wk, T.keep _ _ _ st7 fun b hb o e => (pin b hb o e).1, fun b hb => ?_, w'⟩
        obtain ⟨o, e, _⟩ := T.obj _ _ st7 b hb
        exact (pin b hb o e).2
      cases b with
      | false => exact turned I9 (by simpa using q9)
      | true =>
        have q9 : te τ8 G9 fun y G4 => r y D G4 N := by simpa using q9
        refine thnF (pe.run _ z9 τ8 G9 _ I9 q9) fun v z10 ⟨y, G10, I10, ry, put⟩ => ?_
        refine wpAny_mono (pp _ τ8 G10 z10 D y v N I10 ry put) (fun _ z11 ⟨G11, I11, nx⟩ => turned I11 nx) fun _ _ h => h.elim
  exact codeAny_compStart_set loop (T.self X.A 0 _ _ _ st4 loop)
end
/-! ### tuples of ints -/
theorem add_tup {P : Program} {w : World} {A : Around} {E : Value → Shared → Prop} {s : Shared} {a x : Addr} {k : List Int} {L : List (Addr × List Int)} {es : Array (Int × Value)} {ep : Nat} {t : SetTable} {Q : Value → Shared → Prop}
    (R : SetTR P w s.heap a L es ep t) (hx : IsT P w s.heap k x) (hu : A.units + 64 < cLine) (few : L.length + 1 < 64)
    (q : ∀ h' L' es' ep' t' tk, Heap.SameBut a s.heap h' → SetTR P w h' a L' es' ep' t' → (k ∈ L.map (·.2) → L' = L) → (k ∉ L.map (·.2) → L'.Perm ((x, k) :: L)) → Q .none { s with heap := h', toks := tk }) :
    wpAny (model P w) A (call (.builtin "set.add") [.ref a, .ref x]) Q E s := by
  have ty : s.TypeIs (.ref a) "set" := by
    obtain ⟨o, ho, hex, _⟩ := R.ob
    exact ⟨o, ho, hex.1⟩
  refine wpAny_call_entry F.slot_set_add ty F.entry_set_add ?_ (F.args_set_add_2 _ _)
  unfold Builtin.«set.add» Builtin.Frozenset.oneOther
  simp only [List.isEmpty_nil, bind_assoc]
  unfold Builtin.Frozenset.addrOf setAdd
  refine wpAny_bind (wpAny_pure ?_)
  try dsimp only
  refine wpAny_bind (wpAny_pure ?_)
  try dsimp only
  refine wpAny_bind (wpAny_holding ?_)
  refine wpAny_bind (wpAny_pyHash_tuple (by show A.units + 1 < _; omega) hx ?_)
  refine add_at (s := { s with toks := s.toks + (k.length + 1) }) R hx (by show A.units + 1 < _; omega) few fun b h' L' es' ep' t' sb R' c1 c2 => ?_
  show wpAny _ _ (ret Value.none) _ _ _
  exact wpAny_pure ⟨_, rfl, q h' L' es' ep' t' _ sb R' c1 c2⟩
section
variable {X : Cx}
/-- y, a tuple of ints, comes into the set of the tuples of L -/
def rPutT (K : PySem.W.Frag) (P : Program) (w : World) : PutW := fun y D G N => ∃ (x : Addr) (k : List Int) (L : List (Addr × List Int)), y = .ref x ∧ SqT K G x (k.map V.int) ∧ G D = some (SetTO P w D L) ∧ (∀ p ∈ L, SqT K G p.1 (p.2.map V.int)) ∧ L.length + 1 < 64 ∧
  (k ∈ L.map (·.2) → N (upd G D (SetTO P w D L))) ∧ (k ∉ L.map (·.2) → ∀ L', L'.Perm ((x, k) :: L) → N (upd G D (SetTO P w D L')))
theorem put_tup (K : PySem.W.Frag) (P : Program) (w : World) (hK : X.K = K) (hP : X.prog = P) (hw : X.w = w) (hu : X.A.units + 64 < cLine) : PutR X (rPutT K P w) := by
  subst hK hP hw
  intro pins τ G z D y u N I ry h
  obtain ⟨x, k, L, rfl, hx, hD, hL, few, q1, q2⟩ := h
  obtain rfl : u = Value.ref x := ry
  have R0 : SetT0 X.prog X.w z.heap D L := (I.hok D _ hD).1
  obtain ⟨es, ep, t, R⟩ := R0.full fun p hp => Inv.isT I (hL p hp)
  refine add_tup R (Inv.isT I hx) hu few fun h' L' es' ep' t' tk sb R' c1 c2 => ?_
  have he : ∃ u, h'.get? D = some u := by
    obtain ⟨o, ho, _⟩ := R'.ob
    exact ⟨o, ho⟩
  have J := I.write (e := D) (t' := tk) (by rw [hD]; trivial) (.inl rfl) (fun b u hb hu => (sb.2 b hb).trans hu) he (setTO_new R'.t0)
  refine ⟨_, J, ?_⟩
  by_cases c : k ∈ L.map (·.2)
  · rw [c1 c]; exact q1 c
  · exact q2 c L' (c2 c)
theorem new_tup (P : Program) (w : World) (hP : X.prog = P) (hw : X.w = w) : NewW X (fun D => SetTO P w D []) := by
  subst hP hw
  intro G h
  exact setTO_new (SetTR.t0 (setTR_fresh (Heap.get?_push_size _ rfl)))
/-- len of such a set -/
def rLenT (P : Program) (w : World) : List V → Hp → VK → Prop := fun xs G Q => ∃ (a : Addr) (L : List (Addr × List Int)), xs = [.ref a] ∧ G a = some (SetTO P w a L) ∧ Q (.int L.length) G
theorem call_lenT (P : Program) (w : World) (hP : X.prog = P) (hw : X.w = w) : CallR X (.builtin "len") (rLenT P w) := by
  subst hP hw
  intro pins z σ G xs us Q I r h
  obtain ⟨a, L, rfl, ha, q⟩ := h
  cases r with
  | cons r rr =>
    cases rr
    cases r
    have R0 : SetT0 X.prog X.w z.heap a L := (I.hok a _ ha).1
    obtain ⟨es, ep, t, ⟨o, ho, hex, hd⟩, rows, tab, nd, plain, led, room, few⟩ := R0.ex
    have sz : es.size = L.length := by
      have := congrArg List.length rows
      simpa [rowsOf] using this
    have fits : t.fits es.size = true := by
      have e1 := tab.sz
      rw [List.length_map] at e1
      unfold SetTable.fits SetTable.fill
      rw [tab.dm, Bool.and_eq_true, beq_iff_eq, decide_eq_true_eq]
      show t.place.size = es.size ∧ t.place.size + 0 ≤ t.mask
      omega
    refine call_len_set ho hex hd fits (by omega) ⟨.int L.length, G, I.tok _, ⟨_, by rw [sz]⟩, q⟩
end
/-! ### ints -/
section
variable {X : Cx}
def rPutI (w : World) : PutW := fun y D G N => ∃ (k : Int) (S : Int → Bool) (n : Nat), y = .int k ∧ G D = some (SetO w D S n) ∧ n + 1 < scanBound ∧ N (upd G D (SetO w D (fun j => S j || decide (j = k)) (if S k = true then n else n + 1)))
theorem put_int (w : World) (hw : X.w = w) : PutR X (rPutI w) := by
  subst hw
  intro pins τ G z D y u N I ry h
  obtain ⟨k, S, n, rfl, hD, room, q⟩ := h
  exact thn (mt_sadd pins z τ G (.ref D) [.int k] (.ref D) [u] (fun _ G' => N G') I rfl (.cons ry .nil) ⟨D, k, S, n, rfl, rfl, hD, room, q⟩) fun _ z' ⟨_, G', J, _, q⟩ => ⟨G', J, q⟩
theorem new_int (w : World) (hw : X.w = w) : NewW X (fun D => SetO w D (fun _ => false) 0) := by
  subst hw
  intro G h
  exact setO_new (setR_fresh X.w)
def rLenI (w : World) : List V → Hp → VK → Prop := fun xs G Q => ∃ (a : Addr) (S : Int → Bool) (n : Nat), xs = [.ref a] ∧ G a = some (SetO w a S n) ∧ Q (.int n) G
theorem call_lenI (w : World) (hw : X.w = w) : CallR X (.builtin "len") (rLenI w) := by
  subst hw
  intro pins z σ G xs us Q I r h
  obtain ⟨a, S, n, rfl, ha, q⟩ := h
  cases r with
  | cons r rr =>
    cases rr
    cases r
    obtain ⟨o, es, ep, t, ho, hex, hd, _, _, _, hsz, hf, hn, _⟩ := setO_get I ha
    exact call_len_set ho hex hd hf (by unfold scanBound at hsz; omega) ⟨.int n, G, I.tok _, ⟨_, by rw [hn]⟩, q⟩
end
end SetG

set_option Elab.async false
set_option linter.all false
set_option maxRecDepth 100000
set_option maxHeartbeats 2000000
/-! SetL: how many unlike things a comprehension meets: sets of tuples of ints, of ints. -/
namespace SetL
open PySem PySem.Spec PyProof.Rows L2 GxR GX Tree Kit Comps SetG
theorem nodup_next {α : Type} (f : Nat → α) (i : Nat) : ((List.range (i + 1)).map f).Nodup ↔ ((List.range i).map f).Nodup ∧ ∀ j, j < i → f j ≠ f i := by
  rw [List.range_succ, List.map_append, List.nodup_append]
  constructor
  · rintro ⟨h1, _, h3⟩
    exact ⟨h1, fun j hj => h3 _ (List.mem_map.mpr ⟨j, List.mem_range.mpr hj, rfl⟩) _ (by simp)⟩
  · rintro ⟨h1, h3⟩
    refine ⟨h1, by simp, fun a ha b hb => ?_⟩
    obtain ⟨j, hj, rfl⟩ := List.mem_map.mp ha
    have : b = f i := by simpa using hb
    rw [this]
    exact h3 j (List.mem_range.mp hj)
/-- one more thing: the count stays the number of turns just where all were unlike -/
theorem count_next {α : Type} (f : Nat → α) {i n n' : Nat} (hn : n ≤ i) (he : n = i ↔ ((List.range i).map f).Nodup) (hs : (∃ j, j < i ∧ f i = f j) → n' = n) (hm : (¬ ∃ j, j < i ∧ f i = f j) → n' = n + 1) :
    n' ≤ i + 1 ∧ (n' = i + 1 ↔ ((List.range (i + 1)).map f).Nodup) := by
  rw [nodup_next]
  by_cases h : ∃ j, j < i ∧ f i = f j
  · have e := hs h
    refine ⟨by omega, fun z => by omega, fun z => ?_⟩
    obtain ⟨j, hj, ej⟩ := h
    exact absurd ej.symm (z.2 j hj)
  · have e := hm h
    refine ⟨by omega, fun z => ⟨he.mp (by omega), fun j hj ej => h ⟨j, hj, ej.symm⟩⟩, fun z => ?_⟩
    have := he.mpr z.1
    omega
section
variable {g : TG} {te : TE} {vs : List Nat} {σ : L2.St} {H : Hp} {Q : VK}
theorem len_tups {K : PySem.W.Frag} {P : Program} {w : World} {J : It} {N : Nat} {f : Nat → V} (It : ItAt J [] H N f) (keys : Nat → List Int) (hN : N < 64)
    (step : ∀ i H', i < N → Kx [] H H' → ∀ (R : V → Hp → Prop) (R0 : Hp → Prop), (∀ x H'', Kx [] H' H'' → H'' x = some (.tup ((keys i).map V.int)) → R (.ref x) H'') → g (f i) (wipe σ vs) H' fun σ2 H2 => wipe σ2 vs = wipe σ vs ∧ tYes σ2 H2 fun b H3 => if b = true then te σ2 H3 R else R0 H3)
    (q : ∀ D L H', Kx [] H H' → H' D = some (SetTO P w D L) → (L.length = N ↔ ((List.range N).map keys).Nodup) → Q (.ref D) H') :
    SetG (fun D => SetTO P w D []) (rPutT K P w) J g tYes te vs σ H Q := by
  intro D hD
  refine ⟨fun i m H' => m = N - i ∧ i ≤ N ∧ Kx [] H H' ∧ ∃ L : List (Addr × List Int), H' D = some (SetTO P w D L) ∧ (∀ p ∈ L, H' p.1 = some (.tup (p.2.map V.int))) ∧ (∀ k, k ∈ L.map (·.2) ↔ ∃ j, j < i ∧ k = keys j) ∧ L.length ≤ i ∧ (L.length = i ↔ ((List.range i).map keys).Nodup),
    ⟨N, by simp, Nat.zero_le _, Kx.new hD, [], upd_same, fun p h => (nomatch h), fun k => by simp, Nat.le_refl _, by simp⟩, ?_⟩
  rintro i m H1 ⟨rfl, hi, k1, L, eD, hL, mem, le, cnt⟩
  by_cases lt : i < N
  · refine .inr ⟨It.go i H1 lt k1, fun H' => Kx [] H H' ∧ ∃ L : List (Addr × List Int), H' D = some (SetTO P w D L) ∧ (∀ p ∈ L, H' p.1 = some (.tup (p.2.map V.int))) ∧ (∀ k, k ∈ L.map (·.2) ↔ ∃ j, j < i + 1 ∧ k = keys j) ∧ L.length ≤ i + 1 ∧ (L.length = i + 1 ↔ ((List.range (i + 1)).map keys).Nodup),
      fun H' z => ⟨N - (i + 1), by omega, rfl, lt, z.1, z.2⟩, fun y H2 hy => ?_⟩
    obtain ⟨rfl, rfl⟩ := It.yld i H1 y H2 lt k1 hy
    refine step i H2 lt k1 (fun y G4 => rPutT K P w y D G4 fun H' => Kx [] H H' ∧ ∃ L : List (Addr × List Int), H' D = some (SetTO P w D L) ∧ (∀ p ∈ L, H' p.1 = some (.tup (p.2.map V.int))) ∧ (∀ k, k ∈ L.map (·.2) ↔ ∃ j, j < i + 1 ∧ k = keys j) ∧ L.length ≤ i + 1 ∧ (L.length = i + 1 ↔ ((List.range (i + 1)).map keys).Nodup)) _
      (fun x H3 k3 ex => by
        have eD3 : H3 D = some (SetTO P w D L) := k3.at (by simp) eD fun _ z => by cases z
        have hL3 : ∀ p ∈ L, H3 p.1 = some (.tup (p.2.map V.int)) := fun p hp => k3.tup (by simp) (hL p hp)
        have nD : ∀ {b : Addr} {zs : List V}, H3 b = some (.tup zs) → b ≠ D := fun e z => by rw [z, eD3] at e; cases e
        have k13 : ∀ {o : HO}, Kx [] H (upd H3 D o) := fun {o} => (k1.trans k3).mut hD
        refine ⟨x, keys i, L, rfl, SqT.of ex, eD3, fun p hp => SqT.of (hL3 p hp), by omega, fun hm => ⟨k13, L, upd_same, fun p hp => by rw [upd_ne (nD (hL3 p hp))]; exact hL3 p hp, fun k => ?_, ?_⟩, fun hm L' perm => ⟨k13, L', upd_same, fun p hp => ?_, fun k => ?_, ?_⟩⟩
        · rw [mem k]
          constructor
          · rintro ⟨j, hj, e⟩
            exact ⟨j, by omega, e⟩
          · rintro ⟨j, hj, e⟩
            by_cases ej : j = i
            · subst ej
              rw [e]
              exact (mem _).mp hm
            · exact ⟨j, by omega, e⟩
        · exact count_next keys le cnt (fun _ => rfl) fun z => absurd ((mem _).mp hm) z
        · rcases List.mem_cons.mp (perm.mem_iff.mp hp) with e | e
          · rw [e, upd_ne (nD ex)]; exact ex
          · rw [upd_ne (nD (hL3 p e))]; exact hL3 p e
        · rw [(perm.map (·.2)).mem_iff, List.map_cons, List.mem_cons, mem k]
          constructor
          · rintro (e | ⟨j, hj, e⟩)
            · exact ⟨i, by omega, e⟩
            · exact ⟨j, by omega, e⟩
          · rintro ⟨j, hj, e⟩
            by_cases ej : j = i
            · subst ej
              exact .inl e
            · exact .inr ⟨j, by omega, e⟩
        · have el : L'.length = L.length + 1 := by rw [perm.length_eq]; rfl
          exact count_next keys le cnt (fun z => absurd ((mem _).mpr z) hm) fun _ => el)
  · have e : i = N := by omega
    subst e
    exact .inl ⟨It.stop H1 k1, q D L H1 k1 eD cnt⟩
theorem len_ints {w : World} {J : It} {N : Nat} {f : Nat → V} (It : ItAt J [] H N f) (keys : Nat → Int) (hN : N < 64)
    (step : ∀ i H', i < N → Kx [] H H' → ∀ (R : V → Hp → Prop) (R0 : Hp → Prop), (∀ H'', Kx [] H' H'' → R (.int (keys i)) H'') → g (f i) (wipe σ vs) H' fun σ2 H2 => wipe σ2 vs = wipe σ vs ∧ tYes σ2 H2 fun b H3 => if b = true then te σ2 H3 R else R0 H3)
    (q : ∀ D S n H', Kx [] H H' → H' D = some (SetO w D S n) → (n = N ↔ ((List.range N).map keys).Nodup) → Q (.ref D) H') :
    SetG (fun D => SetO w D (fun _ => false) 0) (rPutI w) J g tYes te vs σ H Q := by
  intro D hD
  refine ⟨fun i m H' => m = N - i ∧ i ≤ N ∧ Kx [] H H' ∧ ∃ (S : Int → Bool) (n : Nat), H' D = some (SetO w D S n) ∧ (∀ k, S k = true ↔ ∃ j, j < i ∧ k = keys j) ∧ n ≤ i ∧ (n = i ↔ ((List.range i).map keys).Nodup),
    ⟨N, by simp, Nat.zero_le _, Kx.new hD, fun _ => false, 0, upd_same, fun k => by simp, Nat.le_refl _, by simp⟩, ?_⟩
  rintro i m H1 ⟨rfl, hi, k1, S, n, eD, mem, le, cnt⟩
  by_cases lt : i < N
  · refine .inr ⟨It.go i H1 lt k1, fun H' => Kx [] H H' ∧ ∃ (S : Int → Bool) (n : Nat), H' D = some (SetO w D S n) ∧ (∀ k, S k = true ↔ ∃ j, j < i + 1 ∧ k = keys j) ∧ n ≤ i + 1 ∧ (n = i + 1 ↔ ((List.range (i + 1)).map keys).Nodup),
      fun H' z => ⟨N - (i + 1), by omega, rfl, lt, z.1, z.2⟩, fun y H2 hy => ?_⟩
    obtain ⟨rfl, rfl⟩ := It.yld i H1 y H2 lt k1 hy
    refine step i H2 lt k1 (fun y G4 => rPutI w y D G4 fun H' => Kx [] H H' ∧ ∃ (S : Int → Bool) (n : Nat), H' D = some (SetO w D S n) ∧ (∀ k, S k = true ↔ ∃ j, j < i + 1 ∧ k = keys j) ∧ n ≤ i + 1 ∧ (n = i + 1 ↔ ((List.range (i + 1)).map keys).Nodup)) _ fun H3 k3 => ?_
    have eD3 : H3 D = some (SetO w D S n) := k3.at (by simp) eD fun _ z => by cases z
    refine ⟨keys i, S, n, rfl, eD3, by unfold scanBound; omega, (k1.trans k3).mut hD, _, _, upd_same, fun k => ?_, ?_⟩
    · rw [Bool.or_eq_true, mem k, decide_eq_true_eq]
      constructor
      · rintro (⟨j, hj, e⟩ | e)
        · exact ⟨j, by omega, e⟩
        · exact ⟨i, by omega, e⟩
      · rintro ⟨j, hj, e⟩
        by_cases ej : j = i
        · subst ej
          exact .inr e
        · exact .inl ⟨j, by omega, e⟩
    · refine count_next keys le cnt (fun z => ?_) fun z => ?_
      · rw [if_pos ((mem _).mpr z)]
      · rw [if_neg fun y => z ((mem _).mp y)]
  · have e : i = N := by omega
    subst e
    exact .inl ⟨It.stop H1 k1, q D S n H1 k1 eD cnt⟩
end
end SetL

set_option Elab.async false
set_option linter.all false
set_option maxRecDepth 100000
set_option maxHeartbeats 2000000
/-! Purse: the list of which drawn numbers are taken; what is known beside it. -/
namespace Purse
open PySem PySem.Spec PyProof.Rows L2 GxR GX Tree Kit Comps
/-- the purse at p; its counter is at most n -/
def PurseAt (H : Hp) (p : Addr) (n : Nat) : Prop := ∃ a b c : Int, H p = some (.lst [.int a, .int b, .int c]) ∧ 0 ≤ a ∧ 0 ≤ b ∧ b < 2 ^ 150 ∧ 0 ≤ c ∧ c ≤ (n : Int)
/-- the addresses of C are taken, p is one of them and holds the purse; the tables Ts stand -/
structure At (Ts : List Addr) (C : List Addr) (p : Addr) (n : Nat) (H : Hp) : Prop where
  al : ∀ c ∈ C, H c ≠ none
  mem : p ∈ C
  pu : PurseAt H p n
  tb : Tb Ts H
theorem PurseAt.mono {H : Hp} {p : Addr} {n m : Nat} (h : PurseAt H p n) (l : n ≤ m) : PurseAt H p m := by
  obtain ⟨a, b, c, h1, h2, h3, h4, h5, h6⟩ := h
  exact ⟨a, b, c, h1, h2, h3, h4, h5, by omega⟩
theorem PurseAt.kx {H H' : Hp} {p : Addr} {n : Nat} (h : PurseAt H p n) (k : Kx [] H H') : PurseAt H' p n := by
  obtain ⟨a, b, c, h1, h2⟩ := h
  exact ⟨a, b, c, k.lst (by simp) h1, h2⟩
theorem PurseAt.ne {H : Hp} {p : Addr} {n : Nat} (h : PurseAt H p n) : H p ≠ none := by
  obtain ⟨a, b, c, h1, _⟩ := h
  rw [h1]; simp
section
variable {Ts C : List Addr} {p : Addr} {n m : Nat} {H H' : Hp}
theorem _root_.Tree.Kx.ne (k : Kx [] H H') {b : Addr} (h : H b ≠ none) : H' b ≠ none := fun z => h (k.free (by simp) z)
theorem At.mono (h : At Ts C p n H) (l : n ≤ m) : At Ts C p m H := ⟨h.al, h.mem, h.pu.mono l, h.tb⟩
theorem At.kx (h : At Ts C p n H) (k : Kx [] H H') : At Ts C p n H' := ⟨fun c hc => Kx.ne k (h.al c hc), h.mem, h.pu.kx k, h.tb.kx k⟩
/-- more addresses that are taken -/
theorem At.cons (h : At Ts C p n H) {D : Addr} (hD : H D ≠ none) : At Ts (D :: C) p n H := ⟨fun c hc => (List.mem_cons.mp hc).elim (fun e => e ▸ hD) (h.al c), List.mem_cons_of_mem _ h.mem, h.pu, h.tb⟩
theorem At.less {D : List Addr} (h : At Ts D p n H) (hs : ∀ c ∈ C, c ∈ D) (m : p ∈ C) : At Ts C p n H := ⟨fun c hc => h.al c (hs c hc), m, h.pu, h.tb⟩
theorem At.new (h : At Ts C p n H) {D : Addr} {o : HO} (hD : H D = none) : At Ts C p n (upd H D o) := h.kx (Kx.new hD)
/-- the purse alone has changed -/
theorem At.put (h : At Ts C p n H) (k : Kx [p] H H') (pu : PurseAt H' p m) (hT : ∀ P ∈ Ts, P ≠ p) : At Ts C p m H' :=
  ⟨fun c hc => by
    by_cases e : c = p
    · rw [e]; exact pu.ne
    · exact fun z => h.al c hc (k.free (by simpa using e) z), h.mem, pu, h.tb.kx k fun P hP => by simpa using hT P hP⟩
theorem At.tne (h : At Ts C p n H) : ∀ P ∈ Ts, P ≠ p := fun P hP e => by
  obtain ⟨ps, e1, _⟩ := h.tb P hP
  obtain ⟨a, b, c, h1, _⟩ := h.pu
  rw [e, h1] at e1
  cases e1
/-- a tree stays where the purse alone has changed -/
theorem At.tr (h : At Ts C p n H) {v : V} {d : PyData} (t : Tr C H v d) (k : Kx [p] H H') : Tr C H' v d := Tr.kx k (fun b hb => by rw [List.mem_singleton.mp hb]; exact h.mem) d v t
theorem At.trs (h : At Ts C p n H) {vs : List V} {ds : List PyData} (t : TrAll C H vs ds) (k : Kx [p] H H') : TrAll C H' vs ds := TrAll.kx k (fun b hb => by rw [List.mem_singleton.mp hb]; exact h.mem) ds vs t
theorem At.not (h : At Ts C p n H) {D : Addr} (hD : H D = none) : D ∉ C := fun z => h.al D z hD
/-- a new list, tuple -/
theorem new_lst (al : ∀ c ∈ C, H c ≠ none) {xs : List V} {ds : List PyData} (t : TrAll C H xs ds) {Q : VK} (q : ∀ D H', Kx [] H H' → H D = none → H' D = some (.lst xs) → Tr C H' (.ref D) (.list ds) → Q (.ref D) H') : ∀ D, H D = none → Q (.ref D) (upd H D (.lst xs)) := fun D hD =>
  q D _ (Kx.new hD) hD upd_same (.lst (fun z => al D z hD) upd_same (t.up (Kx.new hD)))
theorem new_tup (al : ∀ c ∈ C, H c ≠ none) {xs : List V} {ds : List PyData} (t : TrAll C H xs ds) {Q : VK} (q : ∀ D H', Kx [] H H' → H D = none → H' D = some (.tup xs) → Tr C H' (.ref D) (.tuple ds) → Q (.ref D) H') : ∀ D, H D = none → Q (.ref D) (upd H D (.tup xs)) := fun D hD =>
  q D _ (Kx.new hD) hD upd_same (.tup (fun z => al D z hD) upd_same (t.up (Kx.new hD)))
theorem new_dic (al : ∀ c ∈ C, H c ≠ none) {Q : VK} (q : ∀ D H', Kx [] H H' → Tr C H' (.ref D) (.dict []) → Q (.ref D) H') : ∀ D, H D = none → Q (.ref D) (upd H D (.dK [])) := fun D hD =>
  q D _ (Kx.new hD) (.dic (fun z => al D z hD) upd_same)
/-! ### coins -/
def sp_coin (Ts : List Addr) : Sp := fun vs H Q _ => ∃ p n many C, vs = [.ref p, .int many] ∧ 0 < many ∧ many ≤ 1000000 ∧ n ≤ 1000000000000 ∧ At Ts C p n H ∧ ∀ r H', 0 ≤ r → r < many → Kx [p] H H' → At Ts C p (n + 1) H' → Q (.int r) H'
theorem use_coin {many : Int} {Q : VK} {E : XK} (h : At Ts C p n H) (h0 : 0 < many) (h1 : many ≤ 1000000) (hn : n ≤ 1000000000000) (q : ∀ r H', 0 ≤ r → r < many → Kx [p] H H' → At Ts C p (n + 1) H' → Q (.int r) H') : sp_coin Ts [.ref p, .int many] H Q E :=
  ⟨p, n, many, C, rfl, h0, h1, hn, h, q⟩
theorem len_ok {xs : List V} (h : Nat.ble xs.length 1000 = true := by rfl) : xs.length ≤ sizeLine := by
  have := Nat.le_of_ble_eq_true h
  unfold sizeLine
  omega
theorem wide_of {i : Int} {b : Nat} (h0 : 0 ≤ i) (h : i < ((2 ^ b : Nat) : Int)) : i.natAbs < 2 ^ b := by omega
end
section
variable {Ts C : List Addr} {p : Addr} {n : Nat} {H : Hp} {g : TG} {tt : TT} {te : TE} {vs : List Nat} {σ : L2.St} {Q : VK}
/-- a comprehension whose turns draw k coins at most -/
theorem lc_pu {J : It} {N : Nat} {f : Nat → V} (It : ItAt J [p] H N f) (hN : N ≤ 1000) (k : Nat) (G : PyData → Prop) (ex : Bool) (hA : At Ts C p n H)
    (step : ∀ D i H', H D = none → i < N → Kx [p] H H' → At Ts (D :: C) p (n + i * k) H' → ∀ (R : V → Hp → Prop) (R0 : Hp → Prop),
      (∀ y d H'', Kx [p] H' H'' → At Ts (D :: C) p (n + (i + 1) * k) H'' → Tr (D :: C) H'' y d → G d → R y H'') →
      (ex = false → ∀ H'', Kx [p] H' H'' → At Ts (D :: C) p (n + (i + 1) * k) H'' → R0 H'') →
      g (f i) (wipe σ vs) H' fun σ2 H2 => wipe σ2 vs = wipe σ vs ∧ tt σ2 H2 fun b H3 => if b = true then te σ2 H3 R else R0 H3)
    (q : ∀ D ds H', Kx [p] H H' → At Ts C p (n + N * k) H' → Tr C H' (.ref D) (.list ds) → ds.length ≤ N → (ex = true → ds.length = N) → (∀ d ∈ ds, G d) → Q (.ref D) H') : CompG J g tt te vs σ H Q := by
  refine lc_tr (B := [p]) (C := C) It (by unfold sizeLine; omega) (Iv := fun i H' => At Ts C p (n + i * k) H') G ex (fun b hb => by rw [List.mem_singleton.mp hb]; exact hA.mem) hA.al (fun i H' D o hD a => ?_) (fun i H' a b hb => by rw [List.mem_singleton.mp hb]; exact a.pu.ne) (by simpa using hA) (fun D i H' hD hal hi kk a R R0 hR hR0 => ?_) q
  · have nD : D ∉ C := hA.not hD
    have np : p ≠ D := fun e => nD (by rw [← e]; exact hA.mem)
    refine ⟨fun c hc => ?_, a.mem, ?_, ?_⟩
    · have nc : c ≠ D := fun e => nD (by rw [← e]; exact hc)
      rw [upd_ne nc]; exact a.al c hc
    · obtain ⟨x, y, z, h1, h2⟩ := a.pu
      exact ⟨x, y, z, by rw [upd_ne np]; exact h1, h2⟩
    · intro P hP
      obtain ⟨ps, e1, e2⟩ := a.tb P hP
      obtain ⟨ps0, e0, _⟩ := hA.tb P hP
      have nP : P ≠ D := fun e => by rw [e, hD] at e0; cases e0
      exact ⟨ps, by rw [upd_ne nP]; exact e1, e2⟩
  · exact step D i H' hD hi kk ⟨hal, List.mem_cons_of_mem _ a.mem, a.pu, a.tb⟩ R R0 (fun y d H'' k2 a2 ty gd => hR y d H'' k2 (a2.less (fun c hc => List.mem_cons_of_mem _ hc) hA.mem) ty gd) (fun e H'' k2 a2 => hR0 e H'' k2 (a2.less (fun c hc => List.mem_cons_of_mem _ hc) hA.mem))
end
section
variable {Ts C : List Addr} {p : Addr} {n : Nat} {H : Hp} {g : TG} {tt : TT} {te : TE} {vs : List Nat} {σ : L2.St} {Q : VK}
/-- the same; each item with its turn -/
theorem lc_puX {J : It} {N : Nat} {f : Nat → V} (It : ItAt J [p] H N f) (hN : N ≤ 1000) (k : Nat) (G : Nat → PyData → Prop) (hA : At Ts C p n H)
    (step : ∀ D i H', H D = none → i < N → Kx [p] H H' → At Ts (D :: C) p (n + i * k) H' → ∀ (R : V → Hp → Prop) (R0 : Hp → Prop),
      (∀ y d H'', Kx [p] H' H'' → At Ts (D :: C) p (n + (i + 1) * k) H'' → Tr (D :: C) H'' y d → G i d → R y H'') →
      (∀ H'', Kx [p] H' H'' → At Ts (D :: C) p (n + (i + 1) * k) H'' → R0 H'') →
      g (f i) (wipe σ vs) H' fun σ2 H2 => wipe σ2 vs = wipe σ vs ∧ tt σ2 H2 fun b H3 => if b = true then te σ2 H3 R else R0 H3)
    (q : ∀ D js ds H', Kx [p] H H' → At Ts C p (n + N * k) H' → Tr C H' (.ref D) (.list ds) → Made G js ds → (∀ j ∈ js, j < N) → Q (.ref D) H') : CompG J g tt te vs σ H Q := by
  refine lc_ix (B := [p]) (C := C) It (by unfold sizeLine; omega) (Iv := fun i H' => At Ts C p (n + i * k) H') G (fun b hb => by rw [List.mem_singleton.mp hb]; exact hA.mem) hA.al (fun i H' D o hD a => ?_) (fun i H' a b hb => by rw [List.mem_singleton.mp hb]; exact a.pu.ne) (by simpa using hA) (fun D i H' hD hal hi kk a R R0 hR hR0 => ?_) q
  · have nD : D ∉ C := hA.not hD
    have np : p ≠ D := fun e => nD (by rw [← e]; exact hA.mem)
    refine ⟨fun c hc => ?_, a.mem, ?_, ?_⟩
    · have nc : c ≠ D := fun e => nD (by rw [← e]; exact hc)
      rw [upd_ne nc]; exact a.al c hc
    · obtain ⟨x, y, z, h1, h2⟩ := a.pu
      exact ⟨x, y, z, by rw [upd_ne np]; exact h1, h2⟩
    · intro P hP
      obtain ⟨ps, e1, e2⟩ := a.tb P hP
      obtain ⟨ps0, e0, _⟩ := hA.tb P hP
      have nP : P ≠ D := fun e => by rw [e, hD] at e0; cases e0
      exact ⟨ps, by rw [upd_ne nP]; exact e1, e2⟩
  · exact step D i H' hD hi kk ⟨hal, List.mem_cons_of_mem _ a.mem, a.pu, a.tb⟩ R R0 (fun y d H'' k2 a2 ty gd => hR y d H'' k2 (a2.less (fun c hc => List.mem_cons_of_mem _ hc) hA.mem) ty gd) (fun H'' k2 a2 => hR0 H'' k2 (a2.less (fun c hc => List.mem_cons_of_mem _ hc) hA.mem))
end
/-! ### new objects, picks -/
section
variable {C : List Addr} {H : Hp}
theorem mk_lst (al : ∀ c ∈ C, H c ≠ none) {xs : List V} {ds : List PyData} (t : TrAll C H xs ds) {D : Addr} (hD : H D = none) : Kx [] H (upd H D (.lst xs)) ∧ upd H D (.lst xs) D = some (.lst xs) ∧ Tr C (upd H D (.lst xs)) (.ref D) (.list ds) :=
  ⟨Kx.new hD, upd_same, .lst (fun z => al D z hD) upd_same (t.up (Kx.new hD))⟩
theorem mk_tup (al : ∀ c ∈ C, H c ≠ none) {xs : List V} {ds : List PyData} (t : TrAll C H xs ds) {D : Addr} (hD : H D = none) : Kx [] H (upd H D (.tup xs)) ∧ upd H D (.tup xs) D = some (.tup xs) ∧ Tr C (upd H D (.tup xs)) (.ref D) (.tuple ds) :=
  ⟨Kx.new hD, upd_same, .tup (fun z => al D z hD) upd_same (t.up (Kx.new hD))⟩
theorem mk_dic (al : ∀ c ∈ C, H c ≠ none) {D : Addr} (hD : H D = none) : Kx [] H (upd H D (.dK [])) ∧ upd H D (.dK []) D = some (.dK []) ∧ Tr C (upd H D (.dK [])) (.ref D) (.dict []) :=
  ⟨Kx.new hD, upd_same, .dic (fun z => al D z hD) upd_same⟩
theorem pick {xs : List V} {ds : List PyData} (t : TrAll C H xs ds) {r : Int} (h0 : 0 ≤ r) (h1 : r < (xs.length : Int)) : ∃ v d, atI xs r = some v ∧ Tr C H v d ∧ d ∈ ds := by
  have hl := t.length
  have e : xs[r.toNat]? = some xs[r.toNat] := List.getElem?_eq_getElem (by omega)
  obtain ⟨d, e1, e2⟩ := t.get e
  refine ⟨_, d, ?_, e2, List.mem_of_getElem? e1⟩
  have := atI_nat e
  rwa [show ((r.toNat : Nat) : Int) = r by omega] at this
end
section
variable {Ts C : List Addr} {p : Addr} {n : Nat} {H H' : Hp}
theorem _root_.Tree.Tr.out {B : List Addr} {a : Addr} {d : PyData} (t : Tr B H (.ref a) d) : a ∉ B := by
  cases t with
  | lst n _ _ => exact n
  | tup n _ _ => exact n
  | dic n _ => exact n
theorem At.nepT (h : At Ts C p n H) {a : Addr} {d : PyData} {H' : Hp} (t : Tr C H' (.ref a) d) : a ∉ [p] := fun e => Tree.Tr.out t (by rw [List.mem_singleton.mp e]; exact h.mem)
theorem At.nep (h : At Ts C p n H) {D : Addr} (hD : H D = none) : D ∉ [p] := fun e => h.not hD (by rw [List.mem_singleton.mp e]; exact h.mem)
/-- a list that is not the purse is written -/
theorem At.set (h : At Ts C p n H) {D : Addr} {xs : List V} {o : HO} (hD : H D = some (.lst xs)) (np : D ≠ p) : At Ts C p n (upd H D o) := by
  refine ⟨fun c hc => ?_, h.mem, ?_, fun P hP => ?_⟩
  · by_cases e : c = D
    · rw [e, upd_same]; simp
    · rw [upd_ne e]; exact h.al c hc
  · obtain ⟨x, y, z, h1, h2⟩ := h.pu
    exact ⟨x, y, z, by rw [upd_ne (Ne.symm np)]; exact h1, h2⟩
  · obtain ⟨ps, e1, e2⟩ := h.tb P hP
    have nP : P ≠ D := fun e => by rw [e, hD] at e1; cases e1
    exact ⟨ps, by rw [upd_ne nP]; exact e1, e2⟩
theorem _root_.Tree.Kx.weak {B D : List Addr} (k : Kx D H H') (h : ∀ b ∈ D, b ∈ B ∨ H b = none) : Kx B H H' := fun b o n e => k b o (fun z => (h b z).elim n fun y => by rw [y] at e; cases e) e
theorem _root_.Tree.Tr.items {B : List Addr} {a : Addr} {ds : List PyData} (t : Tr B H (.ref a) (.list ds)) : ∃ xs, H a = some (.lst xs) ∧ TrAll B H xs ds := by
  cases t with
  | lst _ h l => exact ⟨_, h, l⟩
theorem _root_.Tree.Tr.itemsT {B : List Addr} {a : Addr} {ds : List PyData} (t : Tr B H (.ref a) (.tuple ds)) : ∃ xs, H a = some (.tup xs) ∧ TrAll B H xs ds := by
  cases t with
  | tup _ h l => exact ⟨_, h, l⟩
/-- the tree of a list is at an address -/
theorem _root_.Tree.Tr.listV {B : List Addr} {v : V} {ds : List PyData} (t : Tr B H v (.list ds)) : ∃ a xs, v = .ref a ∧ H a = some (.lst xs) ∧ TrAll B H xs ds := by
  cases t with
  | lst _ h l => exact ⟨_, _, rfl, h, l⟩
theorem _root_.Tree.Tr.tupV {B : List Addr} {v : V} {ds : List PyData} (t : Tr B H v (.tuple ds)) : ∃ a xs, v = .ref a ∧ H a = some (.tup xs) ∧ TrAll B H xs ds := by
  cases t with
  | tup _ h l => exact ⟨_, _, rfl, h, l⟩
theorem _root_.Tree.Tr.intV {B : List Addr} {v : V} {i : Int} (t : Tr B H v (.int i)) : v = .int i := by
  cases t; rfl
end
section
variable {H : Hp}
theorem new_at {o : HO} {D : Addr} {H' : Hp} (hD : H D = none) (e : upd H D o = H') : Kx [] H H' ∧ H' D = some o := by
  subst e
  exact ⟨Kx.new hD, upd_same⟩
theorem mk_ints (ns : List Int) {D : Addr} (hD : H D = none) : Kx [] H (upd H D (.lst (ns.map V.int))) ∧ upd H D (.lst (ns.map V.int)) D = some (.lst (ns.map V.int)) := ⟨Kx.new hD, upd_same⟩
theorem pickI {ns : List Int} {r : Int} (h0 : 0 ≤ r) (h1 : r < (ns.length : Int)) : ∃ i, atI (ns.map V.int) r = some (.int i) ∧ i ∈ ns := by
  have e : ns[r.toNat]? = some ns[r.toNat] := List.getElem?_eq_getElem (by omega)
  refine ⟨_, ?_, List.mem_of_getElem? e⟩
  have := atI_nat (xs := ns.map V.int) (j := r.toNat) (v := .int ns[r.toNat]) (by rw [List.getElem?_map, e]; rfl)
  rwa [show ((r.toNat : Nat) : Int) = r by omega] at this
end
end Purse

set_option Elab.async false
set_option linter.all false
set_option maxRecDepth 100000
set_option maxHeartbeats 2000000
/-! Small: trees with bounds: list lengths, ints, texts, parts, depth. -/
namespace Small
open PySem PySem.Spec PyProof.Rows L2 GxR Tree Kit Data
mutual
def Bd (L M : Nat) : PyData → Prop
  | .none => True
  | .bool _ => True
  | .int i => i.natAbs ≤ M
  | .str x => (reprText x).length ≤ 140
  | .list xs => xs.length ≤ L ∧ BdAll L M xs
  | .tuple xs => xs.length ≤ L ∧ BdAll L M xs
  | .dict kvs => kvs = []
def BdAll (L M : Nat) : List PyData → Prop
  | [] => True
  | x :: xs => Bd L M x ∧ BdAll L M xs
end
theorem bdAll_iff {L M : Nat} : ∀ {xs : List PyData}, BdAll L M xs ↔ ∀ d ∈ xs, Bd L M d
  | [] => ⟨fun _ d h => (nomatch h), fun _ => trivial⟩
  | x :: xs => by
    simp only [BdAll, List.mem_cons, forall_eq_or_imp, bdAll_iff (xs := xs)]
theorem depthAll_le {D : Nat} : ∀ {xs : List PyData}, PyData.depthAll xs ≤ D ↔ ∀ d ∈ xs, d.depth ≤ D
  | [] => ⟨fun _ d h => (nomatch h), fun _ => Nat.zero_le _⟩
  | x :: xs => by
    simp only [PyData.depthAll, List.mem_cons, forall_eq_or_imp, Nat.max_le, depthAll_le (xs := xs)]
theorem szAll_le {S : Nat} : ∀ {xs : List PyData}, (∀ d ∈ xs, sz d ≤ S) → szAll xs ≤ xs.length * S
  | [], _ => by simp [szAll]
  | x :: xs, h => by
    have h1 := h x (by simp)
    have h2 := szAll_le (xs := xs) (S := S) fun d hd => h d (by simp [hd])
    simp only [szAll, List.length_cons, Nat.succ_mul]
    omega
structure Sm (L M S D : Nat) (d : PyData) : Prop where
  bd : Bd L M d
  sz : sz d ≤ S
  dp : d.depth ≤ D
section
variable {L M S D : Nat}
theorem Sm.mono {L' M' S' D' : Nat} {d : PyData} (h : Sm L M S D d) (hL : L ≤ L') (hM : M ≤ M') (hS : S ≤ S') (hD : D ≤ D') : Sm L' M' S' D' d := by
  refine ⟨?_, Nat.le_trans h.sz hS, Nat.le_trans h.dp hD⟩
  have key : ∀ k (d : PyData), Data.sz d ≤ k → Bd L M d → Bd L' M' d := by
    intro k
    induction k with
    | zero => intro d hk _; have := sz_pos d; omega
    | succ k ih =>
      intro d hk hb
      cases d with
      | list xs =>
        simp only [Bd, Data.sz, bdAll_iff] at hb hk ⊢
        exact ⟨by omega, fun d hd => ih d (by have := szAll_mem hd; omega) (hb.2 d hd)⟩
      | tuple xs =>
        simp only [Bd, Data.sz, bdAll_iff] at hb hk ⊢
        exact ⟨by omega, fun d hd => ih d (by have := szAll_mem hd; omega) (hb.2 d hd)⟩
      | int i => simp only [Bd] at hb ⊢; omega
      | _ => exact hb
  exact key _ d (Nat.le_refl _) h.bd
theorem Sm.int {i : Int} (h : i.natAbs ≤ M) : Sm L M 1 0 (.int i) := ⟨h, Nat.le_refl _, Nat.le_refl _⟩
theorem Sm.none : Sm L M 1 0 .none := ⟨trivial, Nat.le_refl _, Nat.le_refl _⟩
theorem Sm.bool (b : Bool) : Sm L M 1 0 (.bool b) := ⟨trivial, Nat.le_refl _, Nat.le_refl _⟩
theorem Sm.str {x : Str} (h : (reprText x).length ≤ 140) : Sm L M 1 0 (.str x) := ⟨h, Nat.le_refl _, Nat.le_refl _⟩
theorem Sm.dict : Sm L M 1 1 (.dict []) := ⟨rfl, Nat.le_refl _, Nat.le_refl _⟩
theorem Sm.list {N : Nat} {ds : List PyData} (h : ∀ d ∈ ds, Sm L M S D d) (hN : ds.length ≤ N) (hL : N ≤ L) : Sm L M (N * S + 1) (D + 1) (.list ds) := by
  refine ⟨⟨by omega, bdAll_iff.mpr fun d hd => (h d hd).bd⟩, ?_, ?_⟩
  · have := szAll_le (S := S) fun d hd => (h d hd).sz
    simp only [Data.sz]
    have := Nat.mul_le_mul_right S hN
    omega
  · simp only [PyData.depth]
    have := depthAll_le.mpr fun d hd => (h d hd).dp
    omega
theorem Sm.tuple {N : Nat} {ds : List PyData} (h : ∀ d ∈ ds, Sm L M S D d) (hN : ds.length ≤ N) (hL : N ≤ L) : Sm L M (N * S + 1) (D + 1) (.tuple ds) := by
  refine ⟨⟨by omega, bdAll_iff.mpr fun d hd => (h d hd).bd⟩, ?_, ?_⟩
  · have := szAll_le (S := S) fun d hd => (h d hd).sz
    simp only [Data.sz]
    have := Nat.mul_le_mul_right S hN
    omega
  · simp only [PyData.depth]
    have := depthAll_le.mpr fun d hd => (h d hd).dp
    omega
/-- the items of a list: their own bounds -/
theorem Sm.items {ds : List PyData} (h : Sm L M S D (.list ds)) : ds.length ≤ L ∧ szAll ds + 1 ≤ S ∧ ∀ d ∈ ds, Bd L M d ∧ d.depth + 1 ≤ D := by
  have h1 := h.bd
  have h2 := h.sz
  have h3 := h.dp
  simp only [Bd, bdAll_iff, Data.sz, PyData.depth] at h1 h2 h3
  have h4 : PyData.depthAll ds ≤ D - 1 := by omega
  exact ⟨h1.1, h2, fun d hd => ⟨h1.2 d hd, by have := depthAll_le.mp h4 d hd; omega⟩⟩
theorem Sm.itemsT {ds : List PyData} (h : Sm L M S D (.tuple ds)) : ds.length ≤ L ∧ szAll ds + 1 ≤ S ∧ ∀ d ∈ ds, Bd L M d ∧ d.depth + 1 ≤ D := by
  have h1 := h.bd
  have h2 := h.sz
  have h3 := h.dp
  simp only [Bd, bdAll_iff, Data.sz, PyData.depth] at h1 h2 h3
  have h4 : PyData.depthAll ds ≤ D - 1 := by omega
  exact ⟨h1.1, h2, fun d hd => ⟨h1.2 d hd, by have := depthAll_le.mp h4 d hd; omega⟩⟩
/-- made of parts: the sum of their sizes -/
theorem Sm.mkList {ds : List PyData} (hl : ds.length ≤ L) (hs : szAll ds + 1 ≤ S) (h : ∀ d ∈ ds, Bd L M d ∧ d.depth + 1 ≤ D) (hD : 1 ≤ D) : Sm L M S D (.list ds) := by
  refine ⟨⟨hl, bdAll_iff.mpr fun d hd => (h d hd).1⟩, hs, ?_⟩
  simp only [PyData.depth]
  have := depthAll_le (D := D - 1) |>.mpr fun d hd => by have := (h d hd).2; omega
  omega
theorem Sm.mkTuple {ds : List PyData} (hl : ds.length ≤ L) (hs : szAll ds + 1 ≤ S) (h : ∀ d ∈ ds, Bd L M d ∧ d.depth + 1 ≤ D) (hD : 1 ≤ D) : Sm L M S D (.tuple ds) := by
  refine ⟨⟨hl, bdAll_iff.mpr fun d hd => (h d hd).1⟩, hs, ?_⟩
  simp only [PyData.depth]
  have := depthAll_le (D := D - 1) |>.mpr fun d hd => by have := (h d hd).2; omega
  omega
end
end Small

set_option Elab.async false
set_option linter.all false
set_option maxRecDepth 100000
set_option maxHeartbeats 2000000
/-! Ib: truths among ints (+, -), str of either; how long a text of a number is when shown. -/
namespace Ib
open PySem PySem.Spec PyProof.Rows L2 GxR Tree Kit Data Small
def asI : V → Option Int
  | .int i => some i
  | .bl b => some (if b = true then 1 else 0)
  | _ => none
def rAddB : R2 := fun x y H Q => ∃ i j, asI x = some i ∧ y = .int j ∧ Q (.int (i + j)) H
def rSubB : R2 := fun x y H Q => ∃ i j, asI x = some i ∧ y = .int j ∧ Q (.int (i - j)) H
def rSubIB : R2 := fun x y H Q => ∃ i j, x = .int i ∧ asI y = some j ∧ Q (.int (i - j)) H
section
variable {X : Cx}
theorem op_addB : OpR X (binaryOp .Add) rAddB := by
  intro pins s σ H x y v u Q I rx ry h
  obtain ⟨i, j, ex, rfl, q⟩ := h
  obtain ⟨t', rfl⟩ := ry
  cases x with
  | int a =>
    have e : a = i := Option.some.inj ex
    subst e
    obtain ⟨t, rfl⟩ := rx
    exact add_int ⟨.int (a + j), H, I.tok _, ⟨_, rfl⟩, q⟩
  | bl b =>
    cases ex
    cases rx
    exact IntBool.add_bool_int ⟨.int ((if b = true then 1 else 0) + j), H, I.tok _, ⟨_, rfl⟩, q⟩
  | _ => cases ex
theorem op_subB : OpR X (binaryOp .Sub) rSubB := by
  intro pins s σ H x y v u Q I rx ry h
  obtain ⟨i, j, ex, rfl, q⟩ := h
  obtain ⟨t', rfl⟩ := ry
  cases x with
  | int a =>
    have e : a = i := Option.some.inj ex
    subst e
    obtain ⟨t, rfl⟩ := rx
    exact sub_int ⟨.int (a - j), H, I.tok _, ⟨_, rfl⟩, q⟩
  | bl b =>
    cases ex
    cases rx
    exact IntBool.sub_bool_int ⟨.int ((if b = true then 1 else 0) - j), H, I.tok _, ⟨_, rfl⟩, q⟩
  | _ => cases ex
theorem op_subIB : OpR X (binaryOp .Sub) rSubIB := by
  intro pins s σ H x y v u Q I rx ry h
  obtain ⟨i, j, rfl, ey, q⟩ := h
  obtain ⟨t, rfl⟩ := rx
  cases y with
  | int a =>
    have e : a = j := Option.some.inj ey
    subst e
    obtain ⟨t', rfl⟩ := ry
    exact sub_int ⟨.int (i - a), H, I.tok _, ⟨_, rfl⟩, q⟩
  | bl b =>
    cases ey
    cases ry
    exact IntBool.sub_int_bool ⟨.int (i - (if b = true then 1 else 0)), H, I.tok _, ⟨_, rfl⟩, q⟩
  | _ => cases ey
def strB : V → Option Str
  | .int i => if i.natAbs.log2 < 1920 then some (toString i) else none
  | .bl b => some (if b = true then "True" else "False")
  | _ => none
def rStrB : List V → Hp → VK → Prop := fun xs H Q => ∃ x t, xs = [x] ∧ strB x = some t ∧ Q (.str t) H
theorem call_strB : CallR X (.type "str") rStrB := by
  intro pins s σ H xs us Q I r h
  obtain ⟨x, t, rfl, e, q⟩ := h
  cases x with
  | int i =>
    obtain ⟨u, rfl, t', rfl⟩ := vals1 r
    simp only [strB] at e
    split at e
    · cases e
      exact PySem.P.str_of_int (by assumption) ⟨.str _, H, I.tok _, ⟨_, rfl⟩, q⟩
    · cases e
  | bl b =>
    obtain ⟨u, rfl, ru⟩ := vals1 r
    cases ru
    cases e
    exact PySem.P.str_of_bool ⟨.str _, H, I.tok _, ⟨_, rfl⟩, q⟩
  | _ => cases e
end
/-! ### how long -/
theorem reprChar_len {q c : Nat} (h : c < 16 ^ 8) : (Builtin.Str.reprChar q c).length ≤ 10 := by
  have hd : (Nat.toDigits 16 c).length ≤ 8 := (Nat.length_toDigits_le_iff (by decide) (by decide)).mpr h
  unfold Builtin.Str.reprChar
  simp only []
  repeat (first | split | (simp only [List.length_append, List.length_replicate, List.length_map, List.length_cons, List.length_nil]; omega))
theorem reprText_len {x : Str} (h : ∀ c ∈ x.cps.toList, c < 16 ^ 8) : (reprText x).length ≤ 10 * x.length + 2 := by
  rw [← reprLen_eq, ← Array.foldl_toList]
  have key : ∀ (l : List Nat) (n : Nat), (∀ c ∈ l, c < 16 ^ 8) → l.foldl (fun n c => n + (Builtin.Str.reprChar (reprQuote x) c).length) n ≤ 10 * l.length + n := by
    intro l
    induction l with
    | nil => intro n _; simp
    | cons c r ih =>
      intro n hl
      have h1 := reprChar_len (q := reprQuote x) (hl c (by simp))
      have h2 := ih (n + (Builtin.Str.reprChar (reprQuote x) c).length) fun c hc => hl c (by simp [hc])
      simp only [List.foldl_cons, List.length_cons]
      omega
  have := key x.cps.toList 2 h
  have e : x.cps.toList.length = x.length := by rw [Array.length_toList]; rfl
  omega
theorem reprText_of (t : String) : (reprText (Str.ofString t)).length ≤ 10 * t.length + 2 := by
  have e : (Str.ofString t).length = t.length := PySem.ofString_length t
  rw [← e]
  refine reprText_len fun c hc => ?_
  have : ∃ ch ∈ t.toList, c = ch.toNat := by
    rw [Str.ofString_eq_toList] at hc
    simp only [List.mem_map] at hc
    obtain ⟨ch, h1, h2⟩ := hc
    exact ⟨ch, h1, h2.symm⟩
  obtain ⟨ch, _, rfl⟩ := this
  have := ch.valid
  have h3 : ch.toNat < 1114112 := by
    rcases this with h | h
    · exact Nat.lt_trans h (by decide)
    · exact h.2
  omega
theorem repr_int {i : Int} (h : i.natAbs ≤ 100000000000) : (reprText (Str.ofString (toString i))).length ≤ 140 := by
  have h1 := reprText_of (toString i)
  have h2 := int_text_length_le10 (a := i) (k := 12) (by decide) (by omega)
  omega
/-! ### slices -/
theorem cut_hi (xs : List V) (k : Nat) : cutV xs none (some (k : Int)) = xs.take k := by
  unfold cutV
  rw [HT.sIx_none, HT.sIx_nat, List.drop_zero, Nat.sub_zero]
  exact (List.take_eq_take_min).symm
theorem cut_lo (xs : List V) (k : Nat) : cutV xs (some (k : Int)) none = xs.drop k := by
  unfold cutV
  rw [HT.sIx_none, HT.sIx_nat]
  by_cases h : k ≤ xs.length
  · rw [Nat.min_eq_left h]
    exact List.take_of_length_le (by rw [List.length_drop]; omega)
  · rw [Nat.min_eq_right (by omega), List.drop_of_length_le (Nat.le_refl _), List.drop_of_length_le (by omega), List.take_nil]
theorem cut_hi1 (xs : List V) (k : Nat) : cutV xs none (some ((k : Int) + 1)) = xs.take (k + 1) := cut_hi xs (k + 1)
theorem cut_lo1 (xs : List V) (k : Nat) : cutV xs (some ((k : Int) + 1)) none = xs.drop (k + 1) := cut_lo xs (k + 1)
theorem szAll_take (ds : List PyData) (k : Nat) : szAll (ds.take k) + szAll (ds.drop k) = szAll ds := by
  rw [← szAll_append, List.take_append_drop]
theorem szAll_reverse : ∀ ds : List PyData, szAll ds.reverse = szAll ds
  | [] => rfl
  | d :: ds => by
    rw [List.reverse_cons, szAll_append, szAll_reverse ds]
    simp only [szAll]
    omega
/-! ### lists of ints compared -/
theorem dp_ints {K : PySem.W.Frag} {H : Hp} {a : Addr} {ns : List Int} (h : H a = some (.lst (ns.map V.int))) : Dp K H (.ref a) (.list (ns.map .int)) := by
  refine .lst (SqL.of h) ?_
  clear h
  induction ns with
  | nil => exact .nil
  | cons n r ih => exact .cons (.int n) ih
theorem canLay_ints (ns : List Int) : PyData.canLay0 (.list (ns.map .int)) = true := by
  show PyData.canLayAll0 _ = true
  induction ns with
  | nil => rfl
  | cons n r ih =>
    show (PyData.canLay0 (.int n) && PyData.canLayAll0 (r.map .int)) = true
    rw [ih]; rfl
theorem shaped_ints (ns : List Int) : SeqAt.shaped (.list (ns.map .int)) = true := by
  unfold SeqAt.shaped
  rw [canLay_ints ns, Bool.true_and]
  refine decide_eq_true ?_
  show PyData.depthAll _ + 1 ≤ 64
  have : PyData.depthAll (ns.map .int) = 0 := by
    induction ns with
    | nil => rfl
    | cons n r ih =>
      show max (PyData.depth (.int n)) (PyData.depthAll (r.map .int)) = 0
      rw [ih]; rfl
  omega
theorem eqv_ints : ∀ ns ms : List Int, PyData.eqv (.list (ns.map .int)) (.list (ms.map .int)) = decide (ns = ms)
  | [], [] => by decide
  | [], m :: ms => by
    show false = _
    exact (decide_eq_false (by simp)).symm
  | n :: ns, [] => by
    show false = _
    exact (decide_eq_false (by simp)).symm
  | n :: ns, m :: ms => by
    have ih := eqv_ints ns ms
    show ((n == m) && PyData.eqvAll (ns.map .int) (ms.map .int)) = _
    have e : PyData.eqvAll (ns.map .int) (ms.map .int) = decide (ns = ms) := ih
    rw [e, Bool.eq_iff_iff]
    simp
theorem sorted_eq {ns ms : List Int} (hp : ms.Pairwise (· < ·)) (hm : ∀ k : Int, k ∈ ms ↔ k ∈ ns) : decide (ns = ms) = risesB ns := by
  rw [Bool.eq_iff_iff, decide_eq_true_eq]
  unfold risesB
  rw [decide_eq_true_eq]
  constructor
  · intro e
    rw [e]; exact hp
  · intro h
    have nd : ∀ {l : List Int}, l.Pairwise (· < ·) → l.Nodup := fun h => h.imp fun h => Int.ne_of_lt h
    exact List.Perm.eq_of_pairwise (le := (· < ·)) (fun a b _ _ h1 h2 => absurd h1 (by omega)) h hp ((List.perm_ext_iff_of_nodup (nd h) (nd hp)).mpr fun a => (hm a).symm)
section
variable {X : Cx}
theorem cr_sortedSetW (w : World) (h : X.w = w) (hc : X.calm = true) : CallR X (.builtin "sorted") (rSortedSet w) := h ▸ cr_sortedSet hc
end
end Ib

set_option Elab.async false
set_option linter.all false
set_option maxRecDepth 100000
set_option maxHeartbeats 2000000
/-! Lit: expressions that make a tree of what stands, and change nothing. -/
namespace Lit
open PySem PySem.Spec PyProof.Rows L2 GxR GX Tree Kit Comps Purse Ib
/-- te makes the tree d, whatever was added since H -/
def LitE (σ : L2.St) (C : List Addr) (H : Hp) (te : TE) (d : PyData) : Prop := ∀ H1, Kx [] H H1 → ∀ Q : VK, (∀ v H', Kx [] H1 H' → Tr C H' v d → Q v H') → te σ H1 Q
def LitL (σ : L2.St) (C : List Addr) (H : Hp) (ts : TA) (ds : List PyData) : Prop := ∀ H1, Kx [] H H1 → ∀ Q : List V → Hp → Prop, (∀ vs H', Kx [] H1 H' → TrAll C H' vs ds → Q vs H') → ts σ H1 Q
section
variable {σ : L2.St} {C : List Addr} {H : Hp} {te te' : TE} {ts : TA} {d : PyData} {ds es : List PyData} {K : PySem.W.Frag}
theorem lit_use {Q : VK} (l : LitE σ C H te d) (q : ∀ v H', Kx [] H H' → Tr C H' v d → Q v H') : te σ H Q := l H (Kx.refl H) Q q
theorem lit_at {H1 : Hp} {Q : VK} (l : LitE σ C H te d) (k : Kx [] H H1) (q : ∀ v H', Kx [] H1 H' → Tr C H' v d → Q v H') : te σ H1 Q := l H1 k Q q
theorem al_up {H1 : Hp} (al : ∀ c ∈ C, H c ≠ none) (k : Kx [] H H1) : ∀ c ∈ C, H1 c ≠ none := fun c hc => Kx.ne k (al c hc)
theorem lit_int {i : Int} : LitE σ C H (tC (.int i)) (.int i) := fun H1 _ Q q => q _ H1 (Kx.refl _) (.int i)
theorem lit_non : LitE σ C H (tC .non) .none := fun H1 _ Q q => q _ H1 (Kx.refl _) .non
theorem lit_bl {b : Bool} : LitE σ C H (tC (.bl b)) (.bool b) := fun H1 _ Q q => q _ H1 (Kx.refl _) (.bl b)
theorem lit_str {x : Str} : LitE σ C H (tC (.str x)) (.str x) := fun H1 _ Q q => q _ H1 (Kx.refl _) (.str x)
theorem lit_var {j : Nat} {v : V} (hσ : σ[j]? = some (some v)) (t : Tr C H v d) : LitE σ C H (tVar j) d := fun H1 k Q q => ⟨v, hσ, q v H1 (Kx.refl _) (t.up k)⟩
theorem lit_nil : LitL σ C H tNil [] := fun H1 _ Q q => q [] H1 (Kx.refl _) .nil
theorem lit_cons (a : LitE σ C H te d) (b : LitL σ C H ts ds) : LitL σ C H (tCons te ts) (d :: ds) := fun H1 k Q q =>
  st_cons (a H1 k _ fun v H2 k2 t => b H2 (k.trans k2) _ fun vs H3 k3 t3 => q _ H3 (k2.trans k3) (.cons (t.up k3) t3))
theorem lit_lst (al : ∀ c ∈ C, H c ≠ none) (b : LitL σ C H ts ds) (hl : ds.length ≤ 1000) : LitE σ C H (tLst ts) (.list ds) := fun H1 k Q q =>
  b H1 k _ fun vs H2 k2 t => ⟨by have := t.length; unfold sizeLine; omega, fun p hp => by
    obtain ⟨k3, e3, t3⟩ := mk_lst (al_up al (k.trans k2)) t hp
    exact q _ _ (k2.trans k3) t3⟩
theorem lit_tup (al : ∀ c ∈ C, H c ≠ none) (b : LitL σ C H ts ds) (hl : ds.length ≤ 1000) : LitE σ C H (tTup ts) (.tuple ds) := fun H1 k Q q =>
  b H1 k _ fun vs H2 k2 t => ⟨by have := t.length; unfold sizeLine; omega, fun p hp => by
    obtain ⟨k3, e3, t3⟩ := mk_tup (al_up al (k.trans k2)) t hp
    exact q _ _ (k2.trans k3) t3⟩
theorem lit_dict (al : ∀ c ∈ C, H c ≠ none) : LitE σ C H tDNewK (.dict []) := fun H1 k Q q p hp => by
  obtain ⟨k3, e3, t3⟩ := mk_dic (al_up al k) hp
  exact q _ _ k3 t3
theorem lit_cat (al : ∀ c ∈ C, H c ≠ none) (a : LitE σ C H te (.list ds)) (b : LitE σ C H te' (.list es)) (hl : ds.length + es.length ≤ 100000) : LitE σ C H (tOp rCat te te') (.list (ds ++ es)) := fun H1 k Q q =>
  st_op (a H1 k _ fun v H2 k2 t => b H2 (k.trans k2) _ fun u H3 k3 t3 => by
    obtain ⟨x, xs, rfl, ex, tx⟩ := (t.up k3).listV
    obtain ⟨y, ys, rfl, ey, ty⟩ := t3.listV
    refine ⟨x, y, xs, ys, rfl, rfl, ex, ey, by have h1 := tx.length; have h2 := ty.length; unfold sizeLine; omega, fun p hp => ?_⟩
    obtain ⟨k4, e4, t4⟩ := mk_lst (al_up al (k.trans (k2.trans k3))) (tx.append ty) hp
    exact q _ _ (k2.trans (k3.trans k4)) t4)
theorem trAll_rep {vs : List V} (t : TrAll C H vs ds) : ∀ n : Nat, TrAll C H (List.replicate n vs).flatten (List.replicate n ds).flatten
  | 0 => .nil
  | n + 1 => by
    rw [List.replicate_succ, List.replicate_succ, List.flatten_cons, List.flatten_cons]
    exact t.append (trAll_rep t n)
theorem lit_rep (al : ∀ c ∈ C, H c ≠ none) {n : Nat} (a : LitE σ C H te (.list ds)) (hl : ds.length ≤ 1000) (hn : n ≤ 1000) : LitE σ C H (tOp rRep te (tC (.int (n : Int)))) (.list (List.replicate n ds).flatten) := fun H1 k Q q =>
  st_op (a H1 k _ fun v H2 k2 t => by
    obtain ⟨x, xs, rfl, ex, tx⟩ := t.listV
    have h1 := tx.length
    refine ⟨x, (n : Int), xs, rfl, rfl, ex, by omega, by omega, ?_, fun p hp => ?_⟩
    · have : xs.length * n ≤ 1000 * 1000 := Nat.mul_le_mul (by omega) hn
      rw [Int.toNat_natCast]
      unfold sizeLine
      omega
    · rw [Int.toNat_natCast]
      obtain ⟨k4, e4, t4⟩ := mk_lst (al_up al (k.trans k2)) (trAll_rep tx n) hp
      exact q _ _ (k2.trans k4) t4)
theorem lit_take (al : ∀ c ∈ C, H c ≠ none) {n : Nat} (a : LitE σ C H te (.list ds)) : LitE σ C H (tSl (rSlL K) te tNoPart (tPart (tC (.int (n : Int))))) (.list (ds.take n)) := fun H1 k Q q =>
  a H1 k _ fun v H2 k2 t => by
    obtain ⟨x, xs, rfl, ex, tx⟩ := t.listV
    refine ⟨_, rfl, x, xs, rfl, SqL.of ex, fun p hp => ?_⟩
    rw [cut_hi]
    obtain ⟨k4, e4, t4⟩ := mk_lst (al_up al (k.trans k2)) (tx.take n) hp
    exact q _ _ (k2.trans k4) t4
theorem lit_drop (al : ∀ c ∈ C, H c ≠ none) {n : Nat} (a : LitE σ C H te (.list ds)) : LitE σ C H (tSl (rSlL K) te (tPart (tC (.int (n : Int)))) tNoPart) (.list (ds.drop n)) := fun H1 k Q q =>
  a H1 k _ fun v H2 k2 t => by
    obtain ⟨x, xs, rfl, ex, tx⟩ := t.listV
    refine ⟨_, rfl, x, xs, rfl, SqL.of ex, fun p hp => ?_⟩
    rw [cut_lo]
    obtain ⟨k4, e4, t4⟩ := mk_lst (al_up al (k.trans k2)) (tx.drop n) hp
    exact q _ _ (k2.trans k4) t4
theorem lit_sub {i j : Int} (a : LitE σ C H te (.int i)) : LitE σ C H (tOp (rI0 fun i j => .int (i - j)) te (tC (.int j))) (.int (i - j)) := fun H1 k Q q =>
  st_op (a H1 k _ fun v H2 k2 t => by
    rw [Tree.Tr.intV t]
    exact ⟨i, j, rfl, rfl, q _ _ k2 (.int _)⟩)
theorem lit_len {j : Nat} {a : Addr} (hσ : σ[j]? = some (some (.ref a))) (t : Tr C H (.ref a) (.list ds)) : LitE σ C H (tCB (rLenK K) (tCons (tVar j) tNil)) (.int ds.length) := fun H1 k Q q => by
  obtain ⟨xs, ex, tx⟩ := (t.up k).items
  refine ⟨.ref a, hσ, a, xs, rfl, .inl (SqL.of ex), ?_⟩
  rw [tx.length]
  exact q _ H1 (Kx.refl _) (.int _)
end

mutual
theorem avoid {B : List Addr} {H : Hp} {F : Addr} (hF : H F = none) : ∀ (d : PyData) (v : V), Tr B H v d → Tr (F :: B) H v d
  | _, _, .non => .non
  | _, _, .bl b => .bl b
  | _, _, .int i => .int i
  | _, _, .str x => .str x
  | .list ds, _, .lst n h l => .lst (fun z => (List.mem_cons.mp z).elim (fun e => by rw [e, hF] at h; cases h) n) h (avoidAll hF ds _ l)
  | .tuple ds, _, .tup n h l => .tup (fun z => (List.mem_cons.mp z).elim (fun e => by rw [e, hF] at h; cases h) n) h (avoidAll hF ds _ l)
  | _, _, .dic n h => .dic (fun z => (List.mem_cons.mp z).elim (fun e => by rw [e, hF] at h; cases h) n) h
theorem avoidAll {B : List Addr} {H : Hp} {F : Addr} (hF : H F = none) : ∀ (ds : List PyData) (vs : List V), TrAll B H vs ds → TrAll (F :: B) H vs ds
  | _, _, .nil => .nil
  | d :: ds, _, .cons h t => .cons (avoid hF d _ h) (avoidAll hF ds _ t)
end
end Lit

set_option Elab.async false
set_option linter.all false
set_option maxRecDepth 100000
set_option maxHeartbeats 2000000
/-! Shown: a small tree can be shown, and in how many signs. -/
namespace Shown
open PySem PySem.Spec PyProof.Rows L2 GxR Tree Kit Data Small
theorem shown_le {L M : Nat} (hM : M ≤ 10000000000) : ∀ (k : Nat) (d : PyData), sz d ≤ k → Bd L M d → d.shown.length + 2 ≤ 160 * sz d ∧ d.showable = true := by
  intro k
  induction k with
  | zero => intro d hk _; have := sz_pos d; omega
  | succ k ih =>
    have all : ∀ xs : List PyData, szAll xs ≤ k → BdAll L M xs → ((PyData.shownAll xs).map (·.length)).sum + 2 * xs.length ≤ 160 * szAll xs ∧ PyData.showableAll xs = true := by
      intro xs
      induction xs with
      | nil => intro _ _; exact ⟨Nat.zero_le _, rfl⟩
      | cons x r ih2 =>
        intro hk hb
        simp only [szAll] at hk
        obtain ⟨b1, b2⟩ := hb
        obtain ⟨h1, h2⟩ := ih x (by omega) b1
        obtain ⟨h3, h4⟩ := ih2 (by omega) b2
        refine ⟨?_, ?_⟩
        · simp only [PyData.shownAll, List.map_cons, List.sum_cons, List.length_cons, szAll]
          omega
        · simp only [PyData.showableAll, h2, h4, Bool.and_self]
    intro d hk hb
    cases d with
    | none => exact ⟨by decide, rfl⟩
    | bool b => exact ⟨by cases b <;> decide, rfl⟩
    | int i =>
      have hi : i.natAbs ≤ M := hb
      refine ⟨?_, ?_⟩
      · have h1 := int_text_length_le10 (a := i) (k := 12) (by decide) (by omega)
        have h2 : (PyData.shown (.int i)).length = (toString i).length := by
          show (Str.ofString (toString i)).length = _
          exact PySem.ofString_length _
        simp only [sz]
        omega
      · show decide (i.natAbs.log2 < 1920) = true
        have h3 : i.natAbs < 2 ^ 40 := by omega
        exact decide_eq_true (Nat.lt_of_lt_of_le (PySem.Flt.log2_lt_of (by decide) h3) (by decide))
    | str x =>
      have hx : (reprText x).length ≤ 140 := hb
      refine ⟨?_, rfl⟩
      show (reprText x).length + 2 ≤ 160 * 1
      omega
    | list xs =>
      simp only [sz] at hk ⊢
      obtain ⟨h1, h2⟩ := all xs (by omega) hb.2
      have h3 := listText_len_le (PyData.shownAll xs)
      have h4 := PyData.shownAll_length xs
      refine ⟨?_, h2⟩
      show (listText (PyData.shownAll xs)).length + 2 ≤ _
      omega
    | tuple xs =>
      simp only [sz] at hk ⊢
      obtain ⟨h1, h2⟩ := all xs (by omega) hb.2
      have h3 := tupleText_len_le (PyData.shownAll xs)
      have h4 := PyData.shownAll_length xs
      refine ⟨?_, h2⟩
      show (tupleText (PyData.shownAll xs)).length + 2 ≤ _
      omega
    | dict kvs =>
      obtain rfl : kvs = [] := hb
      exact ⟨by decide, rfl⟩
theorem shows {L M S D : Nat} {d : PyData} (h : Sm L M S D d) (hM : M ≤ 10000000000) (hS : S ≤ 2000) (hD : D ≤ 40) : d.showable = true ∧ d.depth ≤ 40 ∧ d.shown.length ≤ sizeLine := by
  obtain ⟨h1, h2⟩ := shown_le hM _ d (Nat.le_refl _) h.bd
  have := h.sz
  exact ⟨h2, Nat.le_trans h.dp hD, by unfold sizeLine; omega⟩
end Shown

set_option Elab.async false
set_option linter.all false
set_option maxRecDepth 100000
set_option maxHeartbeats 2000000
/-! Day: a day as typed data, and its tree. -/
namespace Day
open PySem PySem.Spec PyProof.Rows L2 GxR Tree Kit Data
structure Blk where
  house : Int
  craft : Int
  ready : Int
  due : Option Int
  worth : Int
structure Dy where
  hours : Int
  stores : List Int
  sights : List (List (List Int))
  asks : List (Option Int)
  blocks : List Blk
def optD : Option Int → PyData
  | none => .none
  | some i => .int i
def blkD (b : Blk) : PyData := .tuple [.int b.house, .int b.craft, .int b.ready, optD b.due, .int b.worth]
def rowD (r : List Int) : PyData := .list (r.map .int)
def sightD (s : List (List Int)) : PyData := .list (s.map rowD)
def dayD (D : Dy) : PyData := .tuple [.int D.hours, .list (D.stores.map .int), .list (D.sights.map sightD), .list (D.asks.map optD), .list (D.blocks.map blkD)]
structure BlkOk (hours craft : Int) (b : Blk) : Prop where
  h0 : 0 ≤ b.house
  h1 : b.house ≤ 5
  c0 : 0 ≤ b.craft
  c1 : b.craft < craft
  r0 : 0 ≤ b.ready
  r1 : b.ready < hours
  du : ∀ u, b.due = some u → b.ready ≤ u ∧ u < hours
  w0 : 1 ≤ b.worth
  w1 : b.worth ≤ 9999
structure RowOk (craft : Int) (r : List Int) : Prop where
  up : r.Pairwise (· < ·)
  bd : ∀ c ∈ r, 0 ≤ c ∧ c < craft
structure DyOk (D : Dy) : Prop where
  t0 : 1 ≤ D.hours
  t1 : D.hours ≤ 10
  s0 : 1 ≤ D.stores.length
  s1 : D.stores.length ≤ 4
  sb : ∀ n ∈ D.stores, 0 ≤ n ∧ n ≤ 5
  g0 : 1 ≤ D.sights.length
  g1 : D.sights.length ≤ 3
  gl : ∀ s ∈ D.sights, (s.length : Int) = D.hours
  gr : ∀ s ∈ D.sights, ∀ r ∈ s, RowOk D.stores.length r
  al : D.asks.length = D.sights.length
  ab : ∀ a, some a ∈ D.asks → 0 ≤ a ∧ a ≤ 999
  bl : D.blocks.length ≤ 14
  bb : ∀ b ∈ D.blocks, BlkOk D.hours D.stores.length b
theorem isWh_mk {lo hi i : Int} (h1 : lo ≤ i) (h2 : i ≤ hi) : isWh lo hi (.int i) = true := by
  show (decide (lo ≤ i) && decide (i ≤ hi)) = true
  simp only [Bool.and_eq_true, decide_eq_true_eq]
  exact ⟨h1, h2⟩
/-- each tree of a list is made of something typed -/
theorem each_of {α : Type} {f : α → PyData} {P : α → Prop} : ∀ {ds : List PyData}, (∀ d ∈ ds, ∃ a, d = f a ∧ P a) → ∃ as : List α, ds = as.map f ∧ ∀ a ∈ as, P a
  | [], _ => ⟨[], rfl, fun a h => nomatch h⟩
  | d :: ds, h => by
    obtain ⟨a, rfl, ha⟩ := h d (by simp)
    obtain ⟨as, rfl, has⟩ := each_of (ds := ds) fun d hd => h d (by simp [hd])
    exact ⟨a :: as, rfl, fun x hx => (List.mem_cons.mp hx).elim (fun e => e ▸ ha) (has x)⟩
theorem whs_of {lo hi : Int} {ds : List PyData} (h : ds.all (isWh lo hi) = true) : ∃ ns : List Int, ds = ns.map .int ∧ ∀ n ∈ ns, lo ≤ n ∧ n ≤ hi :=
  each_of fun d hd => isWh_int (List.all_eq_true.mp h d hd)
theorem and3 {a b : Bool} (h : (a && b) = true) : a = true ∧ b = true := Bool.and_eq_true_iff.mp h
theorem ints_back : ∀ ns : List Int, intsD (ns.map PyData.int) = ns
  | [] => rfl
  | n :: ns => congrArg (n :: ·) (ints_back ns)
theorem row_of {c : Int} {d : PyData} (h : heardB c d = true) : ∃ r, d = rowD r ∧ RowOk c r := by
  cases d with
  | list xs =>
    obtain ⟨h1, h2⟩ := and3 (show (xs.all (isWh 0 (c - 1)) && risesB (intsD xs)) = true from h)
    obtain ⟨ns, rfl, hb⟩ := whs_of h1
    refine ⟨ns, rfl, ?_, fun n hn => by have := hb n hn; omega⟩
    rw [ints_back] at h2
    exact of_decide_eq_true h2
  | _ => cases h
theorem sight_of {hh c : Int} {d : PyData} (h : sightB hh c d = true) : ∃ s, d = sightD s ∧ (s.length : Int) = hh ∧ ∀ r ∈ s, RowOk c r := by
  obtain ⟨h1, h2⟩ := and3 h
  obtain ⟨xs, rfl, l1, l2⟩ := isLs_list h1
  obtain ⟨s, rfl, hs⟩ := each_of (f := rowD) (P := RowOk c) fun d hd => row_of (List.all_eq_true.mp h2 d hd)
  rw [List.length_map] at l1 l2
  exact ⟨s, rfl, by omega, hs⟩
theorem opt_of {d : PyData} (h : (isNone d || isWh 0 999 d) = true) : ∃ o, d = optD o ∧ ∀ a, o = some a → 0 ≤ a ∧ a ≤ 999 := by
  cases d with
  | none => exact ⟨none, rfl, fun a e => nomatch e⟩
  | int i =>
    obtain ⟨j, e, h1, h2⟩ := isWh_int (show isWh 0 999 (.int i) = true from h)
    cases e
    exact ⟨some i, rfl, fun a e => by cases e; exact ⟨h1, h2⟩⟩
  | _ => cases h
theorem blk5 {hh c : Int} (d1 d2 d3 d4 d5 : PyData) : blockB hh c (.tuple [d1, d2, d3, d4, d5]) = (isWh 0 5 d1 && (isWh 0 (c - 1) d2 && (isWh 0 (hh - 1) d3 && ((isNone d4 || (isNum d3 && isWh (intOf d3) (hh - 1) d4)) && isWh 1 9999 d5)))) := by
  cases d3 <;> first | rfl | (simp only [blockB, isNum, intOf, Bool.false_and, Bool.true_and])
theorem blk_of {hh c : Int} {d : PyData} (h : blockB hh c d = true) : ∃ b, d = blkD b ∧ BlkOk hh c b := by
  cases d with
  | tuple xs =>
    match xs, h with
    | [d1, d2, d3, d4, d5], h =>
      obtain ⟨a1, h⟩ := and3 ((blk5 d1 d2 d3 d4 d5).symm.trans h)
      obtain ⟨a2, h⟩ := and3 h
      obtain ⟨a3, h⟩ := and3 h
      obtain ⟨a4, a5⟩ := and3 h
      obtain ⟨hs, rfl, b1, b2⟩ := isWh_int a1
      obtain ⟨cr, rfl, b3, b4⟩ := isWh_int a2
      obtain ⟨re, rfl, b5, b6⟩ := isWh_int a3
      obtain ⟨wo, rfl, b7, b8⟩ := isWh_int a5
      have a4 : (isNone d4 || isWh re (hh - 1) d4) = true := a4
      obtain ⟨o, rfl, ho⟩ : ∃ o, d4 = optD o ∧ ∀ u, o = some u → re ≤ u ∧ u ≤ hh - 1 := by
        cases d4 with
        | none => exact ⟨none, rfl, fun a e => nomatch e⟩
        | int i =>
          obtain ⟨j, e, h1, h2⟩ := isWh_int (show isWh re (hh - 1) (.int i) = true from a4)
          cases e
          exact ⟨some i, rfl, fun a e => by cases e; exact ⟨h1, h2⟩⟩
        | _ => cases a4
      exact ⟨⟨hs, cr, re, o, wo⟩, rfl, b1, b2, b3, by show cr < c; omega, b5, by show re < hh; omega, fun u e => by have := ho u e; exact ⟨this.1, by omega⟩, b7, b8⟩
  | _ => cases h
theorem day_of {d : PyData} (h : isDayB d = true) : ∃ D, d = dayD D ∧ DyOk D := by
  cases d with
  | tuple xs =>
    match xs, h with
    | [d1, d2, d3, d4, d5], h =>
      obtain ⟨a1, h⟩ := and3 (show (isWh 1 10 d1 && (storesB d2 && (sightsB (intOf d1) (lenD d2) d3 && (asksB (lenD d3) d4 && blocksB (intOf d1) (lenD d2) d5)))) = true from h)
      obtain ⟨a2, h⟩ := and3 h
      obtain ⟨a3, h⟩ := and3 h
      obtain ⟨a4, a5⟩ := and3 h
      obtain ⟨hh, rfl, b1, b2⟩ := isWh_int a1
      obtain ⟨c1, c2⟩ := and3 a2
      obtain ⟨xs2, rfl, l1, l2⟩ := isLs_list c1
      obtain ⟨sts, rfl, hsts⟩ := whs_of (show xs2.all (isWh 0 5) = true from c2)
      obtain ⟨c3, c4⟩ := and3 a3
      obtain ⟨xs3, rfl, l3, l4⟩ := isLs_list c3
      have ls : (((sts.map PyData.int).length : Nat) : Int) = (sts.length : Int) := by rw [List.length_map]
      have a5' : blocksB hh (sts.length : Int) d5 = true := by rw [← ls]; exact a5
      obtain ⟨sis, rfl, hsis⟩ := each_of (f := sightD) (P := fun s => (s.length : Int) = hh ∧ ∀ r ∈ s, RowOk (sts.length : Int) r) fun d hd => by
        have := List.all_eq_true.mp (show xs3.all (sightB hh (((sts.map PyData.int).length : Nat) : Int)) = true from c4) d hd
        rw [ls] at this
        exact sight_of this
      obtain ⟨c5, c6⟩ := and3 a4
      obtain ⟨xs4, rfl, l5, l6⟩ := isLs_list c5
      obtain ⟨ask, rfl, hask⟩ := each_of (f := optD) fun d hd => opt_of (List.all_eq_true.mp (show xs4.all (fun a => isNone a || isWh 0 999 a) = true from c6) d hd)
      obtain ⟨c7, c8⟩ := and3 a5'
      obtain ⟨xs5, rfl, l7, l8⟩ := isLs_list c7
      obtain ⟨bls, rfl, hbls⟩ := each_of (f := blkD) fun d hd => blk_of (List.all_eq_true.mp (show xs5.all (blockB hh (sts.length : Int)) = true from c8) d hd)
      have e3 : lenD (.list (sis.map sightD)) = (sis.length : Int) := by
        show (((sis.map sightD).length : Nat) : Int) = _
        rw [List.length_map]
      rw [e3] at l5 l6
      rw [List.length_map] at l1 l2 l3 l4 l5 l6 l7 l8
      exact ⟨⟨hh, sts, sis, ask, bls⟩, rfl, b1, b2, by show 1 ≤ sts.length; omega, by show sts.length ≤ 4; omega, hsts, by show 1 ≤ sis.length; omega, by show sis.length ≤ 3; omega, fun s hs => (hsis s hs).1, fun s hs => (hsis s hs).2, by show ask.length = sis.length; omega, fun a ha => hask _ ha a rfl, by show bls.length ≤ 14; omega, hbls⟩
  | _ => cases h
end Day

set_option Elab.async false
set_option linter.all false
set_option maxRecDepth 100000
set_option maxHeartbeats 2000000
/-! Loops3: comprehensions that make a tree of each item; trees that avoid what is no tuple. -/
namespace Loops3
open PySem PySem.Spec PyProof.Rows L2 GxR GX Tree Kit Comps Purse
section
variable {g : TG} {te : TE} {vs : List Nat} {σ : L2.St} {H : Hp} {Q : VK}
/-- [e for x in l]; F d: the tree that is made of the item d -/
theorem lc_mapC {K : PySem.W.Frag} {C : List Addr} {a : Addr} {xs : List V} {ds : List PyData} (F : PyData → PyData) (al : ∀ c ∈ C, H c ≠ none) (ha : H a = some (.lst xs)) (hd : TrAll [] H xs ds) (hN : ds.length < sizeLine)
    (step : ∀ D x d H', H D = none → (∀ c ∈ D :: C, H' c ≠ none) → d ∈ ds → Tr [] H' x d → Kx [] H H' → ∀ R : V → Hp → Prop, (∀ y H'', Kx [] H' H'' → Tr (D :: C) H'' y (F d) → R y H'') →
      g x (wipe σ vs) H' fun σ2 H2 => wipe σ2 vs = wipe σ vs ∧ te σ2 H2 R)
    (q : ∀ D H', Kx [] H H' → H D = none → Tr C H' (.ref D) (.list (ds.map F)) → Q (.ref D) H') :
    CompG (Itl K a) g tYes te vs σ H Q := by
  intro D hD
  have hlen := hd.length
  have nD : D ∉ C := fun z => al D z hD
  refine lc_gen (itl_at (B := []) ha (by simp)) (by omega) hD (A := fun i acc H' => TrAll (D :: C) H' acc ((ds.take i).map F)) .nil (fun i H' acc hi k hdd hacc R R0 hR hR0 => ?_) fun acc H' k hdd hacc => ?_
  · have ei : ds[i]? = some ds[i] := List.getElem?_eq_getElem (by omega)
    have ex : xs[i]? = some xs[i] := List.getElem?_eq_getElem (by omega)
    obtain ⟨d, e1, e2⟩ := hd.get ex
    rw [ei] at e1
    cases e1
    have e3 : xs.getD i V.non = xs[i] := by
      rw [List.getD_eq_getElem?_getD, ex]; rfl
    rw [e3]
    have alD : ∀ c ∈ D :: C, H' c ≠ none := fun c hc => by
      rcases List.mem_cons.mp hc with e | e
      · rw [e, hdd]; simp
      · exact Kx.ne k (al c e)
    have ef : (ds.take (i + 1)).map F = (ds.take i).map F ++ [F ds[i]] := by
      rw [List.take_add_one, ei, List.map_append]
      rfl
    have st := step D xs[i] ds[i] H' hD alD (List.getElem_mem (by omega)) (e2.up k) k R fun y H'' k2 t2 => hR y H'' (k.trans k2) (k2.lst (by simp) hdd) (by
      rw [ef]
      have t1 := hacc.up k2
      exact TrAll.kx (Kx.put (B := [D]) (by simp)) (fun b hb => by rw [List.mem_singleton.mp hb]; simp) _ _ (t1.snoc t2))
    exact st
  · rw [show xs.length = ds.length from hlen, List.take_length] at hacc
    exact q D H' k hD (.lst nD hdd (TrAll.less (fun b hb => List.mem_cons_of_mem _ hb) _ _ hacc))
end
theorem al_up' {C : List Addr} {H H1 : Hp} (al : ∀ c ∈ C, H c ≠ none) (k : Kx [] H H1) : ∀ c ∈ C, H1 c ≠ none := fun c hc => Kx.ne k (al c hc)
end Loops3

set_option Elab.async false
set_option linter.all false
set_option maxRecDepth 100000
set_option maxHeartbeats 2000000
/-! Obj: classes of the text: methods with their facts, attributes; comprehensions without a free name. -/
namespace Obj
open PySem PySem.Spec PyProof.Rows L2 GxR Tree Kit
/-- a class's function as it stands behind the top; q its qualified name -/
structure MethAt (K : PySem.W.Frag) (m q : Str) (st : Stmt) (ps : List Str) (f : Addr) (fd : FuncData) : Prop where
  F : FunD K m q (defArgs st) (defBody st) (defScope st) [] [] f fd
  b : Binds K fd ps []
section
variable {P : Program} {w : World} {K : PySem.W.Frag} {mg : Str → Option Value} {base : Heap} {m q : Str} {st : Stmt} {ps : List Str} {f : Addr} {fd : FuncData}
theorem MethAt.ok {N : List Str} {k : Nat} {sp : Sp} (D : MethAt K m q st ps f fd) (S : FnScope N ps (defScope st)) (len : ∀ vs H Q E, sp vs H Q E → vs.length = ps.length)
    (hbody : ∀ (cdv : Value) (A : Around) (outer : List Env) (s : Shared) (H : Hp) (vs : List V) (Q : VK) (E : XK), fd.code = cdv → Room k (A.deeper (envOfC q (defScope st) s.heap.objs.size f cdv)) → sp vs H Q E →
      ∃ t, PSs (cxOf CX0 P w K mg base N q (defScope st) f cdv A outer s H E).nox (defBody st) t ∧ t { nx := fun _ H' => Q .non H', rt := Q } (start N vs) H) : FnOk P w K mg base CX0 (k + 1) f fd ps sp := by
  obtain ⟨oc, od, dV, kV, doc, pm, an, cdv, ct, osl, rfl, lk, hcd, _, _⟩ := D.F.ex
  exact fn_of lk hcd S len fun A outer s H vs Q E hr hsp => by
    obtain ⟨t, h, q⟩ := hbody cdv A outer s H vs Q E rfl hr hsp
    exact ⟨t, h.nox, q⟩
end
section
variable {X : Cx} {o e value : Expr} {f : Str} {pos pos' tpos : Pos} {ta tv : TE}
theorem pe_fldK (K : PySem.W.Frag) (h : X.K = K) (he : PE X e ta) (hb : attributeBase e f X.env (eval e X.env) = eval e X.env) : PE X (.Attribute e f pos) (tFld K ta f) := h ▸ pe_fld he hb
theorem ps_fldK (K : PySem.W.Frag) (h : X.K = K) (ha : PE X o ta) (hv : PE X value tv) (hs : swapsWith value (some (.Attribute o f pos')) pos.line X.env = pure false) : PS X (.Assign [.Attribute o f pos'] value pos) (sFld K ta tv f) := h ▸ ps_fld ha hv hs
theorem ps_fldaugK (K : PySem.W.Frag) (h : X.K = K) {op : Operator} {rd : V → V → Hp → VK → Prop} (ha : PE X o ta) (hv : PE X value tv) (hop : InOp X op rd) : PS X (.AugAssign (.Attribute o f tpos) op value pos) (sFldAug K ta tv rd f) := h ▸ ps_fldaug ha hv hop
theorem pg_lstK (K : PySem.W.Frag) (hK : X.K = K) {es : List Expr} {k : Nat} {t : TGs} {n : Nat} {pos : Pos} (hc : X.calm = true) (h : PGs X es t)
    (hn : (assignEach es X.env).length = n := by rfl) (hst : (assignEach es X.env).findIdx? (·.1) = none := by rfl) : PG X (.Tuple es k pos) (gLst K n t) := hK ▸ pg_lst hc h hn hst
end
/-- a block without a free name stands in any scope -/
theorem blkOk_any {N : List Str} {sc scope : Scope} {own : List (Str × Nat)} (h : (blkC N scope scope own && scope.names.all fun y => match y.2 with | .free => false | _ => true) = true) : BlkOk N sc scope own := by
  obtain ⟨h1, h2⟩ := Bool.and_eq_true_iff.mp h
  have b := blkOk_by h1
  refine ⟨b.kind, b.uniq, b.ix, fun y hy e => ?_, b.own⟩
  have q := List.all_eq_true.mp h2 y hy
  rw [e] at q
  cases q
/-- an instance with these attributes -/
def InsAt (H : Hp) (p C : Addr) (fs : List (Str × V)) : Prop := ∃ dx, H p = some (.ins C dx fs)
theorem InsAt.kx {H H' : Hp} {B : List Addr} {p C : Addr} {fs : List (Str × V)} (h : InsAt H p C fs) (k : Kx B H H') (n : p ∉ B) : InsAt H' p C fs := by
  obtain ⟨dx, e⟩ := h
  exact ⟨dx, k.at n e fun _ z => by cases z⟩
theorem InsAt.ne {H : Hp} {p C : Addr} {fs : List (Str × V)} (h : InsAt H p C fs) : H p ≠ none := by
  obtain ⟨dx, e⟩ := h
  rw [e]; simp
end Obj

set_option Elab.async false
set_option linter.all false
set_option maxRecDepth 100000
set_option maxHeartbeats 2000000
/-! CallG: a call of a def that is kept where no guard is under way. -/
namespace EndG
open PySem PySem.Spec PyProof.Rows L2
section
variable {X : Cx} {k : Nat} {f : Addr} {fd : FuncData} {ps : List Str} {sp : Sp} {x : Str} {p pos : Pos} {e : Expr} {es : List Expr} {t : TA} {E : XK}
theorem FnG.of {P : Program} {w : World} {K : PySem.W.Frag} {mg : Str → Option Value} {base : Heap} (F : FnOk P w K mg base CX0 k f fd ps sp) : FnG P w K mg base k f fd ps sp := ⟨F.len, fun A outer s H args us vs Q E _ hr e0 hb r h => F.run A outer s H args us vs Q E hr e0 hb r h⟩
theorem run_fnG {pins : List (Addr × Obj)} {σ : L2.St} {H : Hp} {s : Shared} {Q : VK} {us : List Value} {vs : List V} (F : FnG X.prog X.w X.K X.mg X.base k f fd ps sp) (hgu : X.A.guards = some []) (hr : Room k X.A) (hb : Binds X.K fd ps []) (hx : Passes CX0 X E)
    (I : Inv X pins σ H s) (r : Vals vs us) (h : sp (vs ++ []) H Q E) : wpAny (model X.prog X.w) X.A (call (.ref f) us) (EP X pins σ Q) X.xe s := by
  have r2 : Vals (vs ++ []) (us ++ []) := r.append .nil
  have hl : (us ++ []).length = ps.length := by rw [← r2.length]; exact F.len _ _ _ _ h
  refine wpAny_call (codeAny_mono (F.run X.A X.stack s H ⟨us, []⟩ (us ++ []) (vs ++ []) Q E hgu hr I.env0 (hb s us I.kIn hl) r2 h) fun r s' hq => ?_)
  cases r with
  | error e => exact hx pins σ H s e s' I hq
  | ok fl =>
    cases fl with
    | ret u => exact I.after hq
    | next => exact False.elim hq
    | brk => exact False.elim hq
    | cont => exact False.elim hq
theorem pe_callG (F : FnG X.prog X.w X.K X.mg X.base k f fd ps sp) (hgu : X.A.guards = some []) (hr : Room k X.A) (hg : Gl X x) (hm : X.mg x = some (.ref f)) (hk : PySem.W.keepIn X.K (.ref f) = true) (hb : Binds X.K fd ps []) (hx : Passes CX0 X E)
    (ha : PA X (e :: es) t) (hdb : (x == ("__debug__" : Str)) = false := by decide) (he : starEach (e :: es) X.env = (false, eval e X.env) :: starEach es X.env := by rfl) (hpl : (backTo pos (starEach es X.env)).any (·.1) = false := by rfl) :
    PE X (.Call (.Name x p) (e :: es) [] pos) (tCall sp [] E t) := by
  refine ⟨fun pins s σ H Q I h => ?_⟩
  refine wpAny_Call_Name_kw (ld_glob I hg hm ?_ hdb)
  refine PySem.W.callWith_K (h₀ := X.base) I.ok.mod.kin hk (thn (ha.run pos pins s σ H _ I h) fun us s1 ⟨vs, H1, I1, r, q⟩ => ⟨I1.kIn, ?_⟩) he hpl
  exact run_fnG F hgu hr hb hx I1 r q
end
end EndG

set_option Elab.async false
set_option linter.all false
set_option maxRecDepth 100000
set_option maxHeartbeats 4000000
namespace Enum
open PySem PySem.Spec PyProof.Rows L2 GxR GX Tree Kit Data Loops Loops2 Loops3 Comps Purse Ib
section
variable {X : Cx} {H : Hp}
theorem pi_enumerateK (K : PySem.W.Frag) (h : X.K = K) {e : Expr} {ta : TA} {p pos tpos : Pos} {elts : List Expr} {kk : Nat} (hg : Gl X "enumerate") (hm : X.mg "enumerate" = none) (ha : PA X [e] ta) (hs : starEach [e] X.env = [(false, eval e X.env)] := by rfl) :
    PI X (.Tuple elts kk tpos) (.Call (.Name "enumerate" p) [e] [] pos) (iEnum K ta) := h ▸ pi_enum hg hm ha hs
theorem pi_zipK (K : PySem.W.Frag) (h : X.K = K) {e e2 : Expr} {ta : TA} {p pos tpos : Pos} {elts : List Expr} {kk : Nat} (hg : Gl X "zip") (hm : X.mg "zip" = none) (ha : PA X [e, e2] ta)
    (hs : starEach [e, e2] X.env = (false, eval e X.env) :: starEach [e2] X.env := by rfl) (hpl : (backTo pos (starEach [e2] X.env)).any (·.1) = false := by rfl) :
    PI X (.Tuple elts kk tpos) (.Call (.Name "zip" p) [e, e2] [] pos) (iZip K ta) := h ▸ pi_zip hg hm ha hs hpl
theorem op_inDK (K : PySem.W.Frag) (h : X.K = K) (hu : X.A.units + 65 < cLine) : OpR X (compareOp .In) (rInD K) := h ▸ op_inD hu
end
theorem units1 {k : Nat} {A : Around} (r : Room k A) : A.units + 65 < cLine := by have := r.un; omega
/-- a walk whose items are new things -/
theorem for_any {J : It} {B : List Addr} {N : Nat} {σ : L2.St} {H : Hp} {g : TG} {tb : TS} {D : Ends} (go : ∀ i H', i < N → Kx B H H' → J.go i H') (stop : ∀ H', Kx B H H' → J.stop N H') {Iv : Nat → L2.St → Hp → Prop} (h0 : Iv 0 σ H)
    (step : ∀ i σ' H' x H5, i < N → Kx B H H' → Iv i σ' H' → J.yld i H' x H5 → ∀ Nn : L2.St → Hp → Prop, (∀ σ'' H'', Kx B H H'' → Iv (i + 1) σ'' H'' → Nn σ'' H'') → g x σ' H5 fun σ2 H2 => tb { D with nx := Nn, ct := Nn, bk := D.nx } σ2 H2)
    (q : ∀ σ' H', Kx B H H' → Iv N σ' H' → D.nx σ' H') :
    ∃ W : Nat → Nat → L2.St → Hp → Prop, (∃ m, W 0 m σ H) ∧ ∀ i m σ H, W i m σ H → (J.stop i H ∧ D.nx σ H) ∨ (J.go i H ∧ ∃ N : L2.St → Hp → Prop, (∀ σ' H', N σ' H' → ∃ m', m' < m ∧ W (i + 1) m' σ' H') ∧ ∀ x H', J.yld i H x H' → g x σ H' fun σ2 H2 => tb { D with nx := N, ct := N, bk := D.nx } σ2 H2) := by
  refine ⟨fun i m σ' H' => m = N - i ∧ i ≤ N ∧ Kx B H H' ∧ Iv i σ' H', ⟨N, by simp, Nat.zero_le _, Kx.refl _, h0⟩, ?_⟩
  rintro i m σ' H' ⟨rfl, hi, k, hv⟩
  by_cases hlt : i < N
  · exact .inr ⟨go i H' hlt k, fun σ'' H'' => Kx B H H'' ∧ Iv (i + 1) σ'' H'', fun σ'' H'' z => ⟨N - (i + 1), by omega, rfl, hlt, z⟩, fun x H5 y => step i σ' H' x H5 hlt k hv y _ fun σ'' H'' k2 h2 => ⟨k2, h2⟩⟩
  · have e : i = N := by omega
    subst e
    exact .inl ⟨stop H' k, q σ' H' k hv⟩
/-! ### trees as data that is compared -/
mutual
theorem tr_dp {K : PySem.W.Frag} {B : List Addr} {H : Hp} : ∀ (d : PyData) (v : V), Tr B H v d → PyData.canLay0 d = true → Dp K H v d
  | _, _, .non, _ => .non
  | _, _, .bl b, _ => .bl b
  | _, _, .int i, _ => .int i
  | _, _, .str x, _ => .str x
  | .list ds, _, .lst n h l, c => .lst (SqL.of h) (trs_dp ds _ l c)
  | .tuple ds, _, .tup n h l, c => .tup (SqT.of h) (trs_dp ds _ l c)
  | _, _, .dic n h, c => nomatch c
theorem trs_dp {K : PySem.W.Frag} {B : List Addr} {H : Hp} : ∀ (ds : List PyData) (vs : List V), TrAll B H vs ds → PyData.canLayAll0 ds = true → DpAll K H vs ds
  | _, _, .nil, _ => .nil
  | d :: ds, _, .cons h t, c => by
    have c' : (PyData.canLay0 d && PyData.canLayAll0 ds) = true := c
    obtain ⟨c1, c2⟩ := Bool.and_eq_true_iff.mp c'
    exact .cons (tr_dp d _ h c1) (trs_dp ds _ t c2)
end
theorem canAll {ds : List PyData} (h : ∀ d ∈ ds, PyData.canLay0 d = true) : PyData.canLay0 (.list ds) = true := by
  show PyData.canLayAll0 ds = true
  induction ds with
  | nil => rfl
  | cons d r ih =>
    show (PyData.canLay0 d && PyData.canLayAll0 r) = true
    rw [h d (by simp), ih fun e he => h e (List.mem_cons_of_mem _ he)]
    rfl
theorem depAll {ds : List PyData} {k : Nat} (h : ∀ d ∈ ds, PyData.depth d ≤ k) : PyData.depth (.list ds) ≤ k + 1 := by
  show PyData.depthAll ds + 1 ≤ k + 1
  have : PyData.depthAll ds ≤ k := by
    induction ds with
    | nil => exact Nat.zero_le _
    | cons d r ih =>
      show max (PyData.depth d) (PyData.depthAll r) ≤ k
      have := h d (by simp)
      have := ih fun e he => h e (List.mem_cons_of_mem _ he)
      omega
  omega
theorem shaped_by {d : PyData} {k : Nat} (h : PyData.canLay0 d = true) (e : PyData.depth d ≤ k) (hk : k ≤ 64 := by decide) : SeqAt.shaped d = true := by
  unfold SeqAt.shaped
  rw [h, Bool.true_and]
  exact decide_eq_true (by omega)
/-- lists of lists of ints -/
def intssD (ls : List (List Int)) : PyData := .list (ls.map fun l => .list (l.map PyData.int))
theorem can_intss (ls : List (List Int)) : PyData.canLay0 (intssD ls) = true := canAll fun d hd => by
  obtain ⟨l, _, rfl⟩ := List.mem_map.mp hd
  exact canLay_ints l
theorem dep_ints (l : List Int) : PyData.depth (.list (l.map PyData.int)) ≤ 1 := depAll (k := 0) fun d hd => by
  obtain ⟨l, _, rfl⟩ := List.mem_map.mp hd
  exact Nat.le_refl _
theorem shaped_intss (ls : List (List Int)) : SeqAt.shaped (intssD ls) = true := shaped_by (k := 2) (can_intss ls) (depAll fun d hd => by
  obtain ⟨l, _, rfl⟩ := List.mem_map.mp hd
  exact dep_ints l)
/-! ### a list's part told by its places -/
theorem part_sub {α : Type} (l : List α) (d : α) (js : List Nat) (h : js.Pairwise (· < ·)) (hj : ∀ j ∈ js, j < l.length) : List.Sublist (js.map fun j => l.getD j d) l := by
  let fs : List (Fin l.length) := js.attach.map fun j => ⟨j.1, hj j.1 j.2⟩
  have e : (js.map fun j => l.getD j d) = fs.map fun i => l[i] := by
    show _ = (js.attach.map fun j => (⟨j.1, hj j.1 j.2⟩ : Fin l.length)).map fun i => l[i]
    rw [List.map_map]
    conv => lhs; rw [← List.attach_map_subtype_val js]
    rw [List.map_map]
    refine List.map_congr_left fun j hj' => ?_
    show l.getD j.1 d = l[j.1]'(hj j.1 j.2)
    rw [List.getD_eq_getElem?_getD, List.getElem?_eq_getElem (hj j.1 j.2)]
    rfl
  rw [e]
  refine List.map_getElem_sublist ?_
  refine List.pairwise_map.mpr ?_
  have := List.pairwise_map.mp (show (js.attach.map (·.1)).Pairwise (· < ·) by rw [List.attach_map_subtype_val]; exact h)
  exact this.imp fun h => h
/-- a part of a list of different things is what of it is in the part -/
theorem sub_filter {α : Type} [BEq α] [LawfulBEq α] : ∀ {qs ps : List α}, List.Sublist qs ps → ps.Nodup → ps.filter (fun x => qs.contains x) = qs
  | _, _, .slnil, _ => rfl
  | qs, _, .cons (l₂ := ps) a s, n => by
    have na : a ∉ ps := (List.nodup_cons.mp n).1
    rw [List.filter_cons, if_neg (by simpa using fun z => na (s.subset z))]
    exact sub_filter s (List.nodup_cons.mp n).2
  | _, _, .cons₂ (l₁ := qs) (l₂ := ps) a s, n => by
    have na : a ∉ ps := (List.nodup_cons.mp n).1
    rw [List.filter_cons, if_pos (by simp)]
    have e : ps.filter (fun x => (a :: qs).contains x) = ps.filter (fun x => qs.contains x) := List.filter_congr fun x hx => by
      rw [List.contains_cons, show (x == a) = false from beq_false_of_ne (fun z => by rw [z] at hx; exact na hx), Bool.false_or]
    rw [e, sub_filter s (List.nodup_cons.mp n).2]
/-- [e for x in l]: the values that are made -/
theorem lc_mapV {K : PySem.W.Frag} {g : TG} {te : TE} {vs : List Nat} {σ : L2.St} {H : Hp} {Q : VK} {a : Addr} {xs : List V} (f : Nat → V) (ha : H a = some (.lst xs)) (hN : xs.length < sizeLine)
    (step : ∀ i H', i < xs.length → Kx [] H H' → ∀ R : V → Hp → Prop, (∀ H'', Kx [] H' H'' → R (f i) H'') → g (xs.getD i .non) (wipe σ vs) H' fun σ2 H2 => wipe σ2 vs = wipe σ vs ∧ te σ2 H2 R)
    (q : ∀ D H', Kx [] H H' → H D = none → H' D = some (.lst ((List.range xs.length).map f)) → Q (.ref D) H') : CompG (Itl K a) g tYes te vs σ H Q := by
  intro D hD
  refine lc_gen (B := []) (itl_at (B := []) ha (by simp)) hN hD (A := fun i acc _ => acc = (List.range i).map f) rfl (fun i H' acc hi k hd hacc R R0 hR hR0 => ?_) fun acc H' k hd hacc => q D H' k hD (hacc ▸ hd)
  have st := step i H' hi k R fun H'' k2 => hR (f i) H'' (k.trans k2) (k2.lst (by simp) hd) (by rw [List.range_succ, List.map_append, hacc]; rfl)
  exact st
theorem nodup_at {α : Type} {l : List α} (h : l.Nodup) {i j : Nat} (hi : i < l.length) (hj : j < l.length) (e : l[i] = l[j]) : i = j := by
  rcases Nat.lt_trichotomy i j with z | z | z
  · exact absurd e (List.pairwise_iff_getElem.mp h i j hi hj z)
  · exact z
  · exact absurd e.symm (List.pairwise_iff_getElem.mp h j i hj hi z)
end Enum

set_option Elab.async false
set_option linter.all false
set_option maxRecDepth 100000
set_option maxHeartbeats 2000000
/-! Caught: an exception that is kept behind the clause that caught it. -/
namespace Caught
open PySem PySem.Spec PyProof.Rows L2
/-- an exception of the class cls at a -/
def ExK (cls : Value) (d : Option Addr) (a : Addr) : HO := .ext fun h => ∃ oe : Obj, h.get? a = some oe ∧ Zc cls d oe ∧ ∃ vs, oe.data = .fields vs
theorem exK_ok {P : Program} {w : World} {H : Hp} {h : Heap} {a : Addr} {cls : Value} {d : Option Addr} {oe : Obj} {vs : Array Value} (e : h.get? a = some oe) (z : Zc cls d oe) (dt : oe.data = .fields vs) : ObjOk P w H h a (ExK cls d a) :=
  ⟨⟨oe, e, z, vs, dt⟩, ⟨oe, e⟩, fun h1 h2 ⟨o, e1, z1, vs1, d1⟩ k => ⟨o, k o e1, z1, vs1, d1⟩⟩
section
variable {X : Cx} {pins : List (Addr × Obj)} {σ : L2.St} {H : Hp} {s : Shared}
theorem adopt {a : Addr} {φ : Heap → Prop} (I : Inv X pins σ H s) (na : H a = none) (h0 : X.s_0.heap.get? a = none) (nL : a ≠ X.env.locals) (nC : ∀ x c, X.env.cells.lookup x = some c → c ≠ a) (np : ∀ p ∈ X.pn ++ pins, p.1 ≠ a)
    (new : ObjOk X.prog X.w (upd H a (.ext φ)) s.heap a (.ext φ)) : Inv X pins σ (upd H a (.ext φ)) s := by
  have ne : ∀ {b o}, H b = some o → b ≠ a := fun e z => by rw [z, na] at e; cases e
  have n0 : ∀ {b o}, X.s_0.heap.get? b = some o → b ≠ a := fun e z => by rw [z, h0] at e; cases e
  refine ⟨I.ok, I.os, I.bare, ⟨I.base.keep, I.base.slot, fun b o e n hx => ?_, I.base.there, fun b xs e => ?_, fun b o u e => ?_, fun b ps e => ?_⟩, I.loc, I.cell, ?_, fun x c e => ?_, fun p hp => ?_, fun b o e => ?_, I.len⟩
  · rw [upd_ne (n0 e)]; exact I.base.free b o e n hx
  · have q := I.base.tups b xs e
    rw [upd_ne (ne q)]; exact q
  · have q := I.base.frzs b o u e
    rw [upd_ne (ne q)]; exact q
  · obtain ⟨m, q⟩ := I.base.tbls b ps e
    exact ⟨m, by rw [upd_ne (ne q)]; exact q⟩
  · rw [upd_ne (Ne.symm nL)]; exact I.free
  · rw [upd_ne (nC x c e)]; exact I.freeC x c e
  · obtain ⟨e, n, r⟩ := I.pin p hp
    exact ⟨e, by rw [upd_ne (np p hp)]; exact n, r⟩
  · by_cases hb : b = a
    · subst hb
      rw [upd_same] at e
      cases e
      exact new
    · rw [upd_ne hb] at e
      exact (I.hok b o e).stay (fun c v _ q => q) (fun c q => by rw [upd_ne (ne q)]; exact q) fun c xs q => by rw [upd_ne (ne q)]; exact q
theorem suiteK (I : Inv X pins σ H s) (a : Addr) : Inv (X.suite a (X.pn ++ pins)) [] σ H s :=
  ⟨I.ok.suite _ _, I.os, I.bare, I.base, I.loc, I.cell, I.free, I.freeC, fun p hp => I.pin p (by rw [List.append_nil] at hp; exact hp), I.hok, I.len⟩
theorem unsuiteK {a : Addr} {pn' : List (Addr × Obj)} (I : Inv (X.suite a (X.pn ++ pins)) pn' σ H s) (ok : X.Ok) : Inv X pins σ H s :=
  ⟨ok, I.os, I.bare, I.base, I.loc, I.cell, I.free, I.freeC, fun p hp => I.pin p (List.mem_append_left _ hp), I.hok, I.len⟩
end
/-- what the clause 'except x as n' wishes, where the exception is kept -/
def wKeep (K : PySem.W.Frag) (c : Value) (i : Nat) (ts : Addr → TS) (Wout : WX) (D : Ends) : WX := fun cls d σ H =>
  ∃ b, PySem.W.exmOne K cls c = some b ∧ (b = true → ∀ a, H a = none → ts a { nx := fun σ' H' => D.nx (σ'.set i none) H', rt := D.rt, bk := fun σ' H' => D.bk (σ'.set i none) H', ct := fun σ' H' => D.ct (σ'.set i none) H' } (σ.set i (some (.ref a))) (upd H a (ExK cls d a))) ∧
    (b = false → Wout cls d σ H)
/-- an exception at a is of none of the frames l -/
theorem apart_of {B t : Heap} {l : List Env} {a : Addr} {o : Obj} {vs : Array Value} (ff : t.FunFrames B l) (e : t.get? a = some o) (dt : o.data = .fields vs) : a ∉ frs l := fun m => by
  obtain ⟨_, u, eu, no⟩ := ff.mem m
  rw [e] at eu
  cases eu
  exact no _ dt
/-- where a newly made thing lies -/
structure NewAt (X : Cx) (pins : List (Addr × Obj)) (a : Addr) : Prop where
  first : X.s_0.heap.get? a = none
  cells : ∀ y k, X.env.cells.lookup y = some k → k ≠ a
  pinned : ∀ p ∈ X.pn ++ pins, p.1 ≠ a
theorem NewAt.of {X : Cx} {pins : List (Addr × Obj)} {σ : L2.St} {H : Hp} {t : Shared} {a : Addr} (J : Inv X pins σ H t) (hex : X.ex = []) (no : t.heap.get? a = none) : NewAt X pins a := by
  refine ⟨?_, fun y k e z => ?_, fun p hp z => ?_⟩
  · by_cases e : X.s_0.heap.get? a = none
    · exact e
    · obtain ⟨o, eo⟩ := Option.ne_none_iff_exists'.mp e
      have nx : a ∉ X.ex := by rw [hex]; exact List.not_mem_nil
      obtain ⟨u, eu⟩ := J.base.there _ _ eo nx
      rw [no] at eu
      cases eu
  · obtain ⟨v, u, eu, _⟩ := J.cell y k e
    rw [z, no] at eu
    cases eu
  · have eu := (J.pin p hp).1
    rw [z, no] at eu
    cases eu
section
variable {X : Cx} {x n : Str} {c cls : Value} {d : Option Addr} {i : Nat} {body suite : List Stmt} {st₀ : Stmt} {np pos pos' : Pos} {tb : WX → TS} {ts : Addr → TS} {Wout : WX}
variable {pins : List (Addr × Obj)} {σ : L2.St} {H : Hp} {D : Ends}
/-- behind a suite in which the exception is kept -/
theorem suite_end {a : Addr} {r : Flow} {t : Shared} {i : Nat} (ok : X.Ok) (hN : X.N.Nodup) (hi : X.N[i]? = some n) (hln : X.env.kindOf n = some .local)
    (h : SP (X.suite a (X.pn ++ pins)) [] { nx := fun σ' H' => D.nx (σ'.set i none) H', rt := D.rt, bk := fun σ' H' => D.bk (σ'.set i none) H', ct := fun σ' H' => D.ct (σ'.set i none) H' } r t) :
    wpAny (model X.prog X.w) X.A (do bindName X.env n .none; unbindBehindTheSuite X.env n pos') (fun _ t' => SP X pins D r t') X.xe t := by
  cases r with
  | next => obtain ⟨σ1, H1, I1, w⟩ := h; exact gone_ok (unsuiteK I1 ok) hN hi hln fun t' I2 => ⟨_, H1, I2, w⟩
  | brk => obtain ⟨σ1, H1, I1, w⟩ := h; exact gone_ok (unsuiteK I1 ok) hN hi hln fun t' I2 => ⟨_, H1, I2, w⟩
  | cont => obtain ⟨σ1, H1, I1, w⟩ := h; exact gone_ok (unsuiteK I1 ok) hN hi hln fun t' I2 => ⟨_, H1, I2, w⟩
  | ret u => obtain ⟨y, σ1, H1, I1, ry, w⟩ := h; exact gone_ok (unsuiteK I1 ok) hN hi hln fun t' I2 => ⟨y, _, H1, I2, ry, w⟩
/-- the clause, for an exception that has been noted -/
theorem clause_keep {a : Addr} {B : Heap} {t0 t : Shared} (hs : X.stack = X.env :: X.outer) (hf : X.env.frame = some X.env.locals) (hex : X.ex = []) (hN : X.N.Nodup) (hi : X.N[i]? = some n) (hln : X.env.kindOf n = some .local) (hc : Names X x c) (tk : Takes X Wout)
    (hsu : ∀ (a : Addr) (pn : List (Addr × Obj)), PSs (X.suite a pn) (st₀ :: suite) (ts a))
    (J : Inv X pins σ H t0) (stays : ∀ b o, t0.heap.get? b = some o → b ∉ frs X.stack → B.get? b = some o) (up : t0.heap.UpToSlots t.heap) (os : t.os = t0.os) (ag : AllBare t.gens) (na : H a = none)
    (fl : HandSPX.FlyingZ B (X.env :: X.outer) a (Zc cls d) t.heap) (w : wKeep X.K c i ts Wout D cls d σ H) :
    wpAny (model X.prog X.w) X.A (handleBy (.ref a) X.env [.ExceptHandler (some (.Name x np)) (some n) (st₀ :: suite) pos']) (SP X pins D) X.xe t := by
  obtain ⟨b, eb, yes, no⟩ := w
  obtain ⟨ob, fs, eo, zo, fo⟩ := fl.there
  have away : a ∉ frs X.stack := by rw [hs]; exact apart_of fl.2.2.1 eo fo
  have aL : a ≠ X.env.locals := fun z => away (by rw [hs]; exact List.mem_filterMap.mpr ⟨X.env, List.mem_cons_self, by rw [hf, z]⟩)
  have aF : a ∉ X.fs := fun m => away (by
    obtain ⟨e, me, q⟩ := List.mem_filterMap.mp m
    rw [hs]
    exact List.mem_filterMap.mpr ⟨e, List.mem_cons_of_mem _ me, q⟩)
  have nt0 : t0.heap.get? a = none := by
    by_cases e : t0.heap.get? a = none
    · exact e
    · obtain ⟨o, eo'⟩ := Option.ne_none_iff_exists'.mp e
      have z := stays a o eo' away
      rw [fl.2.1] at z
      cases z
  have nw := NewAt.of J hex nt0
  have It : Inv X pins σ H t := J.landed stays fl.1 up os ag
  have Is := It.suite eo fo na aL aF
  refine wpAny_handleBy_cons (codeAny_handlers_test ?_) (by intro q; cases q)
  have ask : ∀ {Q : Value → Shared → Prop} {E : Value → Shared → Prop}, Q c t → wpAny (model X.prog X.w) (X.A.mark (some (.ref a))) (eval (.Name x np) X.env) Q E t := fun {Q E} q => by
    obtain ⟨h1, h2, h3 | ⟨h3, h4, h5⟩⟩ := hc
    · exact ld_glob (X := X.suite a ((a, ob) :: (X.pn ++ pins))) Is h1 h3 q h2
    · exact ld_blt (X := X.suite a ((a, ob) :: (X.pn ++ pins))) Is h1 h3 h4 q h5 h2
  have isOf := PySem.W.exm_one (M := model X.prog X.w) It.kIn (fun A Q E s k q => wpAny_typeOf_ref (k _ _ eo) (by rw [zo.1]; exact q)) eb
  refine ask (isOf.here ?_)
  cases b with
  | true =>
    refine codeAny_handlers_suite_as (HandSPX.lands_againZ fl fun h2 fl2 up2 => ?_)
    obtain ⟨ob2, fs2, eo2, zo2, fo2⟩ := fl2.there
    have I2 : Inv X pins σ H { t with heap := h2 } := J.landed stays fl2.1 (up.trans up2) os ag
    have I3 := suiteK (adopt I2 na nw.first aL nw.cells nw.pinned (exK_ok eo2 zo2 fo2)) a
    refine store_ok (X := X.suite a (X.pn ++ pins)) (v := .ref a) I3 hN hi (.inl hln) rfl (fun t2 I4 => ?_) (.inr hln)
    exact wpAny_mono ((hsu a (X.pn ++ pins)).run [] t2 _ _ _ I4 (yes rfl a na)) (fun r t3 h => suite_end J.ok hN hi hln h) fun _ _ z => False.elim z
  | false =>
    show wpAny _ X.A (handleBy (.ref a) X.env []) _ _ _
    refine wpAny_handleBy_nil ?_
    obtain ⟨_, _, _, o1, fs1, T, _, _, e1, _, f1, g1, _⟩ := id fl
    have out : wpAny (model X.prog X.w) X.A (setFlight (.ref a) X.env.frame) (fun _ t4 => wpAny (model X.prog X.w) X.A (throw (.ref a) : Sem Flow) (SP X pins D) X.xe t4) X.xe t := by
      rw [hf]
      refine HandSPX.setFlight_upZ fl fun h4 hh up4 => wpAny_throw (tk _ _ ?_)
      exact ⟨a, B, t0, pins, σ, H, cls, d, rfl, J, stays, up.trans up4, .inr (.inr (by rw [hs]; exact hh)), na, os, ag, no rfl⟩
    unfold PySem.passOn
    refine wpAny_bind (wpAny_field e1 f1 g1 ?_)
    rw [if_neg (show ¬ ((Value.ref T == Value.none) = true) from by simp)]
    first
      | exact wpAny_bind (wpAny_pure (wpAny_bind out))
      | exact wpAny_bind out
/-- try: body / except x as n: suite, where the suite may keep the exception -/
theorem ps_try_keep (hs : X.stack = X.env :: X.outer) (hf : X.env.frame = some X.env.locals) (hex : X.ex = []) (hN : X.N.Nodup) (hi : X.N[i]? = some n) (hln : X.env.kindOf n = some .local) (hc : Names X x c) (tk : Takes X Wout)
    (hb : ∀ (W : WX) (pn : List (Addr × Obj)) (xe : Value → Shared → Prop), Takes (X.tr pn xe) W → PSs (X.tr pn xe) body (tb W))
    (hsu : ∀ (a : Addr) (pn : List (Addr × Obj)), PSs (X.suite a pn) (st₀ :: suite) (ts a)) :
    PS X (.Try body [.ExceptHandler (some (.Name x np)) (some n) (st₀ :: suite) pos'] [] [] pos) (fun D σ H => tb (wKeep X.K c i ts Wout D) D σ H) := by
  refine ⟨fun pins s σ H D I h => wpAny_Try_except ?_⟩
  have fr : X.A.frames = some (X.env :: X.outer) := by rw [I.ok.frames, hs]
  let catch_ : Value → Shared → Prop := fun e s₁ => wpAny (model X.prog X.w) X.A (noteFrame e X.env) (fun _ s₂ => wpAny (model X.prog X.w) X.A (setFlight e none) (fun _ s₃ =>
    wpAny (model X.prog X.w) X.A (handleBy e X.env [.ExceptHandler (some (.Name x np)) (some n) (st₀ :: suite) pos']) (SP X pins D) X.xe s₃) X.xe s₂) X.xe s₁
  have took : Takes (X.tr (X.pn ++ pins) catch_) (wKeep X.K c i ts Wout D) := fun u t ⟨a, B, t0, pins', σ', H', cls, d, eu, J, stays, up, sky, na, os, ag, w⟩ => by
    subst eu
    have sky2 : Sky B (X.env :: X.outer) a (Zc cls d) X.env.locals t.heap := by rw [← hs]; exact sky
    exact Sky.land Zc.steady fr hf sky2 fun h3 fl up3 => clause_keep (t := { t with heap := h3 }) hs hf hex hN hi hln hc tk hsu (J.ofTry I.ok) stays (up.trans up3) os ag na fl w
  refine wpAny_mono ((hb _ (X.pn ++ pins) catch_ took).run [] s σ H D (I.toTry _) h) (fun r t e => ?_) (fun _ _ e => e)
  cases r with
  | next => obtain ⟨σ1, H1, I1, q⟩ := e; exact wpAny_execs_nil ⟨σ1, H1, I1.ofTry I.ok, q⟩
  | brk => obtain ⟨σ1, H1, I1, q⟩ := e; exact ⟨σ1, H1, I1.ofTry I.ok, q⟩
  | cont => obtain ⟨σ1, H1, I1, q⟩ := e; exact ⟨σ1, H1, I1.ofTry I.ok, q⟩
  | ret u => obtain ⟨y, σ1, H1, I1, ry, q⟩ := e; exact ⟨y, σ1, H1, I1.ofTry I.ok, ry, q⟩
end
/-! ### isinstance of a kept exception -/
/-- what is asked of the exception's class -/
structure ExcIs (K : PySem.W.Frag) (C : Addr) : Prop where
  cl : (PySem.W.clsIn K C).isSome = true
  ga : PySem.W.findIn K (.ref C) "__getattribute__" = some (some (.builtin "BaseException.__getattribute__"))
  gg : ∃ g, PySem.W.findIn K (.ref C) "__getattr__" = some g
  sb : PySem.W.subIn K (.ref C) (.type "BaseException") = some true
  kl : PySem.W.findIn K (.ref C) "__class__" = some (some (.builtin "object.__class__"))
  gt : PySem.W.specialIn K (.builtin "object.__class__") "__get__" = some (some (.builtin "getset_descriptor.__get__"))
  tk : PySem.W.takesIn K (.builtin "object.__class__") = some true
  mr : PySem.W.mroIn K C (.type "object") = some true
def excIsB (K : PySem.W.Frag) (C : Addr) : Bool :=
  (PySem.W.clsIn K C).isSome && (decide (PySem.W.findIn K (.ref C) "__getattribute__" = some (some (.builtin "BaseException.__getattribute__"))) && ((PySem.W.findIn K (.ref C) "__getattr__").isSome && (decide (PySem.W.subIn K (.ref C) (.type "BaseException") = some true) &&
    (decide (PySem.W.findIn K (.ref C) "__class__" = some (some (.builtin "object.__class__"))) && (decide (PySem.W.specialIn K (.builtin "object.__class__") "__get__" = some (some (.builtin "getset_descriptor.__get__"))) &&
      (decide (PySem.W.takesIn K (.builtin "object.__class__") = some true) && decide (PySem.W.mroIn K C (.type "object") = some true)))))))
theorem ExcIs.of {K : PySem.W.Frag} {C : Addr} (h : excIsB K C = true) : ExcIs K C := by
  unfold excIsB at h
  simp only [Bool.and_eq_true, decide_eq_true_eq] at h
  obtain ⟨h1, h2, h3, h4, h5, h6, h7, h8⟩ := h
  exact ⟨h1, h2, Option.isSome_iff_exists.mp h3, h4, h5, h6, h7, h8⟩
def rIsE (K : PySem.W.Frag) : List V → Hp → VK → Prop := fun xs H Q => (∃ (a C : Addr) (c : V) (u : Value) (b : Bool), xs = [.ref a, c] ∧ ClsV c u ∧ H a = some (ExK (.ref C) none a) ∧ ExcIs K C ∧ PySem.W.kitOne K (.ref C) u = some b ∧ Q (.bl b) H) ∨ rIsi K xs H Q
section
variable {X : Cx}
theorem call_isE : CallR X (.builtin "isinstance") (rIsE X.K) := by
  intro pins s σ H xs us Q I r h
  rcases h with ⟨a, C, c, u, b, rfl, kc, ea, T, eb, q⟩ | h
  · obtain ⟨u1, u2, rfl, r1, r2⟩ := vals2 r
    cases (show u1 = Value.ref a from r1)
    have e2 := kc.eq r2
    subst e2
    obtain ⟨⟨oe, eo, z, vs, dt⟩, _, _⟩ := I.hok a _ ea
    obtain ⟨g, eg⟩ := T.gg
    have Z := PySem.W.kitx_exc (K := X.K) (x := a) (C := C) (ox := oe) (od := none) T.cl T.ga eg T.sb T.kl T.gt T.tk T.mr
    refine PySem.W.kia_one Z I.kIn ⟨eo, z.1, ?_, ?_⟩ eb (fun y => nomatch y) fun tk => ⟨.bl b, H, I.tok tk, rfl, q⟩
    · unfold PySem.W.notCls
      rw [dt]
    · rw [z.2]
      trivial
  · exact call_isi pins s σ H xs us Q I r h
theorem call_isEK (K : PySem.W.Frag) (h : X.K = K) : CallR X (.builtin "isinstance") (rIsE K) := h ▸ call_isE
end
/-! ### methods that may raise -/
/-- o.m() in a try -/
def tMethS (C : Addr) (m : Str) (sp : Sp) (E : L2.St → XK) (ta : TE) : TE := fun σ H Q => ta σ H fun v H1 => ∃ a dx fs, v = .ref a ∧ H1 a = some (.ins C dx fs) ∧ fs.lookup m = none ∧ sp [v] H1 Q (E σ)
section
variable {X : Cx} {CX : CXT} {k : Nat} {f C : Addr} {fd : FuncData} {ps : List Str} {sp : Sp} {E : L2.St → XK} {m : Str} {pos apos : Pos} {o : Expr} {ta : TE}
theorem pe_meth0S {pl : Sem Bool} (ho : PE X o ta) (c : Cls X.K C) (hm : Meth X.K C m f) (F : FnOk X.prog X.w X.K X.mg X.base CX k f fd ps sp) (hr : Room k X.A) (hb : Binds X.K fd ps []) (hx : ∀ σ, PassesAt CX X σ (E σ))
    (ht : eval (.Call (.Attribute o m apos) [] [] pos) X.env = (do
      let ov ← eval o X.env
      standAt apos.atName
      let (f, first) ← holding [ov] (getMethod ov m pl)
      callWith pos f first (backTo pos (starEach [] X.env)) (backToKw pos (keywordEach [] X.env))) := by rfl) : PE X (.Call (.Attribute o m apos) [] [] pos) (tMethS C m sp E ta) :=
  ⟨fun pins s σ H Q I h => PySem.W.methodCall_KW (pl := pl) (thn (ho.run pins s σ H _ I h) fun u t ⟨v, H1, I1, rv, a, dx, fs, ev, ea, l, q⟩ => by
    subst ev
    have eu : u = Value.ref a := rv
    subst eu
    exact getmeth_ok I1 ea c hm l (PySem.W.callWith_K0 (first := [.ref a]) I1.kIn hm.kp (run_fnS (us := [.ref a]) (vs := [.ref a]) F hr hb (hx σ) I1 (.cons rfl .nil) q))) ht⟩
end
section
variable {P : Program} {w : World} {K : PySem.W.Frag} {mg : Str → Option Value} {base : Heap} {m q : Str} {st : Stmt} {ps : List Str} {f : Addr} {fd : FuncData}
/-- a method that may raise -/
theorem _root_.Obj.MethAt.okX {N : List Str} {k : Nat} {sp : Sp} (D : Obj.MethAt K m q st ps f fd) (S : FnScope N ps (defScope st)) (len : ∀ vs H Q E, sp vs H Q E → vs.length = ps.length)
    (hbody : ∀ (cdv : Value) (A : Around) (outer : List Env) (s : Shared) (H : Hp) (vs : List V) (Q : VK) (E : XK), fd.code = cdv → Room k (A.deeper (envOfC q (defScope st) s.heap.objs.size f cdv)) → sp vs H Q E →
      ∃ t, PSs (cxOf (L2.CX P w) P w K mg base N q (defScope st) f cdv A outer s H E) (defBody st) t ∧ t { nx := fun _ H' => Q .non H', rt := Q } (L2.start N vs) H) : FnOk P w K mg base (L2.CX P w) (k + 1) f fd ps sp := by
  obtain ⟨_, _, _, _, _, _, _, cdv, _, _, rfl, lk, hcd, _, _⟩ := D.F.ex
  exact fn_of lk hcd S len fun A outer s H vs Q E hr h => hbody cdv A outer s H vs Q E rfl hr h
end
theorem mt_indexK {X : Cx} (K : PySem.W.Frag) (h : X.K = K) : MtR X "list.index" (rIndex K) := h ▸ mt_index
theorem mt_lcountK {X : Cx} (K : PySem.W.Frag) (h : X.K = K) : MtR X "list.count" (rCntI K) := h ▸ mt_lcount
section
variable {X : Cx} {T id : String} {name : Str} {r : V → List V → Hp → VK → Prop} {o e : Expr} {es : List Expr} {to : TE} {t : TA} {apos cpos : Pos}
theorem pe_bmK (K : PySem.W.Frag) (h : X.K = K) (pa : PlainAttrs T) (slot : Slot T name id) (hty : typeOf (.builtin id) = pure (.type "method_descriptor")) (hm : MtR X id r) (ho : PE X o to) (ha : PA X (e :: es) t)
    (hbase : attributeBase o name X.env (eval o X.env) = eval o X.env := by rfl)
    (few : ((backTo cpos (starEach (e :: es) X.env)).all (fun x => !x.1) && (backToKw cpos (keywordEach [] X.env)).all (fun x => x.1.isSome) && decide ((e :: es).length + ([] : List Keyword).length + (if ([] : List Keyword).isEmpty then 0 else 1) < 30)) = true := by rfl)
    (line : (apos.endLine == cpos.line) = true := by rfl) (hs : starEach (e :: es) X.env = (false, eval e X.env) :: starEach es X.env := by rfl) (pl : (backTo cpos (starEach es X.env)).any (·.1) = false := by rfl) :
    PE X (.Call (.Attribute o name apos) (e :: es) [] cpos) (tBM K T r to t) := h ▸ pe_bm pa slot hty hm ho ha hbase few line hs pl
end
end Caught

set_option Elab.async false
set_option linter.all false
set_option maxRecDepth 100000
set_option maxHeartbeats 2000000
/-! Wipe: names of a block that are set and wiped; a state told otherwise. -/
namespace Wipe
open PySem PySem.Spec PyProof.Rows L2
theorem wipe_out : ∀ {vs : List Nat} {σ : L2.St} {i : Nat} {a : Option V}, i ∉ vs → wipe (σ.set i a) vs = (wipe σ vs).set i a
  | [], _, _, _, _ => rfl
  | j :: r, σ, i, a, h => by
    show (wipe (σ.set i a) r).set j none = ((wipe σ r).set j none).set i a
    rw [wipe_out fun z => h (List.mem_cons_of_mem _ z)]
    exact List.set_comm _ _ (fun e => h (by rw [e]; exact List.mem_cons_self))
theorem wipe_in : ∀ {vs : List Nat} {σ : L2.St} {i : Nat} {a : Option V}, i ∈ vs → wipe (σ.set i a) vs = wipe σ vs
  | j :: r, σ, i, a, h => by
    show (wipe (σ.set i a) r).set j none = (wipe σ r).set j none
    by_cases hr : i ∈ r
    · rw [wipe_in hr]
    · have e : i = j := (List.mem_cons.mp h).resolve_right hr
      rw [wipe_out hr, e, List.set_set]
theorem wipe_idem : ∀ {vs : List Nat} {σ : L2.St}, wipe (wipe σ vs) vs = wipe σ vs
  | [], _ => rfl
  | j :: r, σ => by
    have h : wipe ((wipe σ r).set j none) (j :: r) = wipe (wipe σ r) (j :: r) := wipe_in List.mem_cons_self
    show wipe ((wipe σ r).set j none) (j :: r) = _
    rw [h]
    show (wipe (wipe σ r) r).set j none = (wipe σ r).set j none
    rw [wipe_idem]
section
variable {vs : List Nat} {σ : L2.St} {i1 i2 i3 i4 i5 : Nat} {a1 a2 a3 a4 a5 : Option V}
theorem wipe1 (h1 : i1 ∈ vs) : wipe ((wipe σ vs).set i1 a1) vs = wipe σ vs := (wipe_in h1).trans wipe_idem
theorem wipe4 (h1 : i1 ∈ vs) (h2 : i2 ∈ vs) (h3 : i3 ∈ vs) (h4 : i4 ∈ vs) : wipe (((((wipe σ vs).set i1 a1).set i2 a2).set i3 a3).set i4 a4) vs = wipe σ vs := (wipe_in h4).trans ((wipe_in h3).trans ((wipe_in h2).trans (wipe1 h1)))
theorem wipe5 (h1 : i1 ∈ vs) (h2 : i2 ∈ vs) (h3 : i3 ∈ vs) (h4 : i4 ∈ vs) (h5 : i5 ∈ vs) : wipe ((((((wipe σ vs).set i1 a1).set i2 a2).set i3 a3).set i4 a4).set i5 a5) vs = wipe σ vs := (wipe_in h5).trans (wipe4 h1 h2 h3 h4)
end
theorem st_lit {t : TS} {D : Ends} {σ : L2.St} {H : Hp} (σ' : L2.St) (e : σ = σ') (h : t D σ' H) : t D σ H := e ▸ h
/-- a statement and what follows, met at J -/
theorem st_seqJ {a b : TS} {D : Ends} {σ : L2.St} {H : Hp} (J : L2.St → Hp → Prop) (h2 : ∀ σ' H', J σ' H' → b D σ' H') (h1 : ∀ N : L2.St → Hp → Prop, (∀ σ' H', J σ' H' → N σ' H') → a { D with nx := N } σ H) : tSeq a b D σ H := h1 (b D) h2
theorem st_tup {ts : TA} {σ : L2.St} {H : Hp} {Q : VK} (h : ts σ H fun xs H1 => xs.length ≤ sizeLine ∧ ∀ p, H1 p = none → Q (.ref p) (upd H1 p (.tup xs))) : tTup ts σ H Q := h
theorem st_nil {σ : L2.St} {H : Hp} {Q : List V → Hp → Prop} (h : Q [] H) : tNil σ H Q := h
theorem st_c {v : V} {σ : L2.St} {H : Hp} {Q : VK} (h : Q v H) : tC v σ H Q := h
theorem st_var {i : Nat} {v : V} {σ : L2.St} {H : Hp} {Q : VK} (e : σ[i]? = some (some v)) (h : Q v H) : tVar i σ H Q := ⟨v, e, h⟩
end Wipe

set_option Elab.async false
set_option linter.all false
set_option maxRecDepth 100000
set_option maxHeartbeats 2000000
/-! Txts: texts: rules that name K, all over any walk, numbers as texts, joined words. -/
namespace Txts
open PySem PySem.Spec PyProof.Rows L2 GxR GX Tree Kit Data Comps Purse
section
variable {X : Cx}
def rJoin (K : PySem.W.Frag) : V → List V → Hp → VK → Prop := fun x xs H Q => ∃ a p, ∃ ys : List Str, x = .str a ∧ xs = [.ref p] ∧ (SqL K H p (ys.map V.str) ∨ SqT K H p (ys.map V.str)) ∧ (ys.map (·.length)).sum + ys.length * a.length ≤ 16777216 ∧ Q (.str (Txt.join a ys)) H
theorem pe_joinK (K : PySem.W.Frag) (h : X.K = K) {o e : Expr} {to te : TE} {apos pos : Pos} (ho : PE X o to) (he : PE X e te) (hs : starEach [e] X.env = [(false, eval e X.env)] := by rfl)
    (hb : attributeBase o ("join" : Str) X.env (eval o X.env) = eval o X.env := by rfl) (hl : (apos.endLine == pos.line) = true := by rfl) : PE X (.Call (.Attribute o "join" apos) [e] [] pos) (tM1 (rJoin K) to te) := h ▸ pe_join ho he hs hb hl
def rTupIx (K : PySem.W.Frag) : V → List V → Hp → VK → Prop := fun x xs H Q => ∃ p, ∃ ys : List Str, ∃ z j, x = .ref p ∧ xs = [.str z] ∧ SqT K H p (ys.map V.str) ∧ ys[j]? = some z ∧ (∀ m, m < j → ys[m]? ≠ some z) ∧ Q (.int (j : Nat)) H
theorem mt_tup_indexK (K : PySem.W.Frag) (h : X.K = K) : MtR X "tuple.index" (rTupIx K) := h ▸ mt_tup_index
theorem pt_truthK (K : PySem.W.Frag) (h : X.K = K) {a : Expr} {ta : TE} (ha : PE X a ta) (he : ∀ whole, isTrue a X.env whole = (do let v ← whole; standAt a.pos; holding [v] (truthy v))) : PT X a (fun σ H Q => ta σ H fun x H' => ∃ k, TruV K x H' k ∧ Q k H') := h ▸ pt_truth ha he
theorem pe_orTK (K : PySem.W.Frag) (h : X.K = K) {a b : Expr} {ta tb : TE} {rest : List Expr} {pos : Pos} (ha : PE X a ta) (hb : PE X (.BoolOp .Or (b :: rest) pos) tb) : PE X (.BoolOp .Or (a :: b :: rest) pos) (tOrT K ta tb) := h ▸ pe_orT ha hb
/-- str of a number, of a text -/
def rStrAny : List V → Hp → VK → Prop := fun xs H Q => (∃ i : Int, xs = [.int i] ∧ i.natAbs.log2 < 1920 ∧ Q (.str (toString i)) H) ∨ ∃ a, xs = [.str a] ∧ Q (.str a) H
theorem call_str_any : CallR X (.type "str") rStrAny := by
  intro pins s σ H xs us Q I r h
  rcases h with h | h
  · exact call_str_int pins s σ H xs us Q I r h
  · exact SkE.call_str_str pins s σ H xs us Q I r h
end
theorem st_cb {r : List V → Hp → VK → Prop} {t : TA} {σ : L2.St} {H : Hp} {Q : VK} (h : t σ H fun vs H1 => r vs H1 Q) : tCB r t σ H Q := h
theorem st_andv {ta tb : TE} {σ : L2.St} {H : Hp} {Q : VK} (h : ta σ H fun x H1 => ∃ c, x = .bl c ∧ if c = true then tb σ H1 Q else Q (.bl false) H1) : tAndV ta tb σ H Q := h
theorem st_orv {ta tb : TE} {σ : L2.St} {H : Hp} {Q : VK} (h : ta σ H fun x H1 => ∃ c, x = .bl c ∧ if c = true then Q (.bl true) H1 else tb σ H1 Q) : tOrV ta tb σ H Q := h
theorem orV {a b : Bool} {A : Prop} {R : Bool → Prop} (q : R (a || b)) (h1 : a = false → R b → A) : if a = true then R true else A := by
  cases a with
  | true => rw [if_pos rfl]; exact q
  | false => rw [if_neg (by decide)]; exact h1 rfl q
/-- a tuple of the text's top without a dict -/
def tupDB (K : PySem.W.Frag) (a : Addr) : Bool := match K.lookup a with
  | some o => decide (o.cls = Value.type "tuple") && decide (o.dict = none)
  | none => false
theorem tupDB_ok {K : PySem.W.Frag} {a : Addr} (h : tupDB K a = true) : ∃ o, K.lookup a = some o ∧ o.cls = Value.type "tuple" ∧ o.dict = none := by
  unfold tupDB at h
  cases e : K.lookup a with
  | none => rw [e] at h; cases h
  | some o =>
    rw [e] at h
    obtain ⟨h1, h2⟩ := Bool.and_eq_true_iff.mp h
    exact ⟨o, rfl, of_decide_eq_true h1, of_decide_eq_true h2⟩
/-! ### walks -/
theorem its_at {B : List Addr} {H : Hp} (x : Str) : ItAt (Its x) B H x.cps.size (fun i => .str ⟨#[x.cps.toList.getD i 0]⟩) :=
  ⟨fun i H' h _ => h, fun H' _ => Nat.le_refl _, fun i H' y H'' hi k ⟨e, c, e1, e2⟩ => by
    refine ⟨e, ?_⟩
    rw [e2, List.getD_eq_getElem?_getD, Array.getElem?_toList, e1]
    rfl⟩
theorem itt_at {K : PySem.W.Frag} {B : List Addr} {H : Hp} {a : Addr} {xs : List V} (h : H a = some (.tup xs)) (n : a ∉ B) : ItAt (Itt K a) B H xs.length (fun i => xs.getD i .non) :=
  ⟨fun i H' hi k => ⟨xs, xs[i], SqT.of (k.tup n h), by simp [hi]⟩, fun H' k => ⟨xs, SqT.of (k.tup n h), Nat.le_refl _⟩, fun i H' x H'' hi k y => by
    obtain ⟨rfl, y⟩ := y
    have := y xs (SqT.of (k.tup n h))
    exact ⟨rfl, by rw [List.getD_eq_getElem?_getD, this]; rfl⟩⟩
section
variable {P : Addr} {g : TG} {te : TE} {vs : List Nat} {σ : L2.St} {H : Hp} {Q : VK}
/-- what all over the walk J asks -/
def AllG (P : Addr) (J : It) (g : TG) (te : TE) (vs : List Nat) (σ : L2.St) (H : Hp) (Q : VK) : Prop :=
  TabG H P ∧ ∀ H2, Tabbed P H H2 → ∃ W : Nat → Nat → Hp → Prop, (∃ m, W 0 m H2) ∧ GTurns J g tYes te vs σ W (fun H => Q (.bl true) H) (consAll fun b H => Q (.bl b) H)
theorem all_use {wi : TI} (h : wi σ H fun J H1 => AllG P J g te vs σ H1 Q) : tAllG P wi g tYes te vs σ H Q := h
/-- all(e for x in ..) over any walk -/
theorem all_at {J : It} {N : Nat} {f : Nat → V} (It : ItAt J [] H N f) {p : Nat → Bool} (hT : TabG H P)
    (step : ∀ i H', i < N → Kx [] H H' → ∀ R : Bool → Hp → Prop, (∀ H'', Kx [] H' H'' → R (p i) H'') → g (f i) (wipe σ vs) H' fun σ2 H2 => wipe σ2 vs = wipe σ vs ∧ te σ2 H2 fun y H4 => ∃ b, y = .bl b ∧ R b H4)
    (q : ∀ H', Kx [] H H' → Q (.bl ((List.range N).all p)) H') :
    AllG P J g te vs σ H Q := by
  refine ⟨hT, fun H2 ht => ?_⟩
  refine ⟨fun i m H' => m = N - i ∧ i ≤ N ∧ Kx [] H H' ∧ ∀ j, j < i → p j = true, ⟨N, by simp, Nat.zero_le _, Kx.tabbed hT ht, fun j hj => absurd hj (Nat.not_lt_zero _)⟩, ?_⟩
  rintro i m H' ⟨rfl, hi, k, hp⟩
  by_cases hlt : i < N
  · refine .inr ⟨It.go i H' hlt k, fun H'' => Kx [] H H'' ∧ p i = true, fun H'' z => ⟨N - (i + 1), by omega, rfl, hlt, z.1, fun j hj => ?_⟩, fun x H5 y => ?_⟩
    · rcases Nat.lt_or_eq_of_le (Nat.le_of_lt_succ hj) with h | h
      · exact hp j h
      · rw [h]; exact z.2
    · obtain ⟨rfl, rfl⟩ := It.yld i H' x H5 hlt k y
      refine step i H5 hlt k (fun b H4 => if b = true then (Kx [] H H4 ∧ p i = true) else Q (.bl false) H4) (fun H'' k2 => ?_)
      cases hb : p i with
      | true => exact ⟨k.trans k2, rfl⟩
      | false =>
        have hall : (List.range N).all p = false := by
          rw [Bool.eq_false_iff]
          intro z
          rw [List.all_eq_true.mp z i (List.mem_range.mpr hlt)] at hb
          cases hb
        have := q H'' (k.trans k2)
        rw [hall] at this
        exact this
  · have e : i = N := by omega
    subst e
    refine .inl ⟨It.stop H' k, ?_⟩
    have := q H' k
    rw [show (List.range i).all p = true from List.all_eq_true.mpr fun j hj => hp j (List.mem_range.mp hj)] at this
    exact this
theorem range_all {α : Type} (l : List α) (d : α) (p : α → Bool) : (List.range l.length).all (fun i => p (l.getD i d)) = l.all p := by
  rw [Bool.eq_iff_iff, List.all_eq_true, List.all_eq_true]
  constructor
  · intro h x hx
    obtain ⟨i, hi, rfl⟩ := List.getElem_of_mem hx
    have := h i (List.mem_range.mpr hi)
    rwa [List.getD_eq_getElem?_getD, List.getElem?_eq_getElem hi] at this
  · intro h i hi
    have hi := List.mem_range.mp hi
    rw [List.getD_eq_getElem?_getD, List.getElem?_eq_getElem hi]
    exact h _ (List.getElem_mem hi)
end
/-! ### numbers as texts, words -/
def nT (i : Int) : Str := Str.ofString (toString i)
theorem tl_nT {i : Int} (h : 0 ≤ i) : TL.tl (nT i) = TL.numL i.toNat := by
  obtain ⟨n, rfl⟩ : ∃ n : Nat, i = (n : Int) := ⟨i.toNat, by omega⟩
  exact TL.tl_num n
/-- what writes a number: one to four figures, no 0 ahead of another -/
def figB (w : Str) : Bool := (decide (1 ≤ (w.length : Int)) && decide ((w.length : Int) ≤ 4)) && (w.cps.toList.all (fun c => decide (c ∈ ("0123456789" : Str).cps.toList)) && (decide (w = ("0" : Str)) || !(Txt.startswith w ("0" : Str))))
theorem figs_tl : ("0123456789" : Str).cps.toList = [48, 49, 50, 51, 52, 53, 54, 55, 56, 57] := by decide +kernel
theorem zero_tl : TL.tl ("0" : Str) = [48] := by decide +kernel
theorem numL_digit {n c : Nat} (h : c ∈ TL.numL n) : 48 ≤ c ∧ c ≤ 57 := by
  by_cases z : 48 ≤ c ∧ c ≤ 57
  · exact z
  · exact absurd h (TL.numL_free (by omega))
theorem numL_head {n : Nat} (h : 0 < n) : ∃ c r, TL.numL n = c :: r ∧ c ≠ 48 := by
  induction n using Nat.strongRecOn with
  | _ n ih =>
    by_cases h10 : n < 10
    · exact ⟨48 + n, [], TL.numL_lt h10, by omega⟩
    · obtain ⟨c, r, e, nc⟩ := ih (n / 10) (by omega) (by omega)
      exact ⟨c, r ++ [48 + n % 10], by rw [TL.numL_step (by omega), e]; rfl, nc⟩
theorem nT_len {i : Int} (h : 0 ≤ i) (h2 : i ≤ 9999) : 1 ≤ (nT i).length ∧ (nT i).length ≤ 4 := by
  rw [TL.len_tl, tl_nT h]
  have h1 := TL.numL_ne i.toNat
  have h3 := TL.numL_len (n := i.toNat) (k := 4) (by decide) (by omega)
  refine ⟨?_, h3⟩
  cases e : TL.numL i.toNat with
  | nil => exact absurd e h1
  | cons _ _ => simp
theorem nT_digit {i : Int} (h : 0 ≤ i) {c : Nat} (hc : c ∈ TL.tl (nT i)) : 48 ≤ c ∧ c ≤ 57 := by
  rw [tl_nT h] at hc
  exact numL_digit hc
theorem figB_num {i : Int} (h : 0 ≤ i) (h2 : i ≤ 9999) : figB (nT i) = true := by
  obtain ⟨l1, l2⟩ := nT_len h h2
  unfold figB
  rw [decide_eq_true (show 1 ≤ ((nT i).length : Int) by omega), decide_eq_true (show ((nT i).length : Int) ≤ 4 by omega), figs_tl]
  have ha : (nT i).cps.toList.all (fun c => decide (c ∈ [48, 49, 50, 51, 52, 53, 54, 55, 56, 57])) = true := List.all_eq_true.mpr fun c hc => by
    have := nT_digit h hc
    refine decide_eq_true ?_
    simp only [List.mem_cons, List.not_mem_nil, or_false]
    omega
  rw [ha]
  by_cases h0 : i = 0
  · have e : nT i = ("0" : Str) := TL.ext_tl (by rw [tl_nT h, zero_tl, h0]; exact TL.numL_lt (by decide))
    rw [e]
    rfl
  · have e : Txt.startswith (nT i) ("0" : Str) = false := by
      rw [Bool.eq_false_iff]
      intro z
      unfold Txt.startswith at z
      have z2 := (Bool.and_eq_true_iff.mp z).2
      have z3 := PyProof.Rows.strSub_of_subAt z2
      have z4 := congrArg TL.tl z3
      rw [TL.tl_strSub, zero_tl, tl_nT h] at z4
      obtain ⟨c, r, e, nc⟩ := numL_head (n := i.toNat) (by omega)
      have e1 : ("0" : Str).length = 1 := by decide +kernel
      rw [e, e1] at z4
      exact nc (by simpa using z4)
    rw [e]
    simp
theorem nT_reads {i : Int} (h : 0 ≤ i) (h2 : i ≤ 9999) : intText? (nT i) = some i := PySem.W.KIN.num_reads h (by omega)
theorem nT_free {i : Int} (h : 0 ≤ i) {s : Nat} (hs : s < 48 ∨ 57 < s) : s ∉ TL.tl (nT i) := by
  rw [tl_nT h]
  exact TL.numL_free hs
/-! ### joined -/
theorem len_append (a b : Str) : (a ++ b).length = a.length + b.length := by
  show (a.cps ++ b.cps).size = a.cps.size + b.cps.size
  exact Array.size_append
theorem tl_append (a b : Str) : TL.tl (a ++ b) = TL.tl a ++ TL.tl b := by
  show (a.cps ++ b.cps).toList = _
  exact Array.toList_append
theorem join_two (s a b : Str) (r : List Str) : Txt.join s (a :: b :: r) = a ++ s ++ Txt.join s (b :: r) := by
  rw [TL.join_eq, TL.join_eq]
  rfl
theorem join_one (s a : Str) : Txt.join s [a] = a := by
  rw [TL.join_eq]
  rfl
/-- what stands behind the first part -/
def tailJ (s : Str) : List Str → Str
  | [] => Str.empty
  | a :: r => s ++ a ++ tailJ s r
theorem app_empty (a : Str) : a ++ Str.empty = a := TL.ext_tl (by rw [tl_append]; exact List.append_nil _)
theorem app_assoc (a b c : Str) : a ++ b ++ c = a ++ (b ++ c) := TL.ext_tl (by rw [tl_append, tl_append, tl_append, tl_append, List.append_assoc])
theorem join_tail (s : Str) : ∀ (a : Str) (r : List Str), Txt.join s (a :: r) = a ++ tailJ s r
  | a, [] => by rw [join_one]; exact (app_empty a).symm
  | a, b :: r => by
    rw [join_two, join_tail s b r]
    show _ = a ++ (s ++ b ++ tailJ s r)
    rw [app_assoc, app_assoc]
theorem tailJ_snoc (s : Str) : ∀ (l : List Str) (a : Str), tailJ s (l ++ [a]) = tailJ s l ++ (s ++ a)
  | [], a => by
    show s ++ a ++ Str.empty = Str.empty ++ (s ++ a)
    rw [app_empty]
    exact TL.ext_tl (by rw [tl_append Str.empty]; rfl)
  | b :: r, a => by
    show s ++ b ++ tailJ s (r ++ [a]) = s ++ b ++ tailJ s r ++ (s ++ a)
    rw [tailJ_snoc s r a, app_assoc (s ++ b)]
theorem tailJ_app (s : Str) : ∀ (l m : List Str), tailJ s (l ++ m) = tailJ s l ++ tailJ s m
  | [], m => TL.ext_tl (by rw [tl_append]; rfl)
  | b :: r, m => by
    show s ++ b ++ tailJ s (r ++ m) = s ++ b ++ tailJ s r ++ tailJ s m
    rw [tailJ_app s r m, app_assoc (s ++ b)]
end Txts

set_option Elab.async false
set_option linter.all false
set_option maxRecDepth 100000
set_option maxHeartbeats 2000000
/-! Sep: trees whose lists are told by their addresses, in order. -/
namespace Sep
open PySem PySem.Spec PyProof.Rows L2 GxR GX Tree Kit Comps Purse
mutual
/-- v is the tree d over H; its lists lie at as -/
inductive SepT (H : Hp) : V → PyData → List Addr → Prop
  | non : SepT H .non .none []
  | int (i : Int) : SepT H (.int i) (.int i) []
  | lst {a : Addr} {xs : List V} {ds : List PyData} {as : List Addr} : H a = some (.lst xs) → SepAll H xs ds as → SepT H (.ref a) (.list ds) (a :: as)
  | tup {a : Addr} {xs : List V} {ds : List PyData} {as : List Addr} : H a = some (.tup xs) → SepAll H xs ds as → SepT H (.ref a) (.tuple ds) as
inductive SepAll (H : Hp) : List V → List PyData → List Addr → Prop
  | nil : SepAll H [] [] []
  | cons {v : V} {vs : List V} {d : PyData} {ds : List PyData} {as bs : List Addr} : SepT H v d as → SepAll H vs ds bs → SepAll H (v :: vs) (d :: ds) (as ++ bs)
end
mutual
theorem SepT.tr {H : Hp} : ∀ {d : PyData} {v : V} {as : List Addr}, SepT H v d as → Tr [] H v d
  | _, _, _, .non => .non
  | _, _, _, .int i => .int i
  | _, _, _, .lst h t => .lst (by simp) h (SepAll.tr t)
  | _, _, _, .tup h t => .tup (by simp) h (SepAll.tr t)
theorem SepAll.tr {H : Hp} : ∀ {ds : List PyData} {vs : List V} {as : List Addr}, SepAll H vs ds as → TrAll [] H vs ds
  | _, _, _, .nil => .nil
  | _, _, _, .cons h t => .cons (SepT.tr h) (SepAll.tr t)
end
mutual
/-- what is written is none of it -/
theorem SepT.kx {C : List Addr} {H H' : Hp} (k : Kx C H H') (hC : ∀ b ∈ C, ∀ xs, H b ≠ some (.tup xs)) : ∀ {d : PyData} {v : V} {as : List Addr}, SepT H v d as → (∀ b ∈ C, b ∉ as) → SepT H' v d as
  | _, _, _, .non, _ => .non
  | _, _, _, .int i, _ => .int i
  | _, _, _, .lst h t, n => .lst (k.lst (fun z => n _ z (by simp)) h) (SepAll.kx k hC t fun b hb z => n b hb (List.mem_cons_of_mem _ z))
  | _, _, _, .tup h t, n => .tup (k.tup (fun z => hC _ z _ h) h) (SepAll.kx k hC t n)
theorem SepAll.kx {C : List Addr} {H H' : Hp} (k : Kx C H H') (hC : ∀ b ∈ C, ∀ xs, H b ≠ some (.tup xs)) : ∀ {ds : List PyData} {vs : List V} {as : List Addr}, SepAll H vs ds as → (∀ b ∈ C, b ∉ as) → SepAll H' vs ds as
  | _, _, _, .nil, _ => .nil
  | _, _, _, .cons h t, n => .cons (SepT.kx k hC h fun b hb z => n b hb (List.mem_append_left _ z)) (SepAll.kx k hC t fun b hb z => n b hb (List.mem_append_right _ z))
end
theorem SepT.up {H H' : Hp} {d : PyData} {v : V} {as : List Addr} (t : SepT H v d as) (k : Kx [] H H') : SepT H' v d as := t.kx k (fun b hb => nomatch hb) (fun b hb => nomatch hb)
theorem SepAll.up {H H' : Hp} {ds : List PyData} {vs : List V} {as : List Addr} (t : SepAll H vs ds as) (k : Kx [] H H') : SepAll H' vs ds as := t.kx k (fun b hb => nomatch hb) (fun b hb => nomatch hb)
mutual
theorem SepT.there {H : Hp} : ∀ {d : PyData} {v : V} {as : List Addr}, SepT H v d as → ∀ a ∈ as, ∃ xs, H a = some (.lst xs)
  | _, _, _, .non, _, h => nomatch h
  | _, _, _, .int i, _, h => nomatch h
  | _, _, _, .lst h t, a, m => by
    rcases List.mem_cons.mp m with rfl | m
    · exact ⟨_, h⟩
    · exact SepAll.there t a m
  | _, _, _, .tup h t, a, m => SepAll.there t a m
theorem SepAll.there {H : Hp} : ∀ {ds : List PyData} {vs : List V} {as : List Addr}, SepAll H vs ds as → ∀ a ∈ as, ∃ xs, H a = some (.lst xs)
  | _, _, _, .nil, _, h => nomatch h
  | _, _, _, .cons h t, a, m => (List.mem_append.mp m).elim (SepT.there h a) (SepAll.there t a)
end
theorem SepAll.snoc {H : Hp} : ∀ {vs : List V} {ds : List PyData} {as : List Addr} {v : V} {d : PyData} {bs : List Addr}, SepAll H vs ds as → SepT H v d bs → SepAll H (vs ++ [v]) (ds ++ [d]) (as ++ bs)
  | _, _, _, v, d, bs, .nil, h => by
    have := SepAll.cons h .nil
    rw [List.append_nil] at this
    exact this
  | _, _, _, v, d, bs, .cons (as := as) (bs := cs) h1 t, h => by
    rw [List.append_assoc]
    exact .cons h1 (SepAll.snoc t h)
theorem SepAll.ints {H : Hp} : ∀ ns : List Int, SepAll H (ns.map V.int) (ns.map PyData.int) []
  | [] => .nil
  | n :: ns => .cons (as := []) (.int n) (SepAll.ints ns)
/-- new things -/
structure New (H : Hp) (as : List Addr) : Prop where
  nd : as.Nodup
  fr : ∀ a ∈ as, H a = none
theorem New.nil (H : Hp) : New H [] := ⟨.nil, fun a h => nomatch h⟩
theorem New.back {H H1 : Hp} {as : List Addr} (n : New H1 as) (k : Kx [] H H1) : New H as := ⟨n.nd, fun a h => k.free (by simp) (n.fr a h)⟩
theorem New.append {H H1 : Hp} {as bs : List Addr} (n : New H as) (m : New H1 bs) (k : Kx [] H H1) (h : ∀ a ∈ as, H1 a ≠ none) : New H (as ++ bs) :=
  ⟨List.nodup_append.mpr ⟨n.nd, m.nd, fun a ha b hb e => h a ha (e ▸ m.fr b hb)⟩, fun a ha => (List.mem_append.mp ha).elim (n.fr a) fun hb => k.free (by simp) (m.fr a hb)⟩
section
variable {g : TG} {tt : TT} {te : TE} {vs : List Nat} {σ : L2.St} {H : Hp} {Q : VK}
/-- a comprehension whose items are new trees; G i: what the turn i makes, if anything -/
theorem lc_sep {J : It} {N : Nat} {f : Nat → V} (It : ItAt J [] H N f) (hN : N < sizeLine) (G : Nat → Option PyData)
    (step : ∀ i H', i < N → Kx [] H H' → ∀ (R : V → Hp → Prop) (R0 : Hp → Prop),
      (∀ y d as H'', G i = some d → Kx [] H' H'' → SepT H'' y d as → New H' as → R y H'') → (G i = none → ∀ H'', Kx [] H' H'' → R0 H'') →
      g (f i) (wipe σ vs) H' fun σ2 H2 => wipe σ2 vs = wipe σ vs ∧ tt σ2 H2 fun b H3 => if b = true then te σ2 H3 R else R0 H3)
    (q : ∀ D as H', Kx [] H H' → SepT H' (.ref D) (.list ((List.range N).filterMap G)) (D :: as) → New H (D :: as) → Q (.ref D) H') :
    CompG J g tt te vs σ H Q := by
  intro D hD
  refine lc_gen (B := []) It hN hD (A := fun i acc H' => ∃ as, SepAll H' acc ((List.range i).filterMap G) as ∧ New H as ∧ D ∉ as) ⟨[], .nil, New.nil H, by simp⟩ (fun i H' acc hi k hd ⟨as, hs, nw, nD⟩ R R0 hR hR0 => ?_) fun acc H' k hd ⟨as, hs, nw, nD⟩ => ?_
  · have er : (List.range (i + 1)).filterMap G = (List.range i).filterMap G ++ (match G i with | some d => [d] | none => []) := by
      rw [List.range_succ, List.filterMap_append]
      cases e : G i <;> simp [e]
    refine step i H' hi k R R0 (fun y d bs H'' e k2 ty nb => hR y H'' (k.trans k2) (k2.lst (by simp) hd) ?_) fun e H'' k2 => hR0 H'' (k.trans k2) (k2.lst (by simp) hd) ⟨as, by rw [er, e, List.append_nil]; exact hs.up k2, nw, nD⟩
    have hd2 := k2.lst (by simp) hd
    have nDb : D ∉ bs := fun z => by rw [nb.fr D z] at hd; cases hd
    have kD : Kx [D] H'' (upd H'' D (.lst (acc ++ [y]))) := Kx.put (by simp)
    have hDt : ∀ b ∈ [D], ∀ xs, H'' b ≠ some (.tup xs) := fun b hb xs e => by rw [List.mem_singleton.mp hb, hd2] at e; cases e
    have dis : ∀ a ∈ as, H' a ≠ none := fun a ha => by
      obtain ⟨xs, e⟩ := hs.there a ha
      rw [e]; simp
    refine ⟨as ++ bs, ?_, nw.append nb k dis, fun z => (List.mem_append.mp z).elim nD nDb⟩
    rw [er, e]
    exact ((hs.up k2).kx kD hDt fun b hb => by rw [List.mem_singleton.mp hb]; exact nD).snoc (ty.kx kD hDt fun b hb => by rw [List.mem_singleton.mp hb]; exact nDb)
  · exact q D as H' k (.lst hd hs) ⟨List.nodup_cons.mpr ⟨nD, nw.nd⟩, fun a ha => (List.mem_cons.mp ha).elim (fun e => e ▸ hD) (nw.fr a)⟩
end
end Sep

set_option Elab.async false
set_option linter.all false
set_option maxRecDepth 100000
set_option maxHeartbeats 2000000
/-! Raised: defs that may raise; a field of an exception that is kept. -/
namespace Raised
open PySem PySem.Spec PyProof.Rows L2 GxR Caught
/-- e.n, where e is an exception that has been kept -/
def tXk (K : PySem.W.Frag) (n : Str) (te : TE) : TE := fun σ H Q => te σ H fun x H1 => ∃ (a C dd : Addr) (fs : List (Str × V)) (v : V), x = .ref a ∧ H1 a = some (ExK (.ref C) (some dd) a) ∧ XfC K C ∧
  PySem.W.findIn K (.ref C) n = some none ∧ H1 dd = some (.xd fs) ∧ fs.lookup n = some v ∧ Q v H1
theorem pe_xk {X : Cx} {e : Expr} {te : TE} {pos : Pos} {n : Str} (K : PySem.W.Frag) (hK : X.K = K) (he : PE X e te) (hb : attributeBase e n X.env (eval e X.env) = eval e X.env := by rfl) :
    PE X (.Attribute e n pos) (tXk K n te) := by
  subst hK
  refine ⟨fun pins s σ H Q I h => ?_⟩
  refine attr_of hb (thn (he.run pins s σ H _ I h) fun u s1 hh => ?_)
  obtain ⟨x, H1, I1, rx, a, C, dd, fs, v, ex, eE, T, hno, ea, l, q⟩ := hh
  subst ex
  obtain rfl : u = Value.ref a := rx
  have hE : ObjOk X.prog X.w H1 s1.heap a (ExK (.ref C) (some dd) a) := I1.hok a _ eE
  obtain ⟨⟨oe, ha, hz, vs, hd⟩, _, _⟩ := hE
  have hx : ObjOk X.prog X.w H1 s1.heap dd (.xd fs) := I1.hok dd _ ea
  obtain ⟨mA, hns, hr⟩ := hx
  obtain ⟨od, ho, hl⟩ := lookIn_ns hns
  obtain ⟨u, hu, ru⟩ := RelO.some_of (v := v) (o := mA n) (by rw [← l]; exact hr n)
  have J : PySem.W.InstAt s1.heap a oe C (some od) := ⟨ha, hz.1, by unfold PySem.W.notCls; rw [hd] <;> rfl, by rw [hz.2]; exact ho⟩
  exact HandSPX.exc_get I1.kIn J T.ga T.gg T.exC (PySem.W.findObj_own T.hdC hno rfl (by rw [hl, hu])) (handed_of ru) ⟨v, H1, I1.tok _, ru, q⟩
section
variable {P : Program} {w : World} {K : PySem.W.Frag} {mg : Str → Option Value} {base : Heap} {x : Str} {st : Stmt} {ps : List Str} {f : Addr} {fd : FuncData}
/-- a def that may raise -/
theorem _root_.Kit.DefAt.okX {N : List Str} {k : Nat} {sp : Sp} (D : Kit.DefAt K mg x st ps f fd) (S : FnScope N ps (defScope st)) (len : ∀ vs H Q E, sp vs H Q E → vs.length = ps.length)
    (hbody : ∀ (cdv : Value) (A : Around) (outer : List Env) (s : Shared) (H : Hp) (vs : List V) (Q : VK) (E : XK), fd.code = cdv → Room k (A.deeper (envOfC x (defScope st) s.heap.objs.size f cdv)) → sp vs H Q E →
      ∃ t, PSs (cxOf (L2.CX P w) P w K mg base N x (defScope st) f cdv A outer s H E) (defBody st) t ∧ t { nx := fun _ H' => Q .non H', rt := Q } (L2.start N vs) H) : FnOk P w K mg base (L2.CX P w) (k + 1) f fd ps sp := by
  obtain ⟨oc, od, dV, kV, doc, pm, an, cdv, ct, osl, rfl, lk, hcd, _, _⟩ := D.F.ex
  exact fn_of lk hcd S len fun A outer s H vs Q E hr h => hbody cdv A outer s H vs Q E rfl hr h
end
/-- a class's function with defaults, as it stands behind the top -/
structure MethDf (K : PySem.W.Frag) (m q : Str) (st : Stmt) (ps : List Str) (dl : List V) (f : Addr) (fd : FuncData) : Prop where
  F : FunD K m q (defArgs st) (defBody st) (defScope st) dl [] f fd
  b : Binds K fd ps []
section
variable {P : Program} {w : World} {K : PySem.W.Frag} {mg : Str → Option Value} {base : Heap} {m q : Str} {st : Stmt} {ps : List Str} {dl : List V} {f : Addr} {fd : FuncData}
theorem MethDf.ok {N : List Str} {k : Nat} {sp : Sp} (D : MethDf K m q st ps dl f fd) (S : FnScope N ps (defScope st)) (len : ∀ vs H Q E, sp vs H Q E → vs.length = ps.length)
    (hbody : ∀ (cdv : Value) (A : Around) (outer : List Env) (s : Shared) (H : Hp) (vs : List V) (Q : VK) (E : XK), fd.code = cdv → Room k (A.deeper (envOfC q (defScope st) s.heap.objs.size f cdv)) → sp vs H Q E →
      ∃ t, PSs (cxOf CX0 P w K mg base N q (defScope st) f cdv A outer s H E).nox (defBody st) t ∧ t { nx := fun _ H' => Q .non H', rt := Q } (L2.start N vs) H) : FnOk P w K mg base CX0 (k + 1) f fd ps sp := by
  obtain ⟨oc, od, dV, kV, doc, pm, an, cdv, ct, osl, rfl, lk, hcd, _, _⟩ := D.F.ex
  exact fn_of lk hcd S len fun A outer s H vs Q E hr hsp => by
    obtain ⟨t, h, q⟩ := hbody cdv A outer s H vs Q E rfl hr hsp
    exact ⟨t, h.nox, q⟩
/-- all values are written -/
theorem binds_full {x qual : Str} {params : Arguments} {body : List Stmt} {scope : Scope} {dvs : List V} (F : FunD K x qual params body scope dvs [] f fd) (hd : dvs ≠ [])
    (h : ∀ (T : Addr) (kV doc pm : Value) (an : Option Addr) (cdv ct : Value) (us its : List Value), us.length = ps.length → its.length = dvs.length →
      ∃ k, bindArgs (PySem.W.fnOf x qual params body scope (.ref T) kV doc pm an cdv ct) ⟨us, []⟩ = seqItems? (.ref T) >>= k ∧ k (some its.toArray) = pure (ps.zip us)) : Binds K fd ps [] := by
  obtain ⟨ds, v, b⟩ := FunD.binds1 (ps := ps) F ps.length dvs.length hd (by omega) fun T kV doc pm an cdv ct us its l1 l2 => by
    obtain ⟨k, e1, e2⟩ := h T kV doc pm an cdv ct us its l1 l2
    exact ⟨k, e1, by rw [e2, ← l2, List.drop_length, List.append_nil]⟩
  rw [List.drop_length] at v
  cases v
  exact b
end
/-- an own exception class with its own __init__ at fI -/
structure OxF (K : PySem.W.Frag) (C fI : Addr) : Prop where
  ox : OexC K C
  ini : PySem.W.findIn K (.ref C) "__init__" = some (some (.ref fI))
  ti : PySem.W.typeIn K (.ref fI) = some (.type "function")
  xf : XfC K C
def oxcB (K : PySem.W.Frag) (C : Addr) : Bool := match K.lookup C with
  | some ⟨.type "type", _, .cls cd, sl⟩ => (match cd.mro, sl.toList with
    | .ref C' :: bm, [_, _, _, _, some (.builtin n), _] => decide (C' = C) && (decide (n = "ValueError.__new__") && (cd.hasDict && (!cd.hasDel && PySem.HandSPX.refsVE bm)))
    | _, _ => false)
  | _ => false
def oxB (K : PySem.W.Frag) (C fI : Addr) : Bool := oxcB K C && (decide (PySem.W.findIn K (.ref C) "__setattr__" = some (some (.builtin "object.__setattr__"))) && (decide (PySem.W.typeIn K (.ref C) = some (.type "type")) && (PySem.W.keepIn K (.ref C) &&
  (decide (PySem.W.findIn K (.ref C) "__init__" = some (some (.ref fI))) && (decide (PySem.W.typeIn K (.ref fI) = some (.type "function")) && xfB K C)))))
theorem oxcB_ok {K : PySem.W.Frag} {C : Addr} (h : oxcB K C = true) : ∃ nm q N bs bm sn sub ab col dd k0 k1 k2 k3 k5, K.lookup C = some (excClassObj nm q C N bs bm true sn sub ab col dd k0 k1 k2 k3 k5 "ValueError.__new__") ∧ PySem.HandSPX.refsVE bm = true := by
  unfold oxcB at h
  split at h
  · rename_i dd cd sl ho
    split at h
    · rename_i C' bm k0 k1 k2 k3 n k5 hm hs
      simp only [Bool.and_eq_true, decide_eq_true_eq, Bool.not_eq_true'] at h
      obtain ⟨rfl, rfl, h1, h2, h3⟩ := h
      obtain ⟨nm, bs, mro, ns, qn, hdc, sn, sb, ab, col, del⟩ := cd
      dsimp only at hm h1 h2
      subst hm h1 h2
      have es : sl = #[k0, k1, k2, k3, some (.builtin "ValueError.__new__"), k5] := by rw [← hs]
      exact ⟨nm, qn, ns, bs, bm, sn, sb, ab, col, dd, k0, k1, k2, k3, k5, by rw [ho, es], h3⟩
    · cases h
  · cases h
theorem oxB_ok {K : PySem.W.Frag} {C fI : Addr} (h : oxB K C fI = true) : OxF K C fI := by
  unfold oxB at h
  simp only [Bool.and_eq_true, decide_eq_true_eq] at h
  obtain ⟨h1, h2, h3, h4, h5, h6, h7⟩ := h
  have xf := xfB_ok h7
  exact ⟨⟨oxcB_ok h1, h2, xf.exC, h3, h4⟩, h5, h6, xf⟩
/-- isinstance of an exception that is kept and bears fields -/
def rIsX (K : PySem.W.Frag) : List V → Hp → VK → Prop := fun xs H Q => (∃ (a C d : Addr) (fs : List (Str × V)) (c : V) (u : Value) (b : Bool), xs = [.ref a, c] ∧ ClsV c u ∧ H a = some (ExK (.ref C) (some d) a) ∧ H d = some (.xd fs) ∧ ExcIs K C ∧ PySem.W.kitOne K (.ref C) u = some b ∧ Q (.bl b) H) ∨ rIsE K xs H Q
section
variable {X : Cx}
theorem call_isX : CallR X (.builtin "isinstance") (rIsX X.K) := by
  intro pins s σ H xs us Q I r h
  rcases h with ⟨a, C, d, fs, c, u, b, rfl, kc, ea, ed, T, eb, q⟩ | h
  · obtain ⟨u1, u2, rfl, r1, r2⟩ := vals2 r
    cases (show u1 = Value.ref a from r1)
    have e2 := kc.eq r2
    subst e2
    obtain ⟨⟨oe, eo, z, vs, dt⟩, _, _⟩ := I.hok a _ ea
    obtain ⟨g, eg⟩ := T.gg
    have hx : ObjOk X.prog X.w H s.heap d (.xd fs) := I.hok d _ ed
    obtain ⟨mA, hns, hr⟩ := hx
    obtain ⟨od, ho, hl⟩ := lookIn_ns hns
    have Z := PySem.W.kitx_exc (K := X.K) (x := a) (C := C) (ox := oe) (od := some od) T.cl T.ga eg T.sb T.kl T.gt T.tk T.mr
    refine PySem.W.kia_one Z I.kIn ⟨eo, z.1, ?_, ?_⟩ eb (fun y => nomatch y) fun tk => ⟨.bl b, H, I.tok tk, rfl, q⟩
    · unfold PySem.W.notCls
      rw [dt]
    · rw [z.2]
      exact ho
  · exact call_isE pins s σ H xs us Q I r h
theorem call_isXK (K : PySem.W.Frag) (h : X.K = K) : CallR X (.builtin "isinstance") (rIsX K) := h ▸ call_isX
end
end Raised

set_option Elab.async false
set_option linter.all false
set_option maxRecDepth 100000
set_option maxHeartbeats 4000000
/-! Sets2: set(l) of a long list of few different ints. -/
namespace Sets2
open PySem PySem.Spec PyProof.Rows L2 Sets
/-- ns has bb different ones at most -/
def Few (ns : List Int) (bb : Nat) : Prop := ∀ L : List Int, L.Nodup → (∀ j ∈ L, j ∈ ns) → L.length ≤ bb
section
variable {P : Program} {w : World} {A : Around} {E : Value → Shared → Prop} {s : Shared}
theorem set_update_few {I : Addr} {fp wr : List Addr} {G : Array GenState → Array GenState → Prop} {n : Nat} {Pv : Nat → Value → Prop} {St : Nat → Shared → Prop} {R : Result → Shared → Prop}
    (W : WalksS P w A.in1 I fp wr G n Pv St) (S : Addr) (apart : S ∉ fp) (ns : List Int) (hn : n = ns.length) {bb : Nat} (few : Few ns bb) (hb : bb + 1 < scanBound) (each : ∀ i v, Pv i v → ∃ k t, ns[i]? = some k ∧ v = .int k t) :
    ∀ (m i : Nat) (s : Shared), n - i = m → i ≤ n → St i s → (∃ L : List Int, L.Nodup ∧ (∀ j ∈ L, j ∈ ns.take i) ∧ SetR w s.heap S (fun j => decide (j ∈ ns.take i)) L.length) →
      (∀ s' c, Moved (S :: wr) G s s' → c ≤ bb → SetR w s'.heap S (fun j => decide (j ∈ ns)) c → R (.ok (.ret .none)) s') →
      codeAny (model P w) A (.builtin "set.update.loop" ⟨[.ref S, .ref I], []⟩) R s := by
  have apart' : S ∉ wr := fun h => apart (W.sub _ h)
  have more : ∀ b ∈ wr, b ∈ S :: wr := fun b z => List.mem_cons_of_mem _ z
  intro m
  induction m with
  | zero =>
    intro i s em hi st ⟨L, nd, sub, hS⟩ hR
    obtain rfl : i = n := by omega
    refine codeAny_builtin F.entry_set_update_loop ?_
    rw [Around.under_plainId F.plain_set_update_loop _]
    show wpAny _ A.in1 (pyNext (.ref I) >>= _) _ _ s
    refine wpAny_bind (W.done s _ _ st fun s' mv => ?_)
    show wpAny _ A.in1 (ret Value.none) _ _ s'
    have e : ns.take i = ns := List.take_of_length_le (by omega)
    rw [e] at hS sub
    exact wpAny_pure (hR s' _ (mv.mono more) (few L nd sub) (hS.at fun o z => mv.heap S o apart' z))
  | succ m ih =>
    intro i s em hi st ⟨L, nd, sub, hS⟩ hR
    have lt : i < n := by omega
    refine codeAny_builtin F.entry_set_update_loop ?_
    rw [Around.under_plainId F.plain_set_update_loop _]
    show wpAny _ A.in1 (pyNext (.ref I) >>= _) _ _ s
    refine wpAny_bind (W.item i s _ _ lt st fun v s' pv st' mv => ?_)
    obtain ⟨z, t, ez, rfl⟩ := each i v pv
    have hS' : SetR w s'.heap S (fun j => decide (j ∈ ns.take i)) L.length := hS.at fun o q => mv.heap S o apart' q
    have le : L.length ≤ bb := few L nd fun j hj => List.mem_of_mem_take (sub j hj)
    show wpAny _ A.in1 (holding [Value.int z t] (setAdd S (.int z t)) >>= _) _ _ s'
    refine wpAny_bind (wpAny_holding ?_)
    unfold setAdd
    refine wpAny_holding ?_
    refine wpAny_bind ((intKind P w).pyHash (k := z) (intKind_is _ _ _ _) ?_)
    refine setR_add_hashed (s := { s' with toks := s'.toks + 1 }) hS' (by omega) fun h' same hS2 => ?_
    have hS3 : SetR w h' S (fun j => decide (j ∈ ns.take (i + 1))) (if decide (z ∈ ns.take i) = true then L.length else L.length + 1) := hS2.congr fun j => by
      rw [List.take_add_one, ez]
      simp [List.mem_append]
    have mem1 : ∀ {j : Int}, j ∈ ns.take i → j ∈ ns.take (i + 1) := fun {j} q => by
      rw [List.take_add_one]
      exact List.mem_append_left _ q
    have next : ∃ L' : List Int, L'.Nodup ∧ (∀ j ∈ L', j ∈ ns.take (i + 1)) ∧ SetR w h' S (fun j => decide (j ∈ ns.take (i + 1))) L'.length := by
      by_cases c : z ∈ ns.take i
      · rw [if_pos (decide_eq_true c)] at hS3
        exact ⟨L, nd, fun j hj => mem1 (sub j hj), hS3⟩
      · rw [if_neg (by simpa using c)] at hS3
        refine ⟨z :: L, List.nodup_cons.mpr ⟨fun q => c (sub z q), nd⟩, fun j hj => ?_, hS3⟩
        rcases List.mem_cons.mp hj with rfl | q
        · rw [List.take_add_one, ez]
          simp
        · exact mem1 (sub j q)
    refine wpAny_pure ⟨plainId_quiet F.plain_set_update_loop _, ih (i + 1) _ (by omega) lt (W.frame _ s' _ _ st' (Nat.le_succ _) fun b hb o e => ?_) next fun s'' c2 mv2 le2 hS4 => ?_⟩
    · rw [same.2 b (fun h : b = S => apart (by rw [← h]; exact hb))]; exact e
    · refine hR s'' c2 (Moved.trans W.gtrans ((mv.mono more).then_heap (Nat.le_succ _) fun b o hb e => ?_) mv2) le2 hS4
      rw [same.2 b (fun h : b = S => hb (by rw [h]; exact List.mem_cons_self))]; exact e
theorem set_of_few {l : Addr} {items : Array Value} (ns : List Int) {bb : Nat} (few : Few ns bb) {Q : Value → Shared → Prop} (hh : A.handled = none) (hl : s.heap.IsList l items) (hit : IntsAre items.toList ns) (hb : bb + 1 < scanBound)
    (h : ∀ (h' : Heap) (tk c : Nat), SetR w h' s.heap.objs.size (fun j => decide (j ∈ ns)) c → c ≤ bb → (∀ b o, s.heap.get? b = some o → h'.get? b = some o) → Q (.ref s.heap.objs.size) { s with heap := h', toks := tk }) :
    wpAny (model P w) A (call (.type "set") [.ref l]) Q E s := by
  have hisz : items.size = ns.length := by simpa using hit.length
  obtain ⟨c, tl, hmro⟩ := F.called_set.mro
  have hmade := F.called_set.made
  have hsub := F.called_set.sub
  refine wpAny_call (codeAny_of_tree ?_)
  show wpAny _ _ (callAny (.type "set") _) _ _ _
  refine wpAny_pure ⟨Code.quiet_builtin _ (by decide +kernel), codeAny_builtin F.entry_type_call ?_⟩
  rw [Around.under_plain (weight_type_call_type "set" [.ref l] []) rfl]
  have h1 := F.called_set.notType
  have h2 := F.called_set.canCreate
  have hct := F.typeCall_set_1 (.ref l)
  repeat (any_goals (first | assumption | wp_step))
  have new := code_set_led1 (P := P) (w := w) (A := A.in1) (s := s) (.ref l) (E := E) (Q₁ := fun obj s₁ => obj = .ref s.heap.objs.size ∧ s₁ = { s with heap := s.heap.push (soO w) }) ⟨rfl, rfl⟩
  refine codeAny_mono new fun r s₁ hr => ?_
  match r, hr with
  | .error e, hr => exact hr
  | .ok .next, hr => exact hr.elim
  | .ok .brk, hr => exact hr.elim
  | .ok .cont, hr => exact hr.elim
  | .ok (.ret obj), hr =>
    obtain ⟨rfl, rfl⟩ := hr
    have hS : (s.heap.push (soO w)).get? s.heap.objs.size = some (soO w) := Heap.get?_push_size _ rfl
    have hT : Shared.TypeIs { s with heap := s.heap.push (soO w) } (.ref s.heap.objs.size) "set" := ⟨_, hS, rfl⟩
    have hli := F.called_set.init.lookup
    have hbi := F.called_set.init.bind (.ref s.heap.objs.size)
    repeat (any_goals (first | assumption | wp_step))
    refine codeAny_mono (codeAny_call_builtin (R := wants (fun r s₂ => r = .none ∧ ∃ h' tk c, s₂ = { s with heap := h', toks := tk } ∧ SetR w h' s.heap.objs.size (fun j => decide (j ∈ ns)) c ∧ c ≤ bb ∧
        (∀ b o, s.heap.get? b = some o → h'.get? b = some o)) E) F.called_set.init.plain F.entry_set_init (check_set_init_1 hT ?_)) fun r₂ s₂ hr₂ => ?_
    · obtain ⟨ol, hol, hcl, nl, hdl⟩ := hl
      obtain ⟨ocls, odict, odata, oslots⟩ := ol
      simp only at hcl hdl
      subst hcl; subst hdl
      have hol' : (s.heap.push (soO w)).get? l = some { cls := .type "list", dict := odict, data := .seq items nl, slots := oslots } := Heap.get?_push_of_some _ hol
      have hsls := F.sub_list_set
      have hslf := F.sub_list_frozenset
      have hne : (Value.type "list" == Value.type "dict") = false := by decide
      have hl1 : (s.heap.push (soO w)).IsList l items := ⟨_, hol', rfl, nl, rfl⟩
      unfold Builtin.«set.__init__» noKeywords Builtin.Frozenset.updateFrom
      generalize hPI : pyIter = PI
      wp_walk
      subst hPI
      refine wpAny_pyIter_list hl1 ?_
      refine wpAny_bind (wpAny_runValue ?_)
      have hlS : l < s.heap.objs.size := Heap.lt_size hol
      have sz1 : (s.heap.push (soO w)).objs.size = s.heap.objs.size + 1 := Heap.size_push ..
      have hneI : l ≠ (s.heap.push (soO w)).objs.size := by rw [sz1]; exact Nat.ne_of_lt (Nat.lt_succ_of_lt hlS)
      have hSf : s.heap.objs.size ∉ [(s.heap.push (soO w)).objs.size, l] := fun hm => by
        rcases List.mem_cons.mp hm with e | hm
        · rw [sz1] at e; exact absurd e (Nat.ne_of_lt (Nat.lt_succ_self _))
        · rcases List.mem_cons.mp hm with e | hm
          · exact absurd e (Nat.ne_of_gt hlS)
          · cases hm
      have hval : ∀ (i : Nat) (v : Value), items[i]? = some v → ∃ k t, ns[i]? = some k ∧ v = .int k t := fun i v hv => by
        have hi : i < ns.length := by rw [← hisz]; exact (Array.getElem?_eq_some_iff.mp hv).1
        obtain ⟨t, e⟩ := PyProof.Rows.IntsAre.int_at hit i v (by rw [Array.getElem?_toList]; exact hv)
        exact ⟨ns[i], t, List.getElem?_eq_getElem hi, by rw [e, List.getD_eq_getElem?_getD, List.getElem?_eq_getElem hi]; rfl⟩
      have hh3 : A.in1.in1.in1.handled = none := hh
      refine set_update_few ((Walks.list hh3 _ l hneI items).toS) s.heap.objs.size hSf ns hisz few hb hval (items.size - 0) 0 _ (by omega) (Nat.zero_le _)
        ⟨⟨_, Heap.get?_push_size _ rfl, rfl, rfl⟩, (hl1.push _)⟩ ⟨[], .nil, fun _ z => (nomatch z), setR_new_at (Heap.get?_push_of_some _ hS)⟩ fun s' c' hm hc' hS' => ?_
      obtain ⟨h', g2, d', tk', os'⟩ := s'
      obtain rfl : g2 = s.gens := hm.gens
      obtain rfl : d' = s.drawn := hm.drawn
      obtain rfl : os' = s.os := hm.os
      show wpAny _ _ _ _ _ _
      refine wpAny_pure ?_
      show wpAny _ _ (ret Value.none) _ _ _
      refine wpAny_pure ⟨rfl, h', tk', c', rfl, hS', hc', fun b o e => ?_⟩
      have hb0 : b < s.heap.objs.size := Heap.lt_size e
      refine hm.heap b o (fun hm => ?_) (Heap.get?_push_of_some _ (Heap.get?_push_of_some _ e))
      rcases List.mem_cons.mp hm with e | hm
      · exact absurd e (Nat.ne_of_lt hb0)
      · rcases List.mem_cons.mp hm with e | hm
        · rw [sz1] at e; exact absurd e (Nat.ne_of_lt (Nat.lt_succ_of_lt hb0))
        · cases hm
    · match r₂, hr₂ with
      | .error e, hr₂ => exact hr₂
      | .ok .next, hr₂ => exact hr₂.elim
      | .ok .brk, hr₂ => exact hr₂.elim
      | .ok .cont, hr₂ => exact hr₂.elim
      | .ok (.ret r), hr₂ =>
        obtain ⟨rfl, h', tk, cc, rfl, hS', hc', hk'⟩ := hr₂
        repeat (any_goals (first | assumption | wp_step))
        exact h _ _ _ hS' hc' hk'
end
section
variable {X : Cx}
/-- set(l), l a list of few different ints -/
def rSetF (w : World) : List V → Hp → VK → Prop := fun xs H Q => ∃ (a : Addr) (ns : List Int), xs = [.ref a] ∧ H a = some (.lst (ns.map V.int)) ∧ Few ns 60 ∧
  ∀ p c, c ≤ 60 → H p = none → Q (.ref p) (upd H p (SetO w p (fun j => decide (j ∈ ns)) c))
theorem call_setF (w : World) (hw : X.w = w) (hc : X.calm = true) : CallR X (.type "set") (rSetF w) := by
  subst hw
  intro pins s σ H vs us Q I r h
  obtain ⟨a, ns, rfl, ha, hz, q⟩ := h
  rw [Vals.ref1 r]
  obtain ⟨_, its, n, rv, e⟩ := I.hok a _ ha
  refine set_of_few ns hz (I.ok.hd hc) ⟨_, e, rfl, n, rfl⟩ (by simpa using ints_of_vals rv) (by unfold scanBound; omega) fun h' tk c R hle k => ?_
  have hn : H s.heap.objs.size = none := I.hok.fresh (Nat.le_refl _)
  exact ⟨.ref s.heap.objs.size, _, I.laid (t' := tk) k (Nat.le_refl _) (setO_new R), rfl, q _ c hle hn⟩
end
theorem few_range {n : Nat} {ns : List Int} (h : ∀ j ∈ ns, 0 ≤ j ∧ j < n) : Few ns n := by
  intro L nd sub
  have key : ∀ (m : Nat) (L : List Int), L.Nodup → (∀ j ∈ L, 0 ≤ j ∧ j < m) → L.length ≤ m := by
    intro m
    induction m with
    | zero =>
      intro L _ h
      cases L with
      | nil => exact Nat.le_refl _
      | cons a r => have := h a (by simp); omega
    | succ m ih =>
      intro L nd h
      have h1 := ih (L.erase (m : Int)) (nd.erase _) fun j hj => by
        have h2 := h j (List.mem_of_mem_erase hj)
        have h3 : j ≠ (m : Int) := fun z => by
          subst z
          exact nd.not_mem_erase hj
        omega
      have h2 : L.length ≤ (L.erase (m : Int)).length + 1 := by
        by_cases c : (m : Int) ∈ L
        · rw [List.length_erase_of_mem c]; omega
        · rw [List.erase_of_not_mem c]; omega
      omega
  exact key n L nd fun j hj => h j (sub j hj)
end Sets2

set_option Elab.async false
set_option linter.all false
set_option maxRecDepth 100000
set_option maxHeartbeats 2000000
/-! Two: a try with two clauses that keep; an exception made as a value, also without arguments. -/
namespace Two
open PySem PySem.Spec PyProof.Rows L2 GxR Caught Raised
section
variable {X : Cx} {x n x2 : Str} {c c2 cls : Value} {d : Option Addr} {i : Nat} {body suite suite2 : List Stmt} {st₀ st₂ : Stmt} {np pos pos' np2 pos2' : Pos} {tb : WX → TS} {ts ts2 : Addr → TS} {Wout : WX}
variable {pins : List (Addr × Obj)} {σ : L2.St} {H : Hp} {D : Ends}
/-- the first of two clauses, for an exception that has been noted -/
theorem clause_two {a : Addr} {B : Heap} {t0 t : Shared} (hs : X.stack = X.env :: X.outer) (hf : X.env.frame = some X.env.locals) (hex : X.ex = []) (hN : X.N.Nodup) (hi : X.N[i]? = some n) (hln : X.env.kindOf n = some .local) (hc : Names X x c) (hc2 : Names X x2 c2) (tk : Takes X Wout)
    (hsu : ∀ (a : Addr) (pn : List (Addr × Obj)), PSs (X.suite a pn) (st₀ :: suite) (ts a)) (hsu2 : ∀ (a : Addr) (pn : List (Addr × Obj)), PSs (X.suite a pn) (st₂ :: suite2) (ts2 a))
    (J : Inv X pins σ H t0) (stays : ∀ b o, t0.heap.get? b = some o → b ∉ frs X.stack → B.get? b = some o) (up : t0.heap.UpToSlots t.heap) (os : t.os = t0.os) (ag : AllBare t.gens) (na : H a = none)
    (fl : HandSPX.FlyingZ B (X.env :: X.outer) a (Zc cls d) t.heap) (w : wKeep X.K c i ts (wKeep X.K c2 i ts2 Wout D) D cls d σ H) :
    wpAny (model X.prog X.w) X.A (handleBy (.ref a) X.env [.ExceptHandler (some (.Name x np)) (some n) (st₀ :: suite) pos', .ExceptHandler (some (.Name x2 np2)) (some n) (st₂ :: suite2) pos2']) (SP X pins D) X.xe t := by
  obtain ⟨b, eb, yes, no⟩ := w
  obtain ⟨ob, fs, eo, zo, fo⟩ := fl.there
  have away : a ∉ frs X.stack := by rw [hs]; exact apart_of fl.2.2.1 eo fo
  have aL : a ≠ X.env.locals := fun z => away (by rw [hs]; exact List.mem_filterMap.mpr ⟨X.env, List.mem_cons_self, by rw [hf, z]⟩)
  have aF : a ∉ X.fs := fun m => away (by
    obtain ⟨e, me, q⟩ := List.mem_filterMap.mp m
    rw [hs]
    exact List.mem_filterMap.mpr ⟨e, List.mem_cons_of_mem _ me, q⟩)
  have nt0 : t0.heap.get? a = none := by
    by_cases e : t0.heap.get? a = none
    · exact e
    · obtain ⟨o, eo'⟩ := Option.ne_none_iff_exists'.mp e
      have z := stays a o eo' away
      rw [fl.2.1] at z
      cases z
  have nw := NewAt.of J hex nt0
  have It : Inv X pins σ H t := J.landed stays fl.1 up os ag
  have Is := It.suite eo fo na aL aF
  refine wpAny_handleBy_cons (codeAny_handlers_test ?_) (by intro q; cases q)
  have ask : ∀ {Q : Value → Shared → Prop} {E : Value → Shared → Prop}, Q c t → wpAny (model X.prog X.w) (X.A.mark (some (.ref a))) (eval (.Name x np) X.env) Q E t := fun {Q E} q => by
    obtain ⟨h1, h2, h3 | ⟨h3, h4, h5⟩⟩ := hc
    · exact ld_glob (X := X.suite a ((a, ob) :: (X.pn ++ pins))) Is h1 h3 q h2
    · exact ld_blt (X := X.suite a ((a, ob) :: (X.pn ++ pins))) Is h1 h3 h4 q h5 h2
  have isOf := PySem.W.exm_one (M := model X.prog X.w) It.kIn (fun A Q E s k q => wpAny_typeOf_ref (k _ _ eo) (by rw [zo.1]; exact q)) eb
  refine ask (isOf.here ?_)
  cases b with
  | true =>
    refine codeAny_handlers_suite_as (HandSPX.lands_againZ fl fun h2 fl2 up2 => ?_)
    obtain ⟨ob2, fs2, eo2, zo2, fo2⟩ := fl2.there
    have I2 : Inv X pins σ H { t with heap := h2 } := J.landed stays fl2.1 (up.trans up2) os ag
    have I3 := suiteK (adopt I2 na nw.first aL nw.cells nw.pinned (exK_ok eo2 zo2 fo2)) a
    refine store_ok (X := X.suite a (X.pn ++ pins)) (v := .ref a) I3 hN hi (.inl hln) rfl (fun t2 I4 => ?_) (.inr hln)
    exact wpAny_mono ((hsu a (X.pn ++ pins)).run [] t2 _ _ _ I4 (yes rfl a na)) (fun r t3 h => suite_end J.ok hN hi hln h) fun _ _ z => False.elim z
  | false => exact clause_keep hs hf hex hN hi hln hc2 tk hsu2 J stays up os ag na fl (no rfl)
/-- try: body / except x as n: suite / except x2 as n: suite2 -/
theorem ps_try_two (hs : X.stack = X.env :: X.outer) (hf : X.env.frame = some X.env.locals) (hex : X.ex = []) (hN : X.N.Nodup) (hi : X.N[i]? = some n) (hln : X.env.kindOf n = some .local) (hc : Names X x c) (hc2 : Names X x2 c2) (tk : Takes X Wout)
    (hb : ∀ (W : WX) (pn : List (Addr × Obj)) (xe : Value → Shared → Prop), Takes (X.tr pn xe) W → PSs (X.tr pn xe) body (tb W))
    (hsu : ∀ (a : Addr) (pn : List (Addr × Obj)), PSs (X.suite a pn) (st₀ :: suite) (ts a)) (hsu2 : ∀ (a : Addr) (pn : List (Addr × Obj)), PSs (X.suite a pn) (st₂ :: suite2) (ts2 a)) :
    PS X (.Try body [.ExceptHandler (some (.Name x np)) (some n) (st₀ :: suite) pos', .ExceptHandler (some (.Name x2 np2)) (some n) (st₂ :: suite2) pos2'] [] [] pos) (fun D σ H => tb (wKeep X.K c i ts (wKeep X.K c2 i ts2 Wout D) D) D σ H) := by
  refine ⟨fun pins s σ H D I h => wpAny_Try_except ?_⟩
  have fr : X.A.frames = some (X.env :: X.outer) := by rw [I.ok.frames, hs]
  let catch_ : Value → Shared → Prop := fun e s₁ => wpAny (model X.prog X.w) X.A (noteFrame e X.env) (fun _ s₂ => wpAny (model X.prog X.w) X.A (setFlight e none) (fun _ s₃ =>
    wpAny (model X.prog X.w) X.A (handleBy e X.env [.ExceptHandler (some (.Name x np)) (some n) (st₀ :: suite) pos', .ExceptHandler (some (.Name x2 np2)) (some n) (st₂ :: suite2) pos2']) (SP X pins D) X.xe s₃) X.xe s₂) X.xe s₁
  have took : Takes (X.tr (X.pn ++ pins) catch_) (wKeep X.K c i ts (wKeep X.K c2 i ts2 Wout D) D) := fun u t ⟨a, B, t0, pins', σ', H', cls, d, eu, J, stays, up, sky, na, os, ag, w⟩ => by
    subst eu
    have sky2 : Sky B (X.env :: X.outer) a (Zc cls d) X.env.locals t.heap := by rw [← hs]; exact sky
    exact Sky.land Zc.steady fr hf sky2 fun h3 fl up3 => clause_two (t := { t with heap := h3 }) hs hf hex hN hi hln hc hc2 tk hsu hsu2 (J.ofTry I.ok) stays (up.trans up3) os ag na fl w
  refine wpAny_mono ((hb _ (X.pn ++ pins) catch_ took).run [] s σ H D (I.toTry _) h) (fun r t e => ?_) (fun _ _ e => e)
  cases r with
  | next => obtain ⟨σ1, H1, I1, q⟩ := e; exact wpAny_execs_nil ⟨σ1, H1, I1.ofTry I.ok, q⟩
  | brk => obtain ⟨σ1, H1, I1, q⟩ := e; exact ⟨σ1, H1, I1.ofTry I.ok, q⟩
  | cont => obtain ⟨σ1, H1, I1, q⟩ := e; exact ⟨σ1, H1, I1.ofTry I.ok, q⟩
  | ret u => obtain ⟨y, σ1, H1, I1, ry, q⟩ := e; exact ⟨y, σ1, H1, I1.ofTry I.ok, ry, q⟩
end
/-! ### an exception as a value -/
section
variable {X : Cx} {e : Expr} {es : List Expr} {p pos : Pos}
def tMade (t : L2.St → Hp → XK → Prop) : TE := fun σ H Q => t σ H fun cls d H' => ∀ a, H' a = none → Q (.ref a) (upd H' a (ExK cls d a))
theorem pe_made {t : L2.St → Hp → XK → Prop} (he : PMk X e t) : PE X e (tMade t) := by
  refine ⟨fun pins s σ H Q I h => ?_⟩
  refine wpAny_mono (he pins s σ H _ I h) (fun u s1 hu => ?_) fun _ _ x => x
  obtain ⟨a, oe, vs, sI, H', cls, d, rfl, J, k, hne, ha, hz, hd, h1, na, os, ag, r, q⟩ := hu
  have K1 := J.laidN (t' := s1.toks) (h' := s1.heap) (o := ExK cls d a) k hne na (exK_ok ha hz hd)
  have K2 : Inv X pins σ (upd H' a (ExK cls d a)) s1 := K1.landed (B := s1.heap) (fun b o e _ => e) (fun _ _ e => e) (Heap.UpToSlots.refl _) os ag
  exact ⟨.ref a, _, K2, rfl, q a na⟩
/-- C(): all that is behind self is as written -/
theorem pmk_oex0 {CX : CXT} {x : Str} {C fI : Addr} {k : Nat} {fd : FuncData} {ps : List Str} {sp : Sp} {ds : List Value} {dvs : List V} (T : OexC X.K C) (iC : PySem.W.findIn X.K (.ref C) "__init__" = some (some (.ref fI))) (tI : PySem.W.typeIn X.K (.ref fI) = some (.type "function"))
    (F1 : FnOk X.prog X.w X.K X.mg X.base CX k fI fd ps sp) (hr : Room (k + 1) X.A) (hb : Binds X.K fd ps ds) (hd : Vals dvs ds) (hx : Passes CX X (fun _ _ _ => False)) (hg : Gl X x) (hm : X.mg x = some (.ref C))
    (hdb : (x == ("__debug__" : Str)) = false := by decide) : PMk X (.Call (.Name x p) [] [] pos) (tMkO C sp dvs tNil) := by
  intro pins s σ H Q I h
  obtain ⟨nm, q, N, bs, bm, sn, sub, ab, col, dd, k0, k1, k2, k3, k5, hC, hbm⟩ := T.cls
  refine wpAny_Call_Name_kw (ld_glob I hg hm ?_ hdb)
  refine PySem.W.callWith_K0 I.kIn T.kC ?_
  show wpAny _ _ (call (.ref C) []) _ _ _
  obtain ⟨hz, q1⟩ := h
  obtain ⟨hp, g, dr, tk, os⟩ := s
  have hsz : hp.objs.size ≤ hp.objs.size + 1 := Nat.le_succ _
  have hn : H (hp.objs.size + 1) = none := I.hok.fresh hsz
  have hq := q1 (hp.objs.size + 1) hn
  have kk : ∀ b o, hp.get? b = some o → ((hp.push (PySem.W.kdv_tup [])).push (PySem.HandSPX.excO C hp.objs.size)).get? b = some o := fun b o e => Heap.get?_push_of_some _ (Heap.get?_push_of_some _ e)
  have hget : ((hp.push (PySem.W.kdv_tup [])).push (PySem.HandSPX.excO C hp.objs.size)).get? (hp.objs.size + 1) = some (PySem.HandSPX.excO C hp.objs.size) := by heap_get
  have I2 : Inv X pins σ (upd H (hp.objs.size + 1) (exo (hp.objs.size + 1) C none)) ⟨(hp.push (PySem.W.kdv_tup [])).push (PySem.HandSPX.excO C hp.objs.size), g, dr, tk, os⟩ :=
    I.laid (t' := tk) (a := hp.objs.size + 1) (o := exo (hp.objs.size + 1) C none) (h' := (hp.push (PySem.W.kdv_tup [])).push (PySem.HandSPX.excO C hp.objs.size)) kk hsz (exo_ok hget)
  have r2 : Vals (V.ref (hp.objs.size + 1) :: ([] ++ dvs)) ([Value.ref (hp.objs.size + 1)] ++ ds) := .cons rfl hd
  have hl : (Value.ref (hp.objs.size + 1) :: [] ++ ds).length = ps.length := by
    have e := r2.length
    rw [F1.len _ _ _ _ hq] at e
    exact e.symm
  refine wpAny_call (PySem.HandSPX.call_own F.excBase_ValueError (fun Y => PySem.HandSPX.refsVE_contains Y bm hbm) (I.kIn _ _ hC) (PySem.W.looks_findIn I.kIn iC) (fun self => PySem.W.bind_fn I.kIn self tI) (Nat.zero_le _)
    (codeAny_mono (F1.run _ X.stack _ _ ⟨[Value.ref (hp.objs.size + 1)], []⟩ ([Value.ref (hp.objs.size + 1)] ++ ds) _ _ (fun _ _ _ => False) (hr.make C [] []) (I2.env0.make C [] []) (hb _ [Value.ref (hp.objs.size + 1)] I2.kIn hl) r2 hq) fun r s' hq' => ?_))
  cases r with
  | error er => exact hx pins σ _ _ er s' I2 hq'
  | ok fl =>
    cases fl with
    | ret u =>
      obtain ⟨v, H2, os2, bare2, un2, hok2, rv, ev, d, fs, ea, ed, hd1, q2⟩ := hq'
      subst ev
      obtain ⟨h2, g2, d2, t2, os'⟩ := s'
      exact ⟨rv, mk_end (raises_own T.exC T.tyC) I hsz kk un2 hok2 os2 bare2 ea ed hd1 q2⟩
    | next => exact False.elim hq'
    | brk => exact False.elim hq'
    | cont => exact False.elim hq'
theorem pe_made0 {CX : CXT} {x : Str} {C fI : Addr} {k : Nat} {fd : FuncData} {ps : List Str} {sp : Sp} {dvs : List V} (T : OexC X.K C) (iC : PySem.W.findIn X.K (.ref C) "__init__" = some (some (.ref fI))) (tI : PySem.W.typeIn X.K (.ref fI) = some (.type "function"))
    (F1 : FnOk X.prog X.w X.K X.mg X.base CX k fI fd ps sp) (hr : Room (k + 1) X.A) (hb : ∃ ds, Vals dvs ds ∧ Binds X.K fd ps ds) (hx : Passes CX X (fun _ _ _ => False)) (hg : Gl X x) (hm : X.mg x = some (.ref C))
    (hdb : (x == ("__debug__" : Str)) = false := by decide) : PE X (.Call (.Name x p) [] [] pos) (tMade (tMkO C sp dvs tNil)) := by
  obtain ⟨ds, hd, hb⟩ := hb
  exact pe_made (pmk_oex0 T iC tI F1 hr hb hd hx hg hm hdb)
end
/-- one value is left out, the last one is as written -/
theorem binds_less {K : PySem.W.Frag} {x qual : Str} {params : Arguments} {body : List Stmt} {scope : Scope} {dvs : List V} {f : Addr} {fd : FuncData} {ps : List Str} (F : FunD K x qual params body scope dvs [] f fd) (hd : dvs ≠ []) (hl : dvs.length ≤ ps.length)
    (h : ∀ (T : Addr) (kV doc pm : Value) (an : Option Addr) (cdv ct : Value) (us its : List Value), us.length = ps.length - dvs.length → its.length = dvs.length →
      ∃ k, bindArgs (PySem.W.fnOf x qual params body scope (.ref T) kV doc pm an cdv ct) ⟨us, []⟩ = seqItems? (.ref T) >>= k ∧ k (some its.toArray) = pure (ps.zip (us ++ its))) : ∃ ds, Vals dvs ds ∧ Binds K fd ps ds := by
  obtain ⟨ds, v, b⟩ := FunD.binds1 (ps := ps) F (ps.length - dvs.length) 0 hd (by omega) fun T kV doc pm an cdv ct us its l1 l2 => by
    obtain ⟨k, e1, e2⟩ := h T kV doc pm an cdv ct us its l1 l2
    exact ⟨k, e1, by rw [e2, List.drop_zero]⟩
  rw [List.drop_zero] at v
  exact ⟨ds, v, b⟩
end Two

set_option Elab.async false
set_option linter.all false
set_option maxRecDepth 100000
set_option maxHeartbeats 2000000
/-! Picks: comprehensions that pick, told by places; which refusal a kept exception is. -/
namespace Picks
open PySem PySem.Spec PyProof.Rows L2 GxR GX Tree Kit Data Loops Comps Caught Raised Enum
/-- [f(x) for x in J if p(x)], J over anything, the items no new things -/
theorem lc_pickV {g : TG} {tt : TT} {te : TE} {vs : List Nat} {σ : L2.St} {H : Hp} {Q : VK} {J : It} {N : Nat} {f : Nat → V} (It : ItAt J [] H N f) (hN : N < sizeLine) (p : Nat → Bool) (F : Nat → V)
    (step : ∀ i H', i < N → Kx [] H H' → ∀ (R : V → Hp → Prop) (R0 : Hp → Prop), (p i = true → ∀ H'', Kx [] H' H'' → R (F i) H'') → (p i = false → ∀ H'', Kx [] H' H'' → R0 H'') →
      g (f i) (wipe σ vs) H' fun σ2 H2 => wipe σ2 vs = wipe σ vs ∧ tt σ2 H2 fun b H3 => if b = true then te σ2 H3 R else R0 H3)
    (q : ∀ D H', Kx [] H H' → H D = none → H' D = some (.lst (((List.range N).filter p).map F)) → Q (.ref D) H') : CompG J g tt te vs σ H Q := by
  intro D hD
  refine lc_gen (B := []) It hN hD (A := fun i acc H' => acc = ((List.range i).filter p).map F) rfl (fun i H' acc hi k hd hacc R R0 hR hR0 => ?_) fun acc H' k hd hacc => ?_
  · subst hacc
    refine step i H' hi k R R0 (fun c H'' k2 => hR (F i) H'' (k.trans k2) (k2.lst (by simp) hd) ?_) (fun c H'' k2 => hR0 H'' (k.trans k2) (k2.lst (by simp) hd) ?_)
    · rw [List.range_succ, List.filter_append, List.map_append, show [i].filter p = [i] by simp [c]]
      rfl
    · rw [List.range_succ, List.filter_append, show [i].filter p = [] by simp [c], List.append_nil]
  · subst hacc
    exact q D H' k hD hd
/-! ### which refusal -/
/-- the refusals' names, in the order of the errors' file -/
def NM : List String := ["NoDay", "NoPlan", "NoNumbers", "NoRests", "NoLost", "NoBlock", "NoWorth", "NoHour", "TooMany", "DayOver", "NoName", "NoPlace", "NoRow", "NoText"]
/-- at a: a kept exception of the class at C -/
def Kept (C : Addr) (H : Hp) (a : Addr) : Prop := (∃ (d : Addr) (fs : List (Str × V)), H a = some (ExK (.ref C) (some d) a) ∧ H d = some (.xd fs)) ∨ H a = some (ExK (.ref C) none a)
theorem Kept.kx {C : Addr} {H H' : Hp} {a : Addr} (h : Kept C H a) (k : Kx [] H H') : Kept C H' a := by
  rcases h with ⟨d, fs, h1, h2⟩ | h
  · exact .inl ⟨d, fs, k.at (by simp) h1 (fun _ z => by cases z), k.at (by simp) h2 (fun _ z => by cases z)⟩
  · exact .inr (k.at (by simp) h fun _ z => by cases z)
/-- what the written part says of the class named nm -/
structure KIs (K : PySem.W.Frag) (cs : String → Addr) (nm : String) : Prop where
  ex : ExcIs K (cs nm)
  ve : PySem.W.kitOne K (.ref (cs nm)) (.type "ValueError") = some true
  own : ∀ x ∈ NM, PySem.W.kitOne K (.ref (cs nm)) (.ref (cs x)) = some (decide (x = nm))
section
variable {K : PySem.W.Frag} {cs : String → Addr} {nm : String} {H : Hp} {a : Addr} {Q : VK}
theorem is_gen {c : V} {u : Value} {b : Bool} (h : Kept (cs nm) H a) (W : ExcIs K (cs nm)) (cl : ClsV c u) (e : PySem.W.kitOne K (.ref (cs nm)) u = some b) (q : Q (.bl b) H) : rIsX K [.ref a, c] H Q := by
  rcases h with ⟨d, fs, h1, h2⟩ | h
  · exact .inl ⟨a, cs nm, d, fs, c, u, b, rfl, cl, h1, h2, W, e, q⟩
  · exact .inr (.inl ⟨a, cs nm, c, u, b, rfl, cl, h, W, e, q⟩)
theorem is_own (x : String) (h : Kept (cs nm) H a) (W : KIs K cs nm) (hx : x ∈ NM) (q : Q (.bl (decide (x = nm))) H) : rIsX K [.ref a, .ref (cs x)] H Q := is_gen h W.ex (.own _) (W.own x hx) q
theorem is_ve (h : Kept (cs nm) H a) (W : KIs K cs nm) (q : Q (.bl true) H) : rIsX K [.ref a, .ty "ValueError"] H Q := is_gen h W.ex (.ty _) W.ve q
end
end Picks

set_option Elab.async false
set_option linter.all false
set_option maxRecDepth 100000
set_option maxHeartbeats 2000000
/-! Dic1: a dict of one text by a text, shown. -/
namespace Dic1
open PySem PySem.Spec PyProof.Rows L2 GxR Tree Kit Data Small
def one (t x : Str) : HO := .dK [(.inr t, .str x)]
theorem one_kx {H H' : Hp} {a : Addr} {t x : Str} (h : H a = some (one t x)) (k : Kx [] H H') : H' a = some (one t x) := k.at (by simp) h fun _ z => by cases z
theorem one_ty {K : PySem.W.Frag} {H : Hp} {a : Addr} {t x : Str} (h : H a = some (one t x)) : TyX K H (.ref a) (.type "dict") := .base (.dK h)
def oneD (t x : Str) : PyData := .dict [(.str t, .str x)]
section
variable {X : Cx} {pins : List (Addr × Obj)} {σ : L2.St} {s : Shared}
theorem one_reads {H : Hp} {a : Addr} {t x : Str} (I : Inv X pins σ H s) (h : H a = some (one t x)) : Reads s.heap (.ref a) (oneD t x) [a] := by
  obtain ⟨_, _, vs, kv, o, es, n, e, hx, hd, _, hes, _⟩ := I.hok a _ h
  cases kv with
  | @cons _ b _ _ r rr =>
    cases rr
    obtain ⟨k, u⟩ := b
    obtain ⟨e1, ru⟩ := r
    have e1 : (.inr t : Key) = k := e1
    subst e1
    obtain ⟨tx, ru⟩ := ru
    have ru : u = Value.str x tx := ru
    generalize he : es.toList = el at hes
    cases hes with
    | cons hk hv hn =>
      cases hn
      rename_i y
      have hk : keyIs (.inr t) y.key = true := hk
      obtain ⟨i, t2, z, _⟩ | ⟨x2, t2, z, ek⟩ := keyIs_shape hk
      · cases z
      · cases z
        refine .dict (as := []) (bs := []) e hx.1 hd ?_ ?_
        · rw [he]
          show ReadsAll s.heap [y.key] [.str t] []
          rw [ek]
          exact .cons (as := []) (bs := []) (.str _ _) .nil
        · rw [he]
          show ReadsAll s.heap [y.val] [.str x] []
          have : y.val = u := hv
          rw [this, ru]
          exact .cons (as := []) (bs := []) (.str _ _) .nil
def rReprD : List V → Hp → VK → Prop := fun xs H Q => rRepr xs H Q ∨ ∃ a t x, xs = [.ref a] ∧ H a = some (one t x) ∧ (oneD t x).showable = true ∧ (oneD t x).shown.length ≤ sizeLine ∧ Q (.str (oneD t x).shown) H
theorem call_repr_one (hg : X.A.guards = some []) (hu : X.A.units + 64 < cLine) (hm : ∃ o, X.base.get? sysModules = some o) : CallR X (.builtin "repr") rReprD := by
  intro pins s σ H vs us Q I r h
  rcases h with h | ⟨a, t, x, rfl, ha, hs, hz, q⟩
  · exact call_repr_tree hg hu hm pins s σ H vs us Q I r h
  · cases r with
    | cons r rr =>
      cases rr
      rename_i u
      obtain rfl : u = Value.ref a := r
      have hr := one_reads I ha
      have fin : ∀ (h' : Heap) (t' tk : Nat), (∀ b o, s.heap.get? b = some o → h'.get? b = some o) → EP X pins σ Q (.str (oneD t x).shown t') { s with heap := h', toks := tk } := fun h' t' tk k => ⟨.str (oneD t x).shown, H, I.kept (t' := tk) k, ⟨t', rfl⟩, q⟩
      exact repr_of_reads' hr hs (fun _ z => by
        obtain ⟨o, e⟩ := hm
        have : sysModules = a := by simpa using z
        have h2 := (I.bs _ _ e).2
        rw [this, ha] at h2
        cases h2) hg (by have : (oneD t x).depth = 1 := rfl; omega) (fun _ _ e => e) (fun h' t tk k => fin h' t tk k) hz
end
end Dic1

set_option Elab.async false
set_option linter.all false
set_option maxRecDepth 100000
set_option maxHeartbeats 2000000
/-! Things: trees, and a dict of one text by itself: shown, of which type. -/
namespace Things
open PySem PySem.Spec PyProof.Rows L2 GxR Tree Kit Data Small Dic1
structure ShowOk (d : PyData) : Prop where
  sh : d.showable = true
  dp : d.depth ≤ 40
  ln : d.shown.length ≤ sizeLine
theorem ShowOk.of {L M S D : Nat} {d : PyData} (h : Sm L M S D d) (hM : M ≤ 10000000000) (hS : S ≤ 2000) (hD : D ≤ 40) : ShowOk d := by
  obtain ⟨h1, h2, h3⟩ := Shown.shows h hM hS hD
  exact ⟨h1, h2, h3⟩
/-- a thing that can be shown as d is -/
def ThD (H : Hp) (v : V) (d : PyData) : Prop := ShowOk d ∧ (Tr [] H v d ∨ ∃ (a : Addr) (t : Str), v = .ref a ∧ H a = some (one t t) ∧ d = oneD t t)
section
variable {K : PySem.W.Frag} {H H' : Hp} {v : V} {d : PyData} {Q : VK}
theorem ThD.kx (h : ThD H v d) (k : Kx [] H H') : ThD H' v d := by
  obtain ⟨s, h⟩ := h
  refine ⟨s, ?_⟩
  rcases h with h | ⟨a, t, e1, e2, e3⟩
  · exact .inl (h.up k)
  · exact .inr ⟨a, t, e1, one_kx e2 k, e3⟩
theorem ThD.repr (h : ThD H v d) (q : Q (.str d.shown) H) : rReprD [v] H Q := by
  obtain ⟨s, h⟩ := h
  rcases h with h | ⟨a, t, e1, e2, e3⟩
  · exact .inl ⟨v, d, rfl, h, s.sh, s.dp, s.ln, q⟩
  · subst e1 e3
    exact .inr ⟨a, t, t, rfl, e2, s.sh, s.ln, q⟩
theorem ThD.ty (h : ThD H v d) : TyX K H v (.type (tyD d)) := by
  obtain ⟨_, h⟩ := h
  rcases h with h | ⟨a, t, e1, e2, e3⟩
  · exact h.ty
  · subst e1 e3
    exact one_ty e2
end
theorem kit_strD {K : PySem.W.Frag} (d : PyData) : PySem.W.kitOne K (.type (tyD d)) (.type "str") = some (tyD d == "str") := by
  cases d <;> (refine kit_ty ?_; dsimp only [tyD]; decide +kernel)
end Things

set_option Elab.async false
set_option linter.all false
set_option maxRecDepth 100000
set_option maxHeartbeats 2000000
namespace Law
open PySem PySem.Spec PyProof.Rows L2 GxR GX Tree Kit
def topS (i : Nat) : Stmt := PySem.Challenge.pw_skyprices_k19_no_texts_and_no_days.main.body.getD i (.Pass ⟨0, 0, 0, 0⟩)
abbrev s_is_number : Stmt := topS 25
theorem sc_is_number : FnScope ["thing"] ["thing"] (defScope s_is_number) := ⟨rfl, rfl, rfl, by decide +kernel, rfl, by decide +kernel, by decide +kernel⟩
abbrev s_is_whole : Stmt := topS 26
theorem sc_is_whole : FnScope ["thing", "least", "most"] ["thing", "least", "most"] (defScope s_is_whole) := ⟨rfl, rfl, rfl, by decide +kernel, rfl, by decide +kernel, by decide +kernel⟩
abbrev s_is_list : Stmt := topS 27
theorem sc_is_list : FnScope ["thing", "least", "most"] ["thing", "least", "most"] (defScope s_is_list) := ⟨rfl, rfl, rfl, by decide +kernel, rfl, by decide +kernel, by decide +kernel⟩
abbrev s_is_tuple : Stmt := topS 28
theorem sc_is_tuple : FnScope ["thing", "many"] ["thing", "many"] (defScope s_is_tuple) := ⟨rfl, rfl, rfl, by decide +kernel, rfl, by decide +kernel, by decide +kernel⟩
abbrev s_rises : Stmt := topS 29
theorem sc_rises : FnScope ["things", "at"] ["things"] (defScope s_rises) := ⟨rfl, rfl, rfl, by decide +kernel, rfl, by decide +kernel, by decide +kernel⟩
abbrev s_is_day : Stmt := topS 30
theorem sc_is_day : FnScope ["thing", "hours", "stores", "sights", "asks", "blocks"] ["thing"] (defScope s_is_day) := ⟨rfl, rfl, rfl, by decide +kernel, rfl, by decide +kernel, by decide +kernel⟩
abbrev s__are_stores : Stmt := topS 31
theorem sc__are_stores : FnScope ["thing", "store"] ["thing"] (defScope s__are_stores) := ⟨rfl, rfl, rfl, by decide +kernel, rfl, by decide +kernel, by decide +kernel⟩
abbrev s__are_sights : Stmt := topS 32
theorem sc__are_sights : FnScope ["thing", "hours", "craft", "sight"] ["thing", "hours", "craft"] (defScope s__are_sights) := ⟨rfl, rfl, rfl, by decide +kernel, rfl, by decide +kernel, by decide +kernel⟩
abbrev s__is_sight : Stmt := topS 33
theorem sc__is_sight : FnScope ["thing", "hours", "craft", "heard"] ["thing", "hours", "craft"] (defScope s__is_sight) := ⟨rfl, rfl, rfl, by decide +kernel, rfl, by decide +kernel, by decide +kernel⟩
abbrev s__are_heard : Stmt := topS 34
theorem sc__are_heard : FnScope ["thing", "craft", "number"] ["thing", "craft"] (defScope s__are_heard) := ⟨rfl, rfl, rfl, by decide +kernel, rfl, by decide +kernel, by decide +kernel⟩
abbrev s__are_asks : Stmt := topS 35
theorem sc__are_asks : FnScope ["thing", "dishes", "ask"] ["thing", "dishes"] (defScope s__are_asks) := ⟨rfl, rfl, rfl, by decide +kernel, rfl, by decide +kernel, by decide +kernel⟩
abbrev s__are_blocks : Stmt := topS 36
theorem sc__are_blocks : FnScope ["thing", "hours", "craft", "block"] ["thing", "hours", "craft"] (defScope s__are_blocks) := ⟨rfl, rfl, rfl, by decide +kernel, rfl, by decide +kernel, by decide +kernel⟩
abbrev s_is_block : Stmt := topS 37
theorem sc_is_block : FnScope ["thing", "hours", "craft", "house", "number", "ready", "due", "worth"] ["thing", "hours", "craft"] (defScope s_is_block) := ⟨rfl, rfl, rfl, by decide +kernel, rfl, by decide +kernel, by decide +kernel⟩
abbrev s_need_day : Stmt := topS 38
theorem sc_need_day : FnScope ["thing"] ["thing"] (defScope s_need_day) := ⟨rfl, rfl, rfl, by decide +kernel, rfl, by decide +kernel, by decide +kernel⟩
abbrev s_show_day : Stmt := topS 41
theorem sc_show_day : FnScope ["day", "hours", "stores", "sights", "asks", "blocks", "rows", "store", "dish", "block"] ["day"] (defScope s_show_day) := ⟨rfl, rfl, rfl, by decide +kernel, rfl, by decide +kernel, by decide +kernel⟩
abbrev s__dish_row : Stmt := topS 42
theorem sc__dish_row : FnScope ["ask", "sight", "words", "heard"] ["ask", "sight"] (defScope s__dish_row) := ⟨rfl, rfl, rfl, by decide +kernel, rfl, by decide +kernel, by decide +kernel⟩
abbrev s__heard_word : Stmt := topS 43
theorem sc__heard_word : FnScope ["heard", "craft"] ["heard"] (defScope s__heard_word) := ⟨rfl, rfl, rfl, by decide +kernel, rfl, by decide +kernel, by decide +kernel⟩
abbrev s__block_row : Stmt := topS 44
theorem sc__block_row : FnScope ["block", "house", "craft", "ready", "due", "worth", "due_word"] ["block"] (defScope s__block_row) := ⟨rfl, rfl, rfl, by decide +kernel, rfl, by decide +kernel, by decide +kernel⟩
abbrev s_read_day : Stmt := topS 45
theorem sc_read_day : FnScope ["text", "rows", "at", "day", "row"] ["text"] (defScope s_read_day) := ⟨rfl, rfl, rfl, by decide +kernel, rfl, by decide +kernel, by decide +kernel⟩
abbrev s_is_figures : Stmt := topS 46
theorem sc_is_figures : FnScope ["word", "sign"] ["word"] (defScope s_is_figures) := ⟨rfl, rfl, rfl, by decide +kernel, rfl, by decide +kernel, by decide +kernel⟩
abbrev s__has_form : Stmt := topS 47
theorem sc__has_form : FnScope ["words", "kind", "told"] ["words"] (defScope s__has_form) := ⟨rfl, rfl, rfl, by decide +kernel, rfl, by decide +kernel, by decide +kernel⟩
abbrev s__has_form_of_dish : Stmt := topS 48
theorem sc__has_form_of_dish : FnScope ["told", "word"] ["told"] (defScope s__has_form_of_dish) := ⟨rfl, rfl, rfl, by decide +kernel, rfl, by decide +kernel, by decide +kernel⟩
abbrev s__is_heard_word : Stmt := topS 49
theorem sc__is_heard_word : FnScope ["word", "part"] ["word"] (defScope s__is_heard_word) := ⟨rfl, rfl, rfl, by decide +kernel, rfl, by decide +kernel, by decide +kernel⟩
abbrev s__has_form_of_block : Stmt := topS 50
theorem sc__has_form_of_block : FnScope ["told", "house", "craft", "ready", "due", "worth", "word"] ["told"] (defScope s__has_form_of_block) := ⟨rfl, rfl, rfl, by decide +kernel, rfl, by decide +kernel, by decide +kernel⟩
abbrev s__is_at_its_place : Stmt := topS 51
theorem sc__is_at_its_place : FnScope ["rows", "at", "kind"] ["rows", "at"] (defScope s__is_at_its_place) := ⟨rfl, rfl, rfl, by decide +kernel, rfl, by decide +kernel, by decide +kernel⟩
abbrev s__day_of : Stmt := topS 52
theorem sc__day_of : FnScope ["rows", "hours", "stores", "dishes", "sights", "asks", "words", "word"] ["rows"] (defScope s__day_of) := ⟨rfl, rfl, rfl, by decide +kernel, rfl, by decide +kernel, by decide +kernel⟩
abbrev s__heard_of : Stmt := topS 53
theorem sc__heard_of : FnScope ["word", "part"] ["word"] (defScope s__heard_of) := ⟨rfl, rfl, rfl, by decide +kernel, rfl, by decide +kernel, by decide +kernel⟩
abbrev s__number_of : Stmt := topS 54
theorem sc__number_of : FnScope ["word", "word_for_none"] ["word", "word_for_none"] (defScope s__number_of) := ⟨rfl, rfl, rfl, by decide +kernel, rfl, by decide +kernel, by decide +kernel⟩
abbrev s__block_of : Stmt := topS 55
theorem sc__block_of : FnScope ["words", "kind", "house", "craft", "ready", "due", "worth"] ["words"] (defScope s__block_of) := ⟨rfl, rfl, rfl, by decide +kernel, rfl, by decide +kernel, by decide +kernel⟩
abbrev s__law_purse : Stmt := topS 57
theorem sc__law_purse : FnScope ["script", "k", "cell"] ["script", "k"] (defScope s__law_purse) := ⟨rfl, rfl, rfl, by decide +kernel, rfl, by decide +kernel, by decide +kernel⟩
abbrev s__law_coin : Stmt := topS 58
theorem sc__law_coin : FnScope ["purse", "many", "found", "mixed"] ["purse", "many"] (defScope s__law_coin) := ⟨rfl, rfl, rfl, by decide +kernel, rfl, by decide +kernel, by decide +kernel⟩
abbrev s__law_sight : Stmt := topS 59
theorem sc__law_sight : FnScope ["purse", "hours", "craft", "found", "hour", "some", "one"] ["purse", "hours", "craft"] (defScope s__law_sight) := ⟨rfl, rfl, rfl, by decide +kernel, rfl, by decide +kernel, by decide +kernel⟩
abbrev s__law_block : Stmt := topS 60
theorem sc__law_block : FnScope ["purse", "hours", "craft", "ready", "due", "worth"] ["purse", "hours", "craft"] (defScope s__law_block) := ⟨rfl, rfl, rfl, by decide +kernel, rfl, by decide +kernel, by decide +kernel⟩
abbrev s__law_day : Stmt := topS 61
theorem sc__law_day : FnScope ["purse", "most", "blocks", "full", "hours", "craft", "stores", "dishes", "sights", "asks", "many", "one", "dish"] ["purse", "most", "blocks"] (defScope s__law_day) := ⟨rfl, rfl, rfl, by decide +kernel, rfl, by decide +kernel, by decide +kernel⟩
abbrev s__law_other : Stmt := topS 62
theorem sc__law_other : FnScope ["purse", "thing", "odd"] ["purse", "thing"] (defScope s__law_other) := ⟨rfl, rfl, rfl, by decide +kernel, rfl, by decide +kernel, by decide +kernel⟩
abbrev s__law_bent_row : Stmt := topS 63
theorem sc__law_bent_row : FnScope ["purse", "thing", "some", "at", "odds", "odd", "rows", "way"] ["purse", "thing"] (defScope s__law_bent_row) := ⟨rfl, rfl, rfl, by decide +kernel, rfl, by decide +kernel, by decide +kernel⟩
abbrev s__law_bent : Stmt := topS 64
theorem sc__law_bent : FnScope ["purse", "thing", "at", "some"] ["purse", "thing"] (defScope s__law_bent) := ⟨rfl, rfl, rfl, by decide +kernel, rfl, by decide +kernel, by decide +kernel⟩
abbrev s__law_whole : Stmt := topS 65
theorem sc__law_whole : FnScope ["thing", "low", "high"] ["thing", "low", "high"] (defScope s__law_whole) := ⟨rfl, rfl, rfl, by decide +kernel, rfl, by decide +kernel, by decide +kernel⟩
abbrev s__law_each : Stmt := topS 66
theorem sc__law_each : FnScope ["things", "low", "high", "one"] ["things", "low", "high"] (defScope s__law_each) := ⟨rfl, rfl, rfl, by decide +kernel, rfl, by decide +kernel, by decide +kernel⟩
abbrev s__law_is_sight : Stmt := topS 67
theorem sc__law_is_sight : FnScope ["sight", "hours", "craft", "heard"] ["sight", "hours", "craft"] (defScope s__law_is_sight) := ⟨rfl, rfl, rfl, by decide +kernel, rfl, by decide +kernel, by decide +kernel⟩
abbrev s__law_is_block : Stmt := topS 68
theorem sc__law_is_block : FnScope ["block", "hours", "craft", "house", "own", "ready", "due", "worth"] ["block", "hours", "craft"] (defScope s__law_is_block) := ⟨rfl, rfl, rfl, by decide +kernel, rfl, by decide +kernel, by decide +kernel⟩
abbrev s__law_is_day : Stmt := topS 69
theorem sc__law_is_day : FnScope ["thing", "hours", "stores", "sights", "asks", "blocks", "sight", "block", "one"] ["thing"] (defScope s__law_is_day) := ⟨rfl, rfl, rfl, by decide +kernel, rfl, by decide +kernel, by decide +kernel⟩
abbrev s__law_kinds : Stmt := topS 70
theorem sc__law_kinds : FnScope ["caught", "found", "words", "k"] ["caught"] (defScope s__law_kinds) := ⟨rfl, rfl, rfl, by decide +kernel, rfl, by decide +kernel, by decide +kernel⟩
abbrev s__law_word : Stmt := topS 71
theorem sc__law_word : FnScope ["thing", "reads", "caught", "row", "e"] ["thing", "reads"] (defScope s__law_word) := ⟨rfl, rfl, rfl, by decide +kernel, rfl, by decide +kernel, by decide +kernel⟩
abbrev s_law : Stmt := topS 72
theorem sc_law : FnScope ["script", "k", "purse", "day", "text", "things", "thing", "before", "others", "turn", "again"] ["script"] (defScope s_law) := ⟨rfl, rfl, rfl, by decide +kernel, rfl, by decide +kernel, by decide +kernel⟩
/-- what stands behind the top: each def, its function object, its code's table; the constants; the built-in names -/
structure Facts (K : PySem.W.Frag) (mg : Str → Option Value) (base : Heap) (fa : String → Addr) (fd : String → FuncData) (ca ta : String → Addr) : Prop where
  b : Bt mg
  c_MOST_HOURS : ∃ t, mg "MOST_HOURS" = some (.int 10 t)
  c_MOST_CRAFT : ∃ t, mg "MOST_CRAFT" = some (.int 4 t)
  c_MOST_STORE : ∃ t, mg "MOST_STORE" = some (.int 5 t)
  c_MOST_DISHES : ∃ t, mg "MOST_DISHES" = some (.int 3 t)
  c_MOST_ASK : ∃ t, mg "MOST_ASK" = some (.int 999 t)
  c_MOST_BLOCKS : ∃ t, mg "MOST_BLOCKS" = some (.int 14 t)
  c_MOST_HOUSE : ∃ t, mg "MOST_HOUSE" = some (.int 5 t)
  c_MOST_WORTH : ∃ t, mg "MOST_WORTH" = some (.int 9999 t)
  k_KINDS : mg "KINDS" = some (.ref (fa "KINDS"))
  kd_KINDS : ∃ o, List.lookup (fa "KINDS") K = some o ∧ o.cls = Value.type "tuple" ∧ o.dict = none
  kt_KINDS : ∀ H : Hp, SqT K H (fa "KINDS") [.str "hours", .str "store", .str "dish", .str "block"]
  d_is_number : DefAt K mg "is_number" s_is_number ["thing"] (fa "is_number") (fd "is_number")
  d_is_whole : DefAt K mg "is_whole" s_is_whole ["thing", "least", "most"] (fa "is_whole") (fd "is_whole")
  d_is_list : DefAt K mg "is_list" s_is_list ["thing", "least", "most"] (fa "is_list") (fd "is_list")
  d_is_tuple : DefAt K mg "is_tuple" s_is_tuple ["thing", "many"] (fa "is_tuple") (fd "is_tuple")
  d_rises : DefAt K mg "rises" s_rises ["things"] (fa "rises") (fd "rises")
  d_is_day : DefAt K mg "is_day" s_is_day ["thing"] (fa "is_day") (fd "is_day")
  d__are_stores : DefAt K mg "_are_stores" s__are_stores ["thing"] (fa "_are_stores") (fd "_are_stores")
  d__are_sights : DefAt K mg "_are_sights" s__are_sights ["thing", "hours", "craft"] (fa "_are_sights") (fd "_are_sights")
  d__is_sight : DefAt K mg "_is_sight" s__is_sight ["thing", "hours", "craft"] (fa "_is_sight") (fd "_is_sight")
  d__are_heard : DefAt K mg "_are_heard" s__are_heard ["thing", "craft"] (fa "_are_heard") (fd "_are_heard")
  d__are_asks : DefAt K mg "_are_asks" s__are_asks ["thing", "dishes"] (fa "_are_asks") (fd "_are_asks")
  d__are_blocks : DefAt K mg "_are_blocks" s__are_blocks ["thing", "hours", "craft"] (fa "_are_blocks") (fd "_are_blocks")
  d_is_block : DefAt K mg "is_block" s_is_block ["thing", "hours", "craft"] (fa "is_block") (fd "is_block")
  d_need_day : DefAt K mg "need_day" s_need_day ["thing"] (fa "need_day") (fd "need_day")
  d_show_day : DefAt K mg "show_day" s_show_day ["day"] (fa "show_day") (fd "show_day")
  d__dish_row : DefAt K mg "_dish_row" s__dish_row ["ask", "sight"] (fa "_dish_row") (fd "_dish_row")
  d__heard_word : DefAt K mg "_heard_word" s__heard_word ["heard"] (fa "_heard_word") (fd "_heard_word")
  d__block_row : DefAt K mg "_block_row" s__block_row ["block"] (fa "_block_row") (fd "_block_row")
  d_read_day : DefAt K mg "read_day" s_read_day ["text"] (fa "read_day") (fd "read_day")
  d_is_figures : DefAt K mg "is_figures" s_is_figures ["word"] (fa "is_figures") (fd "is_figures")
  d__has_form : DefAt K mg "_has_form" s__has_form ["words"] (fa "_has_form") (fd "_has_form")
  d__has_form_of_dish : DefAt K mg "_has_form_of_dish" s__has_form_of_dish ["told"] (fa "_has_form_of_dish") (fd "_has_form_of_dish")
  d__is_heard_word : DefAt K mg "_is_heard_word" s__is_heard_word ["word"] (fa "_is_heard_word") (fd "_is_heard_word")
  d__has_form_of_block : DefAt K mg "_has_form_of_block" s__has_form_of_block ["told"] (fa "_has_form_of_block") (fd "_has_form_of_block")
  d__is_at_its_place : DefAt K mg "_is_at_its_place" s__is_at_its_place ["rows", "at"] (fa "_is_at_its_place") (fd "_is_at_its_place")
  d__day_of : DefAt K mg "_day_of" s__day_of ["rows"] (fa "_day_of") (fd "_day_of")
  d__heard_of : DefAt K mg "_heard_of" s__heard_of ["word"] (fa "_heard_of") (fd "_heard_of")
  d__number_of : DefAt K mg "_number_of" s__number_of ["word", "word_for_none"] (fa "_number_of") (fd "_number_of")
  d__block_of : DefAt K mg "_block_of" s__block_of ["words"] (fa "_block_of") (fd "_block_of")
  d__law_purse : DefAt K mg "_law_purse" s__law_purse ["script", "k"] (fa "_law_purse") (fd "_law_purse")
  d__law_coin : DefAt K mg "_law_coin" s__law_coin ["purse", "many"] (fa "_law_coin") (fd "_law_coin")
  d__law_sight : DefAt K mg "_law_sight" s__law_sight ["purse", "hours", "craft"] (fa "_law_sight") (fd "_law_sight")
  d__law_block : DefAt K mg "_law_block" s__law_block ["purse", "hours", "craft"] (fa "_law_block") (fd "_law_block")
  d__law_day : DefAt K mg "_law_day" s__law_day ["purse", "most", "blocks"] (fa "_law_day") (fd "_law_day")
  d__law_other : DefAt K mg "_law_other" s__law_other ["purse", "thing"] (fa "_law_other") (fd "_law_other")
  d__law_bent_row : DefAt K mg "_law_bent_row" s__law_bent_row ["purse", "thing"] (fa "_law_bent_row") (fd "_law_bent_row")
  d__law_bent : DefAt K mg "_law_bent" s__law_bent ["purse", "thing"] (fa "_law_bent") (fd "_law_bent")
  d__law_whole : DefAt K mg "_law_whole" s__law_whole ["thing", "low", "high"] (fa "_law_whole") (fd "_law_whole")
  d__law_each : DefAt K mg "_law_each" s__law_each ["things", "low", "high"] (fa "_law_each") (fd "_law_each")
  d__law_is_sight : DefAt K mg "_law_is_sight" s__law_is_sight ["sight", "hours", "craft"] (fa "_law_is_sight") (fd "_law_is_sight")
  d__law_is_block : DefAt K mg "_law_is_block" s__law_is_block ["block", "hours", "craft"] (fa "_law_is_block") (fd "_law_is_block")
  d__law_is_day : DefAt K mg "_law_is_day" s__law_is_day ["thing"] (fa "_law_is_day") (fd "_law_is_day")
  d__law_kinds : DefAt K mg "_law_kinds" s__law_kinds ["caught"] (fa "_law_kinds") (fd "_law_kinds")
  d__law_word : DefAt K mg "_law_word" s__law_word ["thing", "reads"] (fa "_law_word") (fd "_law_word")
  x_ValueError : mg "ValueError" = none
  t_rises : TabAt base mg (fd "rises") (ca "rises") (ta "rises")
  t__are_stores : TabAt base mg (fd "_are_stores") (ca "_are_stores") (ta "_are_stores")
  t__are_sights : TabAt base mg (fd "_are_sights") (ca "_are_sights") (ta "_are_sights")
  t__is_sight : TabAt base mg (fd "_is_sight") (ca "_is_sight") (ta "_is_sight")
  t__are_heard : TabAt base mg (fd "_are_heard") (ca "_are_heard") (ta "_are_heard")
  t__are_asks : TabAt base mg (fd "_are_asks") (ca "_are_asks") (ta "_are_asks")
  t__are_blocks : TabAt base mg (fd "_are_blocks") (ca "_are_blocks") (ta "_are_blocks")
  t_is_figures : TabAt base mg (fd "is_figures") (ca "is_figures") (ta "is_figures")
  t__has_form_of_dish : TabAt base mg (fd "_has_form_of_dish") (ca "_has_form_of_dish") (ta "_has_form_of_dish")
  t__is_heard_word : TabAt base mg (fd "_is_heard_word") (ca "_is_heard_word") (ta "_is_heard_word")
  t__has_form_of_block : TabAt base mg (fd "_has_form_of_block") (ca "_has_form_of_block") (ta "_has_form_of_block")
/-- all tables -/
def Ts (ta : String → Addr) : List Addr := [ta "rises", ta "_are_stores", ta "_are_sights", ta "_is_sight", ta "_are_heard", ta "_are_asks", ta "_are_blocks", ta "is_figures", ta "_has_form_of_dish", ta "_is_heard_word", ta "_has_form_of_block"]
theorem tab_rises {ta : String → Addr} {H : Hp} (h : Tb (Ts ta) H) : TabG H (ta "rises") := h _ (by simp [Ts])
theorem tab__are_stores {ta : String → Addr} {H : Hp} (h : Tb (Ts ta) H) : TabG H (ta "_are_stores") := h _ (by simp [Ts])
theorem tab__are_sights {ta : String → Addr} {H : Hp} (h : Tb (Ts ta) H) : TabG H (ta "_are_sights") := h _ (by simp [Ts])
theorem tab__is_sight {ta : String → Addr} {H : Hp} (h : Tb (Ts ta) H) : TabG H (ta "_is_sight") := h _ (by simp [Ts])
theorem tab__are_heard {ta : String → Addr} {H : Hp} (h : Tb (Ts ta) H) : TabG H (ta "_are_heard") := h _ (by simp [Ts])
theorem tab__are_asks {ta : String → Addr} {H : Hp} (h : Tb (Ts ta) H) : TabG H (ta "_are_asks") := h _ (by simp [Ts])
theorem tab__are_blocks {ta : String → Addr} {H : Hp} (h : Tb (Ts ta) H) : TabG H (ta "_are_blocks") := h _ (by simp [Ts])
theorem tab_is_figures {ta : String → Addr} {H : Hp} (h : Tb (Ts ta) H) : TabG H (ta "is_figures") := h _ (by simp [Ts])
theorem tab__has_form_of_dish {ta : String → Addr} {H : Hp} (h : Tb (Ts ta) H) : TabG H (ta "_has_form_of_dish") := h _ (by simp [Ts])
theorem tab__is_heard_word {ta : String → Addr} {H : Hp} (h : Tb (Ts ta) H) : TabG H (ta "_is_heard_word") := h _ (by simp [Ts])
theorem tab__has_form_of_block {ta : String → Addr} {H : Hp} (h : Tb (Ts ta) H) : TabG H (ta "_has_form_of_block") := h _ (by simp [Ts])
end Law

set_option Elab.async false
set_option linter.all false
set_option maxRecDepth 100000
set_option maxHeartbeats 2000000
namespace Law
open PySem PySem.Spec PyProof.Rows L2 GxR GX Tree Kit Obj EndG
abbrev s_NoText___init__ : Stmt := inClass (topS 15) 0
theorem sc_NoText___init__ : FnScope ["self", "at"] ["self", "at"] (defScope s_NoText___init__) := ⟨rfl, rfl, rfl, by decide +kernel, rfl, by decide +kernel, by decide +kernel⟩
/-- the classes -/
structure CFacts (K : PySem.W.Frag) (mg : Str → Option Value) (cs : String → Addr) (fm : String → String → Addr) (fdm : String → String → FuncData) : Prop where
  d_NoText___init__ : Raised.MethDf K "__init__" "NoText.__init__" s_NoText___init__ ["self", "at"] [.non] (fm "NoText" "__init__") (fdm "NoText" "__init__")
  d0_NoText___init__ : ∃ ds, Vals [.non] ds ∧ Binds K (fdm "NoText" "__init__") ["self", "at"] ds
  ox_NoText : Raised.OxF K (cs "NoText") (fm "NoText" "__init__")
  na_NoText_at : NoAttr K (cs "NoText") "at"
  xi_NoDay : PySem.W.excIn K (cs "NoDay") [.type "ValueError", .type "Exception", .type "BaseException", .type "object"] "ValueError.__new__" = true
  k_NoDay : PySem.W.keepIn K (.ref (cs "NoDay")) = true
  b_NoDay : PySem.W.subIn K (.ref (cs "NoDay")) (.type "BaseException") = some true
  t_NoDay : PySem.W.typeIn K (.ref (cs "NoDay")) = some (.type "type")
  g_DayOver : mg "DayOver" = some (.ref (cs "DayOver"))
  g_NoBlock : mg "NoBlock" = some (.ref (cs "NoBlock"))
  g_NoDay : mg "NoDay" = some (.ref (cs "NoDay"))
  g_NoHour : mg "NoHour" = some (.ref (cs "NoHour"))
  g_NoLost : mg "NoLost" = some (.ref (cs "NoLost"))
  g_NoName : mg "NoName" = some (.ref (cs "NoName"))
  g_NoNumbers : mg "NoNumbers" = some (.ref (cs "NoNumbers"))
  g_NoPlace : mg "NoPlace" = some (.ref (cs "NoPlace"))
  g_NoPlan : mg "NoPlan" = some (.ref (cs "NoPlan"))
  g_NoRests : mg "NoRests" = some (.ref (cs "NoRests"))
  g_NoRow : mg "NoRow" = some (.ref (cs "NoRow"))
  g_NoText : mg "NoText" = some (.ref (cs "NoText"))
  g_NoWorth : mg "NoWorth" = some (.ref (cs "NoWorth"))
  g_SkyError : mg "SkyError" = some (.ref (cs "SkyError"))
  g_TooMany : mg "TooMany" = some (.ref (cs "TooMany"))
  em_NoDay_NoText : PySem.W.exmOne K (.ref (cs "NoDay")) (.ref (cs "NoText")) = some false
  em_NoDay_SkyError : PySem.W.exmOne K (.ref (cs "NoDay")) (.ref (cs "SkyError")) = some true
  is_NoDay : Caught.ExcIs K (cs "NoDay")
  ki_NoDay_NoDay : PySem.W.kitOne K (.ref (cs "NoDay")) (.ref (cs "NoDay")) = some true
  ki_NoDay_NoPlan : PySem.W.kitOne K (.ref (cs "NoDay")) (.ref (cs "NoPlan")) = some false
  ki_NoDay_NoNumbers : PySem.W.kitOne K (.ref (cs "NoDay")) (.ref (cs "NoNumbers")) = some false
  ki_NoDay_NoRests : PySem.W.kitOne K (.ref (cs "NoDay")) (.ref (cs "NoRests")) = some false
  ki_NoDay_NoLost : PySem.W.kitOne K (.ref (cs "NoDay")) (.ref (cs "NoLost")) = some false
  ki_NoDay_NoBlock : PySem.W.kitOne K (.ref (cs "NoDay")) (.ref (cs "NoBlock")) = some false
  ki_NoDay_NoWorth : PySem.W.kitOne K (.ref (cs "NoDay")) (.ref (cs "NoWorth")) = some false
  ki_NoDay_NoHour : PySem.W.kitOne K (.ref (cs "NoDay")) (.ref (cs "NoHour")) = some false
  ki_NoDay_TooMany : PySem.W.kitOne K (.ref (cs "NoDay")) (.ref (cs "TooMany")) = some false
  ki_NoDay_DayOver : PySem.W.kitOne K (.ref (cs "NoDay")) (.ref (cs "DayOver")) = some false
  ki_NoDay_NoName : PySem.W.kitOne K (.ref (cs "NoDay")) (.ref (cs "NoName")) = some false
  ki_NoDay_NoPlace : PySem.W.kitOne K (.ref (cs "NoDay")) (.ref (cs "NoPlace")) = some false
  ki_NoDay_NoRow : PySem.W.kitOne K (.ref (cs "NoDay")) (.ref (cs "NoRow")) = some false
  ki_NoDay_NoText : PySem.W.kitOne K (.ref (cs "NoDay")) (.ref (cs "NoText")) = some false
  ki_NoDay_ValueError : PySem.W.kitOne K (.ref (cs "NoDay")) (.type "ValueError") = some true
  em_NoText_NoText : PySem.W.exmOne K (.ref (cs "NoText")) (.ref (cs "NoText")) = some true
  em_NoText_SkyError : PySem.W.exmOne K (.ref (cs "NoText")) (.ref (cs "SkyError")) = some true
  is_NoText : Caught.ExcIs K (cs "NoText")
  ki_NoText_NoDay : PySem.W.kitOne K (.ref (cs "NoText")) (.ref (cs "NoDay")) = some false
  ki_NoText_NoPlan : PySem.W.kitOne K (.ref (cs "NoText")) (.ref (cs "NoPlan")) = some false
  ki_NoText_NoNumbers : PySem.W.kitOne K (.ref (cs "NoText")) (.ref (cs "NoNumbers")) = some false
  ki_NoText_NoRests : PySem.W.kitOne K (.ref (cs "NoText")) (.ref (cs "NoRests")) = some false
  ki_NoText_NoLost : PySem.W.kitOne K (.ref (cs "NoText")) (.ref (cs "NoLost")) = some false
  ki_NoText_NoBlock : PySem.W.kitOne K (.ref (cs "NoText")) (.ref (cs "NoBlock")) = some false
  ki_NoText_NoWorth : PySem.W.kitOne K (.ref (cs "NoText")) (.ref (cs "NoWorth")) = some false
  ki_NoText_NoHour : PySem.W.kitOne K (.ref (cs "NoText")) (.ref (cs "NoHour")) = some false
  ki_NoText_TooMany : PySem.W.kitOne K (.ref (cs "NoText")) (.ref (cs "TooMany")) = some false
  ki_NoText_DayOver : PySem.W.kitOne K (.ref (cs "NoText")) (.ref (cs "DayOver")) = some false
  ki_NoText_NoName : PySem.W.kitOne K (.ref (cs "NoText")) (.ref (cs "NoName")) = some false
  ki_NoText_NoPlace : PySem.W.kitOne K (.ref (cs "NoText")) (.ref (cs "NoPlace")) = some false
  ki_NoText_NoRow : PySem.W.kitOne K (.ref (cs "NoText")) (.ref (cs "NoRow")) = some false
  ki_NoText_NoText : PySem.W.kitOne K (.ref (cs "NoText")) (.ref (cs "NoText")) = some true
  ki_NoText_ValueError : PySem.W.kitOne K (.ref (cs "NoText")) (.type "ValueError") = some true
end Law

set_option Elab.async false
set_option linter.all false
set_option maxRecDepth 100000
set_option maxHeartbeats 4000000
namespace Law
open PySem PySem.Spec PyProof.Rows L2 GxR GX Tree Kit Data Loops
section
variable {P : Program} {w : World} {K : PySem.W.Frag} {mg : Str → Option Value} {base : Heap} {fa : String → Addr} {fd : String → FuncData} {ca ta : String → Addr}
/-! ### numbers, lists, tuples -/
def sp_is_number : Sp := fun vs H Q _ => ∃ v d, vs = [v] ∧ Tr [] H v d ∧ Q (.bl (isNum d)) H
theorem ok_is_number (Y : Facts K mg base fa fd ca ta) : FnOk P w K mg base CX0 1 (fa "is_number") (fd "is_number") ["thing"] sp_is_number := by
  refine Y.d_is_number.ok sc_is_number (fun vs H Q E h => ?_) (fun cdv A outer s H vs Q E hcd hr h => ?_)
  · obtain ⟨v, d, rfl, _⟩ := h; rfl
  · obtain ⟨v, d, rfl, ht, q⟩ := h
    refine ⟨_, (pss_one (ps_ret (pe_and (pe_callB (call_isiK' K rfl) (by rfl) Y.b.isinstance (by decide +kernel) (pa_cons (pv 0) (pa_cons (pe_bltn (v := .ty "int") (by rfl) Y.b.int (by decide +kernel) rfl) pa_nil))) (pe_one (pe_not (pe_callB (call_isiK' K rfl) (by rfl) Y.b.isinstance (by decide +kernel) (pa_cons (pv 0) (pa_cons (pe_bltn (v := .ty "bool") (by rfl) Y.b.bool (by decide +kernel) rfl) pa_nil)))))))), ?_⟩
    refine ⟨v, rfl, v, .ty "int", _, _, _, rfl, .ty _, ht.ty, kit_int d, _, rfl, ?_⟩
    have e : isNum d = (isiD "int" d && !isiD "bool" d) := by cases d <;> rfl
    rw [e] at q
    refine ite2 (fun c => ?_) (fun c => ?_)
    · rw [c] at q
      exact ⟨v, rfl, v, .ty "bool", _, _, _, rfl, .ty _, ht.ty, kit_bool d, _, rfl, q⟩
    · rw [Bool.not_eq_true] at c
      rw [c] at q
      exact q
def sp_is_whole : Sp := fun vs H Q _ => ∃ v d lo hi, vs = [v, .int lo, .int hi] ∧ Tr [] H v d ∧ Q (.bl (isWh lo hi d)) H
theorem ok_is_whole (Y : Facts K mg base fa fd ca ta) : FnOk P w K mg base CX0 2 (fa "is_whole") (fd "is_whole") ["thing", "least", "most"] sp_is_whole := by
  refine Y.d_is_whole.ok sc_is_whole (fun vs H Q E h => ?_) (fun cdv A outer s H vs Q E hcd hr h => ?_)
  · obtain ⟨v, d, lo, hi, rfl, _⟩ := h; rfl
  · obtain ⟨v, d, lo, hi, rfl, ht, q⟩ := h
    refine ⟨_, (pss_one (ps_ret (pe_and (pe_call (ok_is_number Y) (hr.mono (by decide)) (by rfl) Y.d_is_number.g Y.d_is_number.kp Y.d_is_number.b .nil pass0 (pa_cons (pv 0) pa_nil)) (pe_one (pe_chain op_le op_le (pv 1) (pv 0) (pv 2)))))), ?_⟩
    refine ⟨v, rfl, v, d, rfl, ht, _, rfl, ?_⟩
    refine ite2 (fun c => ?_) (fun c => ?_)
    · cases ht with
      | int i =>
        refine ⟨_, rfl, _, rfl, _, _, rfl, rfl, _, rfl, ?_⟩
        refine ite2 (fun c1 => ?_) (fun c1 => ?_)
        · refine ⟨_, rfl, _, _, rfl, rfl, ?_⟩
          have q' : Q (.bl (decide (lo ≤ i) && decide (i ≤ hi))) H := q
          rw [c1] at q'
          exact q'
        · have q' : Q (.bl (decide (lo ≤ i) && decide (i ≤ hi))) H := q
          rw [Bool.not_eq_true] at c1
          rw [c1] at q'
          exact q'
      | _ => cases c
    · have e : isWh lo hi d = false := by cases d <;> first | rfl | exact absurd rfl c
      rw [e] at q
      exact q
def sp_is_list : Sp := fun vs H Q _ => ∃ v d lo hi, vs = [v, .int lo, .int hi] ∧ Tr [] H v d ∧ Q (.bl (isLs lo hi d)) H
theorem ok_is_list (Y : Facts K mg base fa fd ca ta) : FnOk P w K mg base CX0 1 (fa "is_list") (fd "is_list") ["thing", "least", "most"] sp_is_list := by
  refine Y.d_is_list.ok sc_is_list (fun vs H Q E h => ?_) (fun cdv A outer s H vs Q E hcd hr h => ?_)
  · obtain ⟨v, d, lo, hi, rfl, _⟩ := h; rfl
  · obtain ⟨v, d, lo, hi, rfl, ht, q⟩ := h
    refine ⟨_, (pss_one (ps_ret (pe_and (pe_callB (call_isiK' K rfl) (by rfl) Y.b.isinstance (by decide +kernel) (pa_cons (pv 0) (pa_cons (pe_bltn (v := .ty "list") (by rfl) Y.b.list (by decide +kernel) rfl) pa_nil))) (pe_one (pe_chain op_le op_le (pv 1) (pe_callB (call_lenK K rfl) (by rfl) Y.b.len (by decide +kernel) (pa_cons (pv 0) pa_nil)) (pv 2)))))), ?_⟩
    refine ⟨v, rfl, v, .ty "list", _, _, _, rfl, .ty _, ht.ty, kit_list d, _, rfl, ?_⟩
    refine ite2 (fun c => ?_) (fun c => ?_)
    · cases ht with
      | lst n h l =>
        rename_i a xs ds
        have hl := l.length
        refine ⟨_, rfl, _, rfl, a, xs, rfl, .inl (SqL.of h), _, _, rfl, rfl, _, rfl, ?_⟩
        have q' : Q (.bl (decide (lo ≤ (ds.length : Int)) && decide ((ds.length : Int) ≤ hi))) H := q
        rw [← hl] at q'
        refine ite2 (fun c1 => ?_) (fun c1 => ?_)
        · refine ⟨_, rfl, _, _, rfl, rfl, ?_⟩
          rw [c1] at q'
          exact q'
        · rw [Bool.not_eq_true] at c1
          rw [c1] at q'
          exact q'
      | _ => cases c
    · have e : isLs lo hi d = false := by cases d <;> first | rfl | exact absurd rfl c
      rw [e] at q
      exact q
def sp_is_tuple : Sp := fun vs H Q _ => ∃ v d n, vs = [v, .int n] ∧ Tr [] H v d ∧ Q (.bl (isTp n d)) H
theorem ok_is_tuple (Y : Facts K mg base fa fd ca ta) : FnOk P w K mg base CX0 1 (fa "is_tuple") (fd "is_tuple") ["thing", "many"] sp_is_tuple := by
  refine Y.d_is_tuple.ok sc_is_tuple (fun vs H Q E h => ?_) (fun cdv A outer s H vs Q E hcd hr h => ?_)
  · obtain ⟨v, d, n, rfl, _⟩ := h; rfl
  · obtain ⟨v, d, n, rfl, ht, q⟩ := h
    refine ⟨_, (pss_one (ps_ret (pe_and (pe_callB (call_isiK' K rfl) (by rfl) Y.b.isinstance (by decide +kernel) (pa_cons (pv 0) (pa_cons (pe_bltn (v := .ty "tuple") (by rfl) Y.b.tuple (by decide +kernel) rfl) pa_nil))) (pe_one (pe_cmpR op_eq (pe_callB (call_lenK K rfl) (by rfl) Y.b.len (by decide +kernel) (pa_cons (pv 0) pa_nil)) (pv 1) (nomark _)))))), ?_⟩
    refine ⟨v, rfl, v, .ty "tuple", _, _, _, rfl, .ty _, ht.ty, kit_tuple d, _, rfl, ?_⟩
    refine ite2 (fun c => ?_) (fun c => ?_)
    · cases ht with
      | tup m h l =>
        rename_i a xs ds
        have hl := l.length
        refine ⟨_, rfl, a, xs, rfl, .inr (SqT.of h), _, rfl, rfl, ?_⟩
        have e : decide (V.int (xs.length : Int) = V.int n) = decide ((ds.length : Int) = n) := by
          rw [hl]
          by_cases z : (ds.length : Int) = n
          · rw [decide_eq_true z, z, decide_eq_true rfl]
          · rw [decide_eq_false z, decide_eq_false (fun y => z (V.int.inj y))]
        rw [e]
        exact q
      | _ => cases c
    · have e : isTp n d = false := by cases d <;> first | rfl | exact absurd rfl c
      rw [e] at q
      exact q
/-! ### rising -/
theorem getD_at {α : Type} : ∀ (l : List α) (d : α) {i : Nat} (h : i < l.length), l.getD i d = l[i]
  | [], _, _, h => absurd h (Nat.not_lt_zero _)
  | _ :: _, _, 0, _ => rfl
  | _ :: r, d, i + 1, h => getD_at r d (Nat.lt_of_succ_lt_succ h)
def risesN (ns : List Int) : Bool := (List.range (ns.length - 1)).all fun i => decide (ns.getD i 0 < ns.getD (i + 1) 0)
theorem risesN_eq : ∀ ns : List Int, risesN ns = risesB ns := by
  intro ns
  unfold risesN risesB
  rw [Bool.eq_iff_iff, List.all_eq_true, decide_eq_true_eq]
  constructor
  · intro h
    rw [List.pairwise_iff_getElem]
    have key : ∀ j i (hij : i < j) (hj : j < ns.length), ns[i]'(by omega) < ns[j] := by
      intro j
      induction j with
      | zero => intro i hij; omega
      | succ j ih =>
        intro i hij hj
        have h1 := of_decide_eq_true (h j (List.mem_range.mpr (by omega)))
        rw [getD_at _ _ (by omega), getD_at _ _ hj] at h1
        rcases Nat.lt_or_eq_of_le (Nat.le_of_lt_succ hij) with z | z
        · have := ih i z (by omega)
          omega
        · subst z
          exact h1
    intro i j hi hj hij
    exact key j i hij hj
  · intro h i hi
    have hi' := List.mem_range.mp hi
    rw [getD_at _ _ (by omega), getD_at _ _ (by omega)]
    exact decide_eq_true (List.pairwise_iff_getElem.mp h i (i + 1) (by omega) (by omega) (by omega))
def sp_rises (ta : String → Addr) : Sp := fun vs H Q _ => ∃ a ns, vs = [.ref a] ∧ H a = some (.lst (ns.map V.int)) ∧ ns.length ≤ 100000 ∧ Tb (Ts ta) H ∧ ∀ H', Kx [] H H' → Q (.bl (risesB ns)) H'
theorem ok_rises (Y : Facts K mg base fa fd ca ta) : FnOk P w K mg base CX0 2 (fa "rises") (fd "rises") ["things"] (sp_rises ta) := by
  refine Y.d_rises.ok sc_rises (fun vs H Q E h => ?_) (fun cdv A outer s H vs Q E hcd hr h => ?_)
  · obtain ⟨a, ns, rfl, _⟩ := h; rfl
  · obtain ⟨a, ns, rfl, ha, hz, hT, q⟩ := h
    refine ⟨_, (pss_one (ps_ret (pe_allG (own := [("at", 1)]) (g := gName 1) (tt := tYes) (hr.mono (by decide)) rfl sc_rises.nd (by rfl) Y.b.all Y.t_rises.tb (hcd.symm.trans Y.t_rises.code) (gok_by (N := ["things", "at"]) (sc := defScope s_rises) (by decide +kernel)) (pi_range1 (by rfl) Y.b.range (pa_cons (pe_op op_sub (pe_callB (call_lenK K rfl) (by rfl) Y.b.len (by decide +kernel) (pa_cons (pv 0) pa_nil)) pe_int) pa_nil)) (fun _ _ _ _ _ _ _ => (pg_name (i := 1) sc_rises.nd rfl (by first | exact Or.inl rfl | exact Or.inr rfl))) (fun _ _ _ _ _ _ _ => pts_nil) (fun _ _ _ _ _ _ _ => (pe_cmpR op_lt (pe_ix (ix_listK K rfl) (pv 0) (pv 1) (fun _ _ => rfl)) (pe_ix (ix_listK K rfl) (pv 0) (pe_op op_add (pv 1) pe_int) (fun _ _ => rfl)) (nomark _)))))), ?_⟩
    refine ⟨_, rfl, a, _, rfl, .inl (SqL.of ha), _, _, rfl, rfl, (ns.length : Int) - 1, by rw [List.length_map], ?_, ?_, ?_⟩
    · omega
    · omega
    · rw [show ((ns.length : Int) - 1).toNat = ns.length - 1 by omega]
      refine all_range (p := fun i => decide (ns.getD i 0 < ns.getD (i + 1) 0)) (tab_rises hT) (fun i H' hi k R hR => ?_) fun H' k => ?_
      · have ha' := k.lst (by simp) ha
        refine ⟨rfl, _, rfl, _, rfl, a, _, _, _, rfl, rfl, SqL.of ha', atI_nat (j := i) (by rw [List.getElem?_map, List.getElem?_eq_getElem (by omega)]; rfl), _, rfl, _, rfl, _, _, rfl, rfl, a, _, _, _, rfl, rfl, SqL.of ha', at_of (j := i + 1) (by simp) (by rw [List.getElem?_map, List.getElem?_eq_getElem (by omega)]; rfl), _, _, rfl, rfl, _, rfl, ?_⟩
        have := hR H' (Kx.refl _)
        simp only [getD_at _ _ (show i < ns.length by omega), getD_at _ _ (show i + 1 < ns.length by omega)] at this
        exact this
      · have := q H' k
        rw [← risesN_eq] at this
        exact this
/-! ### the parts of a day -/
theorem TrAll.intsV {B : List Addr} {H : Hp} {xs : List V} {ds : List PyData} (h : TrAll B H xs ds) (e : ds = (intsD ds).map PyData.int) : xs = (intsD ds).map V.int := by
  have key : ∀ (ns : List Int) (xs : List V), TrAll B H xs (ns.map PyData.int) → xs = ns.map V.int := by
    intro ns
    induction ns with
    | nil => intro xs h; cases h; rfl
    | cons n r ih =>
      intro xs h
      cases h with
      | cons h1 h2 =>
        cases h1
        rw [ih _ h2]
        rfl
  rw [e] at h
  exact key _ _ h
def sp_are_heard (ta : String → Addr) : Sp := fun vs H Q _ => ∃ v d craft, vs = [v, .int craft] ∧ Tr [] H v d ∧ sz d ≤ 100000 ∧ Tb (Ts ta) H ∧ ∀ H', Kx [] H H' → Q (.bl (heardB craft d)) H'
theorem ok__are_heard (Y : Facts K mg base fa fd ca ta) : FnOk P w K mg base CX0 4 (fa "_are_heard") (fd "_are_heard") ["thing", "craft"] (sp_are_heard ta) := by
  refine Y.d__are_heard.ok sc__are_heard (fun vs H Q E h => ?_) (fun cdv A outer s H vs Q E hcd hr h => ?_)
  · obtain ⟨v, d, cr, rfl, _⟩ := h; rfl
  · obtain ⟨v, d, cr, rfl, ht, hz, hT, q⟩ := h
    refine ⟨_, (pss_one (ps_ret (pe_and (pe_callB (call_isiK' K rfl) (by rfl) Y.b.isinstance (by decide +kernel) (pa_cons (pv 0) (pa_cons (pe_bltn (v := .ty "list") (by rfl) Y.b.list (by decide +kernel) rfl) pa_nil))) (pe_and (pe_allG (own := [("number", 2)]) (g := gName 2) (tt := tYes) (hr.mono (by decide)) rfl sc__are_heard.nd (by rfl) Y.b.all Y.t__are_heard.tb (hcd.symm.trans Y.t__are_heard.code) (gok_by (N := ["thing", "craft", "number"]) (sc := defScope s__are_heard) (by decide +kernel)) (pi_listK K rfl (pv 0)) (fun _ _ _ _ _ _ _ => (pg_name (i := 2) sc__are_heard.nd rfl (by first | exact Or.inl rfl | exact Or.inr rfl))) (fun _ _ _ _ _ _ _ => pts_nil) (fun _ _ _ _ _ _ _ => (pe_call (ok_is_whole Y) ((room_gen (k := 2) (hr.mono (by decide)) _).mono (by decide)) (by rfl) Y.d_is_whole.g Y.d_is_whole.kp Y.d_is_whole.b .nil pass0 (pa_cons (pv 2) (pa_cons pe_int (pa_cons (pe_op op_sub (pv 1) pe_int) pa_nil)))))) (pe_one (pe_call (ok_rises Y) (hr.mono (by decide)) (by rfl) Y.d_rises.g Y.d_rises.kp Y.d_rises.b .nil pass0 (pa_cons (pv 0) pa_nil))))))), ?_⟩
    refine ⟨v, rfl, v, .ty "list", _, _, _, rfl, .ty _, ht.ty, kit_list d, _, rfl, ?_⟩
    refine ite2 (fun c => ?_) (fun c => ?_)
    · cases ht with
      | lst n h l =>
        rename_i a xs ds
        refine all_treeV (isWh 0 (cr - 1)) rfl h l (tab__are_heard hT) (fun x d H' hd t k R hR => ?_) fun H' k => ⟨_, rfl, ?_⟩
        · exact ⟨rfl, x, rfl, _, rfl, _, _, rfl, rfl, x, d, 0, cr - 1, rfl, t, _, rfl, hR H' (Kx.refl _)⟩
        · refine ite2 (fun c => ?_) (fun c => ?_)
          · have ei := all_ints c
            refine ⟨_, rfl, a, intsD ds, rfl, ?_, ?_, hT.kx k, fun H'' k2 => ?_⟩
            · rw [← TrAll.intsV l ei]
              exact k.lst (by simp) h
            · have h1 := intsD_length ds
              have h2 := szAll_len ds
              simp only [sz] at hz
              omega
            · have := q H'' (k.trans k2)
              simp only [heardB, c, Bool.true_and] at this
              exact this
          · rw [Bool.not_eq_true] at c
            have := q H' k
            simp only [heardB, c, Bool.false_and] at this
            exact this
      | _ => cases c
    · have e : heardB cr d = false := by cases d <;> first | rfl | exact absurd rfl c
      have := q H (Kx.refl _)
      rw [e] at this
      exact this
theorem sz_in {d : PyData} {ds : List PyData} (h : d ∈ ds) (hz : sz (.list ds) ≤ 100000) : sz d ≤ 100000 := by
  have h1 := szAll_mem h
  simp only [sz] at hz
  omega
theorem sz_inT {d : PyData} {ds : List PyData} (h : d ∈ ds) (hz : sz (.tuple ds) ≤ 100000) : sz d ≤ 100000 := by
  have h1 := szAll_mem h
  simp only [sz] at hz
  omega
/-- a list's test by its length, then by its items -/
theorem lsall_false {lo hi : Int} {p : PyData → Bool} {d : PyData} (h : isLs lo hi d = false) : (isLs lo hi d && listAll p d) = false := by rw [h]; rfl
def sp_is_sight (ta : String → Addr) : Sp := fun vs H Q _ => ∃ v d h cr, vs = [v, .int h, .int cr] ∧ Tr [] H v d ∧ sz d ≤ 100000 ∧ Tb (Ts ta) H ∧ ∀ H', Kx [] H H' → Q (.bl (sightB h cr d)) H'
theorem ok__is_sight (Y : Facts K mg base fa fd ca ta) : FnOk P w K mg base CX0 6 (fa "_is_sight") (fd "_is_sight") ["thing", "hours", "craft"] (sp_is_sight ta) := by
  refine Y.d__is_sight.ok sc__is_sight (fun vs H Q E h => ?_) (fun cdv A outer s H vs Q E hcd hr h => ?_)
  · obtain ⟨v, d, h, cr, rfl, _⟩ := h; rfl
  · obtain ⟨v, d, h, cr, rfl, ht, hz, hT, q⟩ := h
    refine ⟨_, (pss_one (ps_ret (pe_and (pe_call (ok_is_list Y) (hr.mono (by decide)) (by rfl) Y.d_is_list.g Y.d_is_list.kp Y.d_is_list.b .nil pass0 (pa_cons (pv 0) (pa_cons (pv 1) (pa_cons (pv 1) pa_nil)))) (pe_one (pe_allG (own := [("heard", 3)]) (g := gName 3) (tt := tYes) (hr.mono (by decide)) rfl sc__is_sight.nd (by rfl) Y.b.all Y.t__is_sight.tb (hcd.symm.trans Y.t__is_sight.code) (gok_by (N := ["thing", "hours", "craft", "heard"]) (sc := defScope s__is_sight) (by decide +kernel)) (pi_listK K rfl (pv 0)) (fun _ _ _ _ _ _ _ => (pg_name (i := 3) sc__is_sight.nd rfl (by first | exact Or.inl rfl | exact Or.inr rfl))) (fun _ _ _ _ _ _ _ => pts_nil) (fun _ _ _ _ _ _ _ => (pe_call (ok__are_heard Y) ((room_gen (k := 4) (hr.mono (by decide)) _).mono (by decide)) (by rfl) Y.d__are_heard.g Y.d__are_heard.kp Y.d__are_heard.b .nil pass0 (pa_cons (pv 3) (pa_cons (pv 2) pa_nil))))))))), ?_⟩
    refine ⟨v, rfl, _, rfl, _, rfl, v, d, h, h, rfl, ht, _, rfl, ?_⟩
    refine ite2 (fun c => ?_) (fun c => ?_)
    · obtain ⟨ds, rfl, _, _⟩ := isLs_list c
      cases ht with
      | lst n ha l =>
        refine all_treeV (heardB cr) rfl ha l (tab__is_sight hT) (fun x d H' hd t k R hR => ?_) fun H' k => ?_
        · exact ⟨rfl, x, rfl, _, rfl, x, d, cr, rfl, t, sz_in hd hz, hT.kx k, fun H'' k2 => ⟨_, rfl, hR H'' k2⟩⟩
        · have := q H' k
          simp only [sightB, c, Bool.true_and] at this
          exact this
    · rw [Bool.not_eq_true] at c
      have := q H (Kx.refl _)
      rw [show sightB h cr d = false from lsall_false c] at this
      exact this
def sp_are_sights (ta : String → Addr) : Sp := fun vs H Q _ => ∃ v d h cr, vs = [v, .int h, .int cr] ∧ Tr [] H v d ∧ sz d ≤ 100000 ∧ Tb (Ts ta) H ∧ ∀ H', Kx [] H H' → Q (.bl (sightsB h cr d)) H'
theorem ok__are_sights (Y : Facts K mg base fa fd ca ta) : FnOk P w K mg base CX0 8 (fa "_are_sights") (fd "_are_sights") ["thing", "hours", "craft"] (sp_are_sights ta) := by
  refine Y.d__are_sights.ok sc__are_sights (fun vs H Q E h => ?_) (fun cdv A outer s H vs Q E hcd hr h => ?_)
  · obtain ⟨v, d, h, cr, rfl, _⟩ := h; rfl
  · obtain ⟨v, d, h, cr, rfl, ht, hz, hT, q⟩ := h
    refine ⟨_, (pss_one (ps_ret (pe_and (pe_call (ok_is_list Y) (hr.mono (by decide)) (by rfl) Y.d_is_list.g Y.d_is_list.kp Y.d_is_list.b .nil pass0 (pa_cons (pv 0) (pa_cons pe_int (pa_cons (pe_gint (by rfl) Y.c_MOST_DISHES) pa_nil)))) (pe_one (pe_allG (own := [("sight", 3)]) (g := gName 3) (tt := tYes) (hr.mono (by decide)) rfl sc__are_sights.nd (by rfl) Y.b.all Y.t__are_sights.tb (hcd.symm.trans Y.t__are_sights.code) (gok_by (N := ["thing", "hours", "craft", "sight"]) (sc := defScope s__are_sights) (by decide +kernel)) (pi_listK K rfl (pv 0)) (fun _ _ _ _ _ _ _ => (pg_name (i := 3) sc__are_sights.nd rfl (by first | exact Or.inl rfl | exact Or.inr rfl))) (fun _ _ _ _ _ _ _ => pts_nil) (fun _ _ _ _ _ _ _ => (pe_call (ok__is_sight Y) ((room_gen (k := 6) (hr.mono (by decide)) _).mono (by decide)) (by rfl) Y.d__is_sight.g Y.d__is_sight.kp Y.d__is_sight.b .nil pass0 (pa_cons (pv 3) (pa_cons (pv 1) (pa_cons (pv 2) pa_nil)))))))))), ?_⟩
    refine ⟨v, rfl, v, d, 1, 3, rfl, ht, _, rfl, ?_⟩
    refine ite2 (fun c => ?_) (fun c => ?_)
    · obtain ⟨ds, rfl, _, _⟩ := isLs_list c
      cases ht with
      | lst n ha l =>
        refine all_treeV (sightB h cr) rfl ha l (tab__are_sights hT) (fun x d H' hd t k R hR => ?_) fun H' k => ?_
        · exact ⟨rfl, x, rfl, _, rfl, _, rfl, x, d, h, cr, rfl, t, sz_in hd hz, hT.kx k, fun H'' k2 => ⟨_, rfl, hR H'' k2⟩⟩
        · have := q H' k
          simp only [sightsB, c, Bool.true_and] at this
          exact this
    · rw [Bool.not_eq_true] at c
      have := q H (Kx.refl _)
      rw [show sightsB h cr d = false from lsall_false c] at this
      exact this
def sp_are_stores (ta : String → Addr) : Sp := fun vs H Q _ => ∃ v d, vs = [v] ∧ Tr [] H v d ∧ Tb (Ts ta) H ∧ ∀ H', Kx [] H H' → Q (.bl (storesB d)) H'
theorem ok__are_stores (Y : Facts K mg base fa fd ca ta) : FnOk P w K mg base CX0 4 (fa "_are_stores") (fd "_are_stores") ["thing"] (sp_are_stores ta) := by
  refine Y.d__are_stores.ok sc__are_stores (fun vs H Q E h => ?_) (fun cdv A outer s H vs Q E hcd hr h => ?_)
  · obtain ⟨v, d, rfl, _⟩ := h; rfl
  · obtain ⟨v, d, rfl, ht, hT, q⟩ := h
    refine ⟨_, (pss_one (ps_ret (pe_and (pe_call (ok_is_list Y) (hr.mono (by decide)) (by rfl) Y.d_is_list.g Y.d_is_list.kp Y.d_is_list.b .nil pass0 (pa_cons (pv 0) (pa_cons pe_int (pa_cons (pe_gint (by rfl) Y.c_MOST_CRAFT) pa_nil)))) (pe_one (pe_allG (own := [("store", 1)]) (g := gName 1) (tt := tYes) (hr.mono (by decide)) rfl sc__are_stores.nd (by rfl) Y.b.all Y.t__are_stores.tb (hcd.symm.trans Y.t__are_stores.code) (gok_by (N := ["thing", "store"]) (sc := defScope s__are_stores) (by decide +kernel)) (pi_listK K rfl (pv 0)) (fun _ _ _ _ _ _ _ => (pg_name (i := 1) sc__are_stores.nd rfl (by first | exact Or.inl rfl | exact Or.inr rfl))) (fun _ _ _ _ _ _ _ => pts_nil) (fun _ _ _ _ _ _ _ => (pe_call (ok_is_whole Y) ((room_gen (k := 2) (hr.mono (by decide)) _).mono (by decide)) (by rfl) Y.d_is_whole.g Y.d_is_whole.kp Y.d_is_whole.b .nil pass0 (pa_cons (pv 1) (pa_cons pe_int (pa_cons (pe_gint (by rfl) Y.c_MOST_STORE) pa_nil)))))))))), ?_⟩
    refine ⟨v, rfl, v, d, 1, 4, rfl, ht, _, rfl, ?_⟩
    refine ite2 (fun c => ?_) (fun c => ?_)
    · obtain ⟨ds, rfl, _, _⟩ := isLs_list c
      cases ht with
      | lst n ha l =>
        refine all_treeV (isWh 0 5) rfl ha l (tab__are_stores hT) (fun x d H' hd t k R hR => ?_) fun H' k => ?_
        · exact ⟨rfl, x, rfl, x, d, 0, 5, rfl, t, _, rfl, hR H' (Kx.refl _)⟩
        · have := q H' k
          simp only [storesB, c, Bool.true_and] at this
          exact this
    · rw [Bool.not_eq_true] at c
      have := q H (Kx.refl _)
      rw [show storesB d = false from lsall_false c] at this
      exact this
def sp_are_asks (ta : String → Addr) : Sp := fun vs H Q _ => ∃ v d n, vs = [v, .int n] ∧ Tr [] H v d ∧ Tb (Ts ta) H ∧ ∀ H', Kx [] H H' → Q (.bl (asksB n d)) H'
theorem isNone_v {B : List Addr} {H : Hp} {x : V} {d : PyData} (t : Tr B H x d) : decide (x = V.non) = isNone d := by
  cases t <;> first | rfl | exact decide_eq_false (fun z => by cases z)
theorem ok__are_asks (Y : Facts K mg base fa fd ca ta) : FnOk P w K mg base CX0 4 (fa "_are_asks") (fd "_are_asks") ["thing", "dishes"] (sp_are_asks ta) := by
  refine Y.d__are_asks.ok sc__are_asks (fun vs H Q E h => ?_) (fun cdv A outer s H vs Q E hcd hr h => ?_)
  · obtain ⟨v, d, n, rfl, _⟩ := h; rfl
  · obtain ⟨v, d, n, rfl, ht, hT, q⟩ := h
    refine ⟨_, (pss_one (ps_ret (pe_and (pe_call (ok_is_list Y) (hr.mono (by decide)) (by rfl) Y.d_is_list.g Y.d_is_list.kp Y.d_is_list.b .nil pass0 (pa_cons (pv 0) (pa_cons (pv 1) (pa_cons (pv 1) pa_nil)))) (pe_one (pe_allG (own := [("ask", 2)]) (g := gName 2) (tt := tYes) (hr.mono (by decide)) rfl sc__are_asks.nd (by rfl) Y.b.all Y.t__are_asks.tb (hcd.symm.trans Y.t__are_asks.code) (gok_by (N := ["thing", "dishes", "ask"]) (sc := defScope s__are_asks) (by decide +kernel)) (pi_listK K rfl (pv 0)) (fun _ _ _ _ _ _ _ => (pg_name (i := 2) sc__are_asks.nd rfl (by first | exact Or.inl rfl | exact Or.inr rfl))) (fun _ _ _ _ _ _ _ => pts_nil) (fun _ _ _ _ _ _ _ => (pe_or (pe_cmpR op_isN (pv 2) pe_non (nomark _)) (pe_one (pe_call (ok_is_whole Y) ((room_gen (k := 2) (hr.mono (by decide)) _).mono (by decide)) (by rfl) Y.d_is_whole.g Y.d_is_whole.kp Y.d_is_whole.b .nil pass0 (pa_cons (pv 2) (pa_cons pe_int (pa_cons (pe_gint (by rfl) Y.c_MOST_ASK) pa_nil)))))))))))), ?_⟩
    refine ⟨v, rfl, _, rfl, _, rfl, v, d, n, n, rfl, ht, _, rfl, ?_⟩
    refine ite2 (fun c => ?_) (fun c => ?_)
    · obtain ⟨ds, rfl, _, _⟩ := isLs_list c
      cases ht with
      | lst m ha l =>
        refine all_treeV (fun a => isNone a || isWh 0 999 a) rfl ha l (tab__are_asks hT) (fun x d H' hd t k R hR => ?_) fun H' k => ?_
        · refine ⟨rfl, x, rfl, rfl, _, rfl, ?_⟩
          rw [isNone_v t]
          refine ite2 (fun c => ?_) (fun c => ?_)
          · refine ⟨_, rfl, ?_⟩
            have := hR H' (Kx.refl _)
            rw [c] at this
            exact this
          · rw [Bool.not_eq_true] at c
            refine ⟨x, rfl, x, d, 0, 999, rfl, t, _, rfl, ?_⟩
            have := hR H' (Kx.refl _)
            rw [c] at this
            exact this
        · have := q H' k
          simp only [asksB, c, Bool.true_and] at this
          exact this
    · rw [Bool.not_eq_true] at c
      have := q H (Kx.refl _)
      rw [show asksB n d = false from lsall_false c] at this
      exact this
def sp_is_block : Sp := fun vs H Q _ => ∃ v d h cr, vs = [v, .int h, .int cr] ∧ Tr [] H v d ∧ Q (.bl (blockB h cr d)) H
theorem TrAll.five {B : List Addr} {H : Hp} {xs : List V} {a b c d e : PyData} (h : TrAll B H xs [a, b, c, d, e]) : ∃ v1 v2 v3 v4 v5, xs = [v1, v2, v3, v4, v5] ∧ Tr B H v1 a ∧ Tr B H v2 b ∧ Tr B H v3 c ∧ Tr B H v4 d ∧ Tr B H v5 e := by
  cases h with
  | cons h1 r => cases r with
    | cons h2 r => cases r with
      | cons h3 r => cases r with
        | cons h4 r => cases r with
          | cons h5 r => cases r; exact ⟨_, _, _, _, _, rfl, h1, h2, h3, h4, h5⟩
/-- a && .. answered from the left -/
theorem andV {a b : Bool} {A : Prop} {R : Bool → Prop} (q : R (a && b)) (h1 : a = true → R b → A) : if a = true then A else R false := by
  cases a with
  | true => exact iteT (h1 rfl q)
  | false => exact iteF q
theorem orV {a b : Bool} {A : Prop} {R : Bool → Prop} (q : R (a || b)) (h1 : a = false → R b → A) : if a = true then R true else A := by
  cases a with
  | true => exact iteT q
  | false => exact iteF (h1 rfl q)
theorem ok_is_block (Y : Facts K mg base fa fd ca ta) : FnOk P w K mg base CX0 3 (fa "is_block") (fd "is_block") ["thing", "hours", "craft"] sp_is_block := by
  refine Y.d_is_block.ok sc_is_block (fun vs H Q E h => ?_) (fun cdv A outer s H vs Q E hcd hr h => ?_)
  · obtain ⟨v, d, h, cr, rfl, _⟩ := h; rfl
  · obtain ⟨v, d, h, cr, rfl, ht, q⟩ := h
    refine ⟨_, (pss_cons (ps_if (pt_not (pt_val (pe_call (ok_is_tuple Y) (hr.mono (by decide)) (by rfl) Y.d_is_tuple.g Y.d_is_tuple.kp Y.d_is_tuple.b .nil pass0 (pa_cons (pv 0) (pa_cons pe_int pa_nil))))) (pss_one (ps_ret pe_bl)) pss_nil)
      (pss_cons (ps_asg (pv 0) (pg_tupK (n := 5) K rfl rfl (pgs_cons (pg_name (i := 3) sc_is_block.nd rfl (by first | exact Or.inl rfl | exact Or.inr rfl)) (pgs_cons (pg_name (i := 4) sc_is_block.nd rfl (by first | exact Or.inl rfl | exact Or.inr rfl)) (pgs_cons (pg_name (i := 5) sc_is_block.nd rfl (by first | exact Or.inl rfl | exact Or.inr rfl)) (pgs_cons (pg_name (i := 6) sc_is_block.nd rfl (by first | exact Or.inl rfl | exact Or.inr rfl)) (pgs_cons (pg_name (i := 7) sc_is_block.nd rfl (by first | exact Or.inl rfl | exact Or.inr rfl)) pgs_nil)))))))
      (pss_one (ps_ret (pe_and (pe_call (ok_is_whole Y) (hr.mono (by decide)) (by rfl) Y.d_is_whole.g Y.d_is_whole.kp Y.d_is_whole.b .nil pass0 (pa_cons (pv 3) (pa_cons pe_int (pa_cons (pe_gint (by rfl) Y.c_MOST_HOUSE) pa_nil)))) (pe_and (pe_call (ok_is_whole Y) (hr.mono (by decide)) (by rfl) Y.d_is_whole.g Y.d_is_whole.kp Y.d_is_whole.b .nil pass0 (pa_cons (pv 4) (pa_cons pe_int (pa_cons (pe_op op_sub (pv 2) pe_int) pa_nil)))) (pe_and (pe_call (ok_is_whole Y) (hr.mono (by decide)) (by rfl) Y.d_is_whole.g Y.d_is_whole.kp Y.d_is_whole.b .nil pass0 (pa_cons (pv 5) (pa_cons pe_int (pa_cons (pe_op op_sub (pv 1) pe_int) pa_nil)))) (pe_and (pe_or (pe_cmpR op_isN (pv 6) pe_non (nomark _)) (pe_one (pe_call (ok_is_whole Y) (hr.mono (by decide)) (by rfl) Y.d_is_whole.g Y.d_is_whole.kp Y.d_is_whole.b .nil pass0 (pa_cons (pv 6) (pa_cons (pv 5) (pa_cons (pe_op op_sub (pv 1) pe_int) pa_nil)))))) (pe_one (pe_call (ok_is_whole Y) (hr.mono (by decide)) (by rfl) Y.d_is_whole.g Y.d_is_whole.kp Y.d_is_whole.b .nil pass0 (pa_cons (pv 7) (pa_cons pe_int (pa_cons (pe_gint (by rfl) Y.c_MOST_WORTH) pa_nil))))))))))))), ?_⟩
    refine ⟨v, rfl, v, d, 5, rfl, ht, _, rfl, ?_⟩
    refine ite2 (fun c => ?_) (fun c => ?_)
    · have e : blockB h cr d = false := by
        cases d with
        | tuple xs =>
          match xs with
          | [a, b, c', d', e'] => cases c
          | [] => rfl
          | [_] => rfl
          | [_, _] => rfl
          | [_, _, _] => rfl
          | [_, _, _, _] => rfl
          | _ :: _ :: _ :: _ :: _ :: _ :: _ => rfl
        | _ => rfl
      rw [e] at q
      exact q
    · have c : isTp 5 d = true := by
        cases z : isTp 5 d with
        | true => rfl
        | false => rw [z] at c; exact absurd rfl c
      obtain ⟨ds, rfl, hl⟩ := isTp_tuple c
      obtain ⟨ho, nu, re, du, wo, rfl⟩ := tuple5 hl
      cases ht with
      | tup m ha l =>
        rename_i a xs
        obtain ⟨v1, v2, v3, v4, v5, rfl, t1, t2, t3, t4, t5⟩ := TrAll.five l
        refine ⟨.ref a, rfl, a, _, rfl, SqT.of ha, rfl, v1, _, rfl, v2, _, rfl, v3, _, rfl, v4, _, rfl, v5, _, rfl, rfl, ?_⟩
        refine ⟨_, rfl, _, ho, 0, 5, rfl, t1, _, rfl, andV (R := fun b => Q (.bl b) H) q fun _ q => ?_⟩
        refine ⟨_, rfl, _, rfl, _, _, rfl, rfl, _, nu, 0, cr - 1, rfl, t2, _, rfl, andV (R := fun b => Q (.bl b) H) q fun _ q => ?_⟩
        refine ⟨_, rfl, _, rfl, _, _, rfl, rfl, _, re, 0, h - 1, rfl, t3, _, rfl, andV (R := fun b => Q (.bl b) H) q fun c3 q => ?_⟩
        obtain ⟨r, rfl, _, _⟩ := isWh_int c3
        cases t3
        refine ⟨_, rfl, rfl, _, rfl, ?_⟩
        rw [isNone_v t4]
        cases hn : isNone du with
        | true =>
          rw [hn] at q
          refine iteT ⟨_, rfl, andV (R := fun b => Q (.bl b) H) q fun _ q => ?_⟩
          exact ⟨v5, rfl, v5, wo, 1, 9999, rfl, t5, q⟩
        | false =>
          rw [hn] at q
          refine iteF ⟨v4, rfl, _, rfl, _, rfl, _, _, rfl, rfl, v4, du, r, h - 1, rfl, t4, _, rfl, andV (R := fun b => Q (.bl b) H) q fun _ q => ?_⟩
          exact ⟨v5, rfl, v5, wo, 1, 9999, rfl, t5, q⟩
      | _ => cases c
def sp_are_blocks (ta : String → Addr) : Sp := fun vs H Q _ => ∃ v d h cr, vs = [v, .int h, .int cr] ∧ Tr [] H v d ∧ Tb (Ts ta) H ∧ ∀ H', Kx [] H H' → Q (.bl (blocksB h cr d)) H'
theorem ok__are_blocks (Y : Facts K mg base fa fd ca ta) : FnOk P w K mg base CX0 5 (fa "_are_blocks") (fd "_are_blocks") ["thing", "hours", "craft"] (sp_are_blocks ta) := by
  refine Y.d__are_blocks.ok sc__are_blocks (fun vs H Q E h => ?_) (fun cdv A outer s H vs Q E hcd hr h => ?_)
  · obtain ⟨v, d, h, cr, rfl, _⟩ := h; rfl
  · obtain ⟨v, d, h, cr, rfl, ht, hT, q⟩ := h
    refine ⟨_, (pss_one (ps_ret (pe_and (pe_call (ok_is_list Y) (hr.mono (by decide)) (by rfl) Y.d_is_list.g Y.d_is_list.kp Y.d_is_list.b .nil pass0 (pa_cons (pv 0) (pa_cons pe_int (pa_cons (pe_gint (by rfl) Y.c_MOST_BLOCKS) pa_nil)))) (pe_one (pe_allG (own := [("block", 3)]) (g := gName 3) (tt := tYes) (hr.mono (by decide)) rfl sc__are_blocks.nd (by rfl) Y.b.all Y.t__are_blocks.tb (hcd.symm.trans Y.t__are_blocks.code) (gok_by (N := ["thing", "hours", "craft", "block"]) (sc := defScope s__are_blocks) (by decide +kernel)) (pi_listK K rfl (pv 0)) (fun _ _ _ _ _ _ _ => (pg_name (i := 3) sc__are_blocks.nd rfl (by first | exact Or.inl rfl | exact Or.inr rfl))) (fun _ _ _ _ _ _ _ => pts_nil) (fun _ _ _ _ _ _ _ => (pe_call (ok_is_block Y) ((room_gen (k := 3) (hr.mono (by decide)) _).mono (by decide)) (by rfl) Y.d_is_block.g Y.d_is_block.kp Y.d_is_block.b .nil pass0 (pa_cons (pv 3) (pa_cons (pv 1) (pa_cons (pv 2) pa_nil)))))))))), ?_⟩
    refine ⟨v, rfl, v, d, 0, 14, rfl, ht, _, rfl, ?_⟩
    refine ite2 (fun c => ?_) (fun c => ?_)
    · obtain ⟨ds, rfl, _, _⟩ := isLs_list c
      cases ht with
      | lst n ha l =>
        refine all_treeV (blockB h cr) rfl ha l (tab__are_blocks hT) (fun x d H' hd t k R hR => ?_) fun H' k => ?_
        · exact ⟨rfl, x, rfl, _, rfl, _, rfl, x, d, h, cr, rfl, t, _, rfl, hR H' (Kx.refl _)⟩
        · have := q H' k
          simp only [blocksB, c, Bool.true_and] at this
          exact this
    · rw [Bool.not_eq_true] at c
      have := q H (Kx.refl _)
      rw [show blocksB h cr d = false from lsall_false c] at this
      exact this
/-! ### a day -/
theorem storesB_list {d : PyData} (h : storesB d = true) : ∃ xs, d = .list xs := by
  have h1 : isLs 1 4 d = true := (Bool.and_eq_true_iff.mp h).1
  obtain ⟨xs, e, _⟩ := isLs_list h1
  exact ⟨xs, e⟩
theorem sightsB_list {a b : Int} {d : PyData} (h : sightsB a b d = true) : ∃ xs, d = .list xs := by
  have h1 : isLs 1 3 d = true := (Bool.and_eq_true_iff.mp h).1
  obtain ⟨xs, e, _⟩ := isLs_list h1
  exact ⟨xs, e⟩
def sp_is_day (ta : String → Addr) : Sp := fun vs H Q _ => ∃ v d, vs = [v] ∧ Tr [] H v d ∧ sz d ≤ 100000 ∧ Tb (Ts ta) H ∧ ∀ H', Kx [] H H' → Q (.bl (isDayB d)) H'
theorem ok_is_day (Y : Facts K mg base fa fd ca ta) : FnOk P w K mg base CX0 9 (fa "is_day") (fd "is_day") ["thing"] (sp_is_day ta) := by
  refine Y.d_is_day.ok sc_is_day (fun vs H Q E h => ?_) (fun cdv A outer s H vs Q E hcd hr h => ?_)
  · obtain ⟨v, d, rfl, _⟩ := h; rfl
  · obtain ⟨v, d, rfl, ht, hz, hT, q⟩ := h
    refine ⟨_, (pss_cons (ps_if (pt_not (pt_val (pe_call (ok_is_tuple Y) (hr.mono (by decide)) (by rfl) Y.d_is_tuple.g Y.d_is_tuple.kp Y.d_is_tuple.b .nil pass0 (pa_cons (pv 0) (pa_cons pe_int pa_nil))))) (pss_one (ps_ret pe_bl)) pss_nil)
      (pss_cons (ps_asg (pv 0) (pg_tupK (n := 5) K rfl rfl (pgs_cons (pg_name (i := 1) sc_is_day.nd rfl (by first | exact Or.inl rfl | exact Or.inr rfl)) (pgs_cons (pg_name (i := 2) sc_is_day.nd rfl (by first | exact Or.inl rfl | exact Or.inr rfl)) (pgs_cons (pg_name (i := 3) sc_is_day.nd rfl (by first | exact Or.inl rfl | exact Or.inr rfl)) (pgs_cons (pg_name (i := 4) sc_is_day.nd rfl (by first | exact Or.inl rfl | exact Or.inr rfl)) (pgs_cons (pg_name (i := 5) sc_is_day.nd rfl (by first | exact Or.inl rfl | exact Or.inr rfl)) pgs_nil)))))))
      (pss_one (ps_ret (pe_and (pe_call (ok_is_whole Y) (hr.mono (by decide)) (by rfl) Y.d_is_whole.g Y.d_is_whole.kp Y.d_is_whole.b .nil pass0 (pa_cons (pv 1) (pa_cons pe_int (pa_cons (pe_gint (by rfl) Y.c_MOST_HOURS) pa_nil)))) (pe_and (pe_call (ok__are_stores Y) (hr.mono (by decide)) (by rfl) Y.d__are_stores.g Y.d__are_stores.kp Y.d__are_stores.b .nil pass0 (pa_cons (pv 2) pa_nil)) (pe_and (pe_call (ok__are_sights Y) (hr.mono (by decide)) (by rfl) Y.d__are_sights.g Y.d__are_sights.kp Y.d__are_sights.b .nil pass0 (pa_cons (pv 3) (pa_cons (pv 1) (pa_cons (pe_callB (call_lenK K rfl) (by rfl) Y.b.len (by decide +kernel) (pa_cons (pv 2) pa_nil)) pa_nil)))) (pe_and (pe_call (ok__are_asks Y) (hr.mono (by decide)) (by rfl) Y.d__are_asks.g Y.d__are_asks.kp Y.d__are_asks.b .nil pass0 (pa_cons (pv 4) (pa_cons (pe_callB (call_lenK K rfl) (by rfl) Y.b.len (by decide +kernel) (pa_cons (pv 3) pa_nil)) pa_nil))) (pe_one (pe_call (ok__are_blocks Y) (hr.mono (by decide)) (by rfl) Y.d__are_blocks.g Y.d__are_blocks.kp Y.d__are_blocks.b .nil pass0 (pa_cons (pv 5) (pa_cons (pv 1) (pa_cons (pe_callB (call_lenK K rfl) (by rfl) Y.b.len (by decide +kernel) (pa_cons (pv 2) pa_nil)) pa_nil))))))))))))), ?_⟩
    refine ⟨v, rfl, v, d, 5, rfl, ht, _, rfl, ?_⟩
    refine ite2 (fun c => ?_) (fun c => ?_)
    · have e : isDayB d = false := by
        cases d with
        | tuple xs =>
          match xs with
          | [a, b, c', d', e'] => cases c
          | [] => rfl
          | [_] => rfl
          | [_, _] => rfl
          | [_, _, _] => rfl
          | [_, _, _, _] => rfl
          | _ :: _ :: _ :: _ :: _ :: _ :: _ => rfl
        | _ => rfl
      have := q H (Kx.refl _)
      rw [e] at this
      exact this
    · have c : isTp 5 d = true := by
        cases z : isTp 5 d with
        | true => rfl
        | false => rw [z] at c; exact absurd rfl c
      obtain ⟨ds, rfl, hl⟩ := isTp_tuple c
      obtain ⟨ho, st, si, as, bl, rfl⟩ := tuple5 hl
      cases ht with
      | tup m ha l =>
        rename_i a xs
        obtain ⟨v1, v2, v3, v4, v5, rfl, t1, t2, t3, t4, t5⟩ := TrAll.five l
        refine ⟨.ref a, rfl, a, _, rfl, SqT.of ha, rfl, v1, _, rfl, v2, _, rfl, v3, _, rfl, v4, _, rfl, v5, _, rfl, rfl, ?_⟩
        refine ⟨_, rfl, _, ho, 1, 10, rfl, t1, _, rfl, andV (R := fun b => Q (.bl b) H) (q H (Kx.refl _)) fun c1 q1 => ?_⟩
        obtain ⟨hn, rfl, _, _⟩ := isWh_int c1
        cases t1
        have q2 : ∀ H', Kx [] H H' → Q (.bl (storesB st && (sightsB hn (lenD st) si && (asksB (lenD si) as && blocksB hn (lenD st) bl)))) H' := fun H' k => by
          have := q H' k
          simp only [isDayB, c1, Bool.true_and] at this
          exact this
        refine ⟨_, rfl, v2, st, rfl, t2, hT, fun H1 k1 => ⟨_, rfl, andV (R := fun b => Q (.bl b) H1) (q2 H1 k1) fun c2 q3 => ?_⟩⟩
        obtain ⟨sts, rfl⟩ := storesB_list c2
        cases t2 with
        | lst n2 h2 l2 =>
          rename_i a2 xs2
          have e2 := l2.length
          refine ⟨_, rfl, _, rfl, .ref a2, rfl, a2, xs2, rfl, .inl (SqL.of (k1.lst (by simp) h2)), v3, si, hn, (xs2.length : Int), rfl, t3.up k1, sz_inT (by simp) hz, hT.kx k1, fun H2 k2 => ⟨_, rfl, andV (b := asksB (lenD si) as && blocksB hn (lenD (.list sts)) bl) (R := fun b => Q (.bl b) H2) (q := ?_) fun c3 q4 => ?_⟩⟩
          · have := q2 H2 (k1.trans k2)
            rw [c2, Bool.true_and] at this
            rw [e2]
            exact this
          · obtain ⟨sis, rfl⟩ := sightsB_list c3
            cases t3 with
            | lst n3 h3 l3 =>
              rename_i a3 xs3
              have e3 := l3.length
              have k12 := k1.trans k2
              refine ⟨_, rfl, .ref a3, rfl, a3, xs3, rfl, .inl (SqL.of (k12.lst (by simp) h3)), v4, as, (xs3.length : Int), rfl, t4.up k12, hT.kx k12, fun H3 k3 => ⟨_, rfl, andV (b := blocksB hn (lenD (.list sts)) bl) (R := fun b => Q (.bl b) H3) (q := ?_) fun c4 q5 => ?_⟩⟩
              · have := q2 H3 (k12.trans k3)
                rw [c2, Bool.true_and] at this
                rw [e2] at c3
                rw [show sightsB hn (lenD (.list sts)) (.list sis) = true from c3, Bool.true_and] at this
                rw [e3]
                exact this
              · have k123 := k12.trans k3
                refine ⟨_, rfl, _, rfl, .ref a2, rfl, a2, xs2, rfl, .inl (SqL.of (k123.lst (by simp) h2)), v5, bl, hn, (xs2.length : Int), rfl, t5.up k123, hT.kx k123, fun H4 k4 => ?_⟩
                have := q2 H4 (k123.trans k4)
                rw [c2, Bool.true_and] at this
                rw [e2] at c3 ⊢
                rw [e3] at c4
                rw [show sightsB hn (lenD (.list sts)) (.list sis) = true from c3, Bool.true_and, show asksB (lenD (.list sis)) as = true from c4, Bool.true_and] at this
                exact this
      | _ => cases c
end
end Law

set_option Elab.async false
set_option linter.all false
set_option maxRecDepth 100000
set_option maxHeartbeats 4000000
namespace Law
open PySem PySem.Spec PyProof.Rows L2 GxR GX Tree Kit Data Loops Comps Purse Day SetG SetL
section
variable {P : Program} {w : World} {K : PySem.W.Frag} {mg : Str → Option Value} {base : Heap} {fa : String → Addr} {fd : String → FuncData} {ca ta : String → Addr} {cs : String → Addr} {fm : String → String → Addr} {fdm : String → String → FuncData}
/-! ### a day is a day -/
theorem isDayB_of {d : PyData} {D : Dy} (h : isDayB d = true) (e : d = dayD D) : isDayB (dayD D) = true := e ▸ h
def sp_need_day (cs : String → Addr) (ta : String → Addr) : Sp := fun vs H Q E => ∃ v d, vs = [v] ∧ Tr [] H v d ∧ sz d ≤ 100000 ∧ Tb (Ts ta) H ∧ (isDayB d = true → ∀ H', Kx [] H H' → Q .non H') ∧ (isDayB d = false → ∀ H', Kx [] H H' → E (.ref (cs "NoDay")) none H')
theorem ok_need_day (Y : Facts K mg base fa fd ca ta) (Z : CFacts K mg cs fm fdm) : FnOk P w K mg base (L2.CX P w) 10 (fa "need_day") (fd "need_day") ["thing"] (sp_need_day cs ta) := by
  refine Y.d_need_day.okX sc_need_day (fun vs H Q E h => ?_) (fun cdv A outer s H vs Q E hcd hr h => ?_)
  · obtain ⟨v, d, rfl, _⟩ := h; rfl
  · obtain ⟨v, d, rfl, ht, hz, hT, q, qx⟩ := h
    refine ⟨_, (pss_one (ps_if (pt_not (pt_val (pe_call (ok_is_day Y) (hr.mono (by decide)) (by rfl) Y.d_is_day.g Y.d_is_day.kp Y.d_is_day.b .nil pass0 (pa_cons (pv 0) pa_nil)))) (pss_one (ps_raise rfl (takes_of rfl rfl rfl rfl) (pmk_own PySem.F.excBase_ValueError Z.xi_NoDay Z.g_NoDay Z.k_NoDay (raises_own Z.b_NoDay Z.t_NoDay) rfl))) pss_nil)), ?_⟩
    refine ⟨v, rfl, v, d, rfl, ht, hz, hT, fun H' k => ⟨_, rfl, ?_⟩⟩
    cases hd : isDayB d with
    | true => exact iteF (q hd H' k)
    | false => exact iteT (qx hd H' k)
/-- an item of a list of trees, by a place within -/
theorem ixT {B : List Addr} {H : Hp} {v : V} {ds : List PyData} (t : Tr B H v (.list ds)) {i : Int} (h0 : 0 ≤ i) (h1 : i < (ds.length : Int)) : ∃ a xs x, v = .ref a ∧ H a = some (.lst xs) ∧ atI xs i = some x ∧ Tr B H x (ds.getD i.toNat .none) := by
  obtain ⟨a, xs, rfl, ex, tx⟩ := t.listV
  have hl : i.toNat < ds.length := by omega
  obtain ⟨x, e1, e2⟩ := tx.get' (List.getElem?_eq_getElem hl)
  have := atI_nat e1
  rw [show ((i.toNat : Nat) : Int) = i by omega] at this
  exact ⟨a, xs, x, rfl, ex, this, by rw [List.getD_eq_getElem?_getD, List.getElem?_eq_getElem hl]; exact e2⟩
theorem getD_map {α : Type} (f : α → PyData) (l : List α) (i : Nat) (d : α) (e : PyData) (h : i < l.length) : (l.map f).getD i e = f (l.getD i d) := by
  rw [List.getD_eq_getElem?_getD, List.getD_eq_getElem?_getD, List.getElem?_map, List.getElem?_eq_getElem h]
  rfl
theorem inV_ints (c : Int) (r : List Int) : inV (.int c) (r.map V.int) = r.contains c := by
  unfold inV
  rw [List.any_map, List.contains_eq_any_beq]
  congr 1
  funext x
  show (x == c) = (c == x)
  exact BEq.comm
theorem flat_ints (r : List Int) : (r.map V.int).all flatV = true := List.all_eq_true.mpr fun x hx => by
  obtain ⟨n, _, rfl⟩ := List.mem_map.mp hx
  rfl
end
end Law

set_option Elab.async false
set_option linter.all false
set_option maxRecDepth 100000
set_option maxHeartbeats 4000000
namespace Law
open PySem PySem.Spec PyProof.Rows L2 GxR GX Tree Kit Data Loops Comps Purse Day SetG SetL Loops3 Obj Enum Wipe Txts Lit
/-! ### a day as text -/
def heardW (r : List Int) : Str := if r.isEmpty then "-" else Txt.join "," (r.map nT)
def askW : Option Int → Str
  | none => "own"
  | some i => nT i
def dueW : Option Int → Str
  | none => "-"
  | some i => nT i
def dishWs (a : Option Int) (s : List (List Int)) : List Str := "dish" :: askW a :: s.map heardW
def blockWs (b : Blk) : List Str := ["block", nT b.house, nT b.craft, nT b.ready, dueW b.due, nT b.worth]
def dishesOf (D : Dy) : List (List Str) := (List.range D.sights.length).map fun d => dishWs (D.asks.getD d none) (D.sights.getD d [])
def wordsOf (D : Dy) : List (List Str) := ([("hours" : Str), nT D.hours] : List Str) :: (D.stores.map (fun s => ([("store" : Str), nT s] : List Str)) ++ (dishesOf D ++ D.blocks.map blockWs))
def rowOf (ws : List Str) : Str := Txt.join " " ws
def rowsOf (D : Dy) : List Str := (wordsOf D).map rowOf
def textD (D : Dy) : Str := Txt.join "\n" (rowsOf D)
theorem log_ok {i : Int} (h0 : 0 ≤ i) (h : i ≤ 9999) : i.natAbs.log2 < 1920 := by
  have := PySem.Flt.log2_lt_of (k := 14) (n := i.natAbs) (by decide) (by omega)
  omega
theorem sum_le {ys : List Str} {m : Nat} (h : ∀ y ∈ ys, y.length ≤ m) : (ys.map (·.length)).sum ≤ ys.length * m := by
  induction ys with
  | nil => simp
  | cons y r ih =>
    have h1 := h y (by simp)
    have h2 := ih fun z hz => h z (by simp [hz])
    rw [List.map_cons, List.sum_cons, List.length_cons, Nat.succ_mul]
    omega
theorem tailJ_len {s : Str} {ys : List Str} {m : Nat} (h : ∀ y ∈ ys, y.length ≤ m) : (tailJ s ys).length ≤ ys.length * (m + s.length) := by
  induction ys with
  | nil => exact Nat.zero_le _
  | cons y r ih =>
    have h1 := h y (by simp)
    have h2 := ih fun z hz => h z (by simp [hz])
    show (s ++ y ++ tailJ s r).length ≤ _
    rw [len_append, len_append, List.length_cons, Nat.succ_mul]
    omega
theorem join_len {s : Str} {ys : List Str} {m : Nat} (h : ∀ y ∈ ys, y.length ≤ m) : (Txt.join s ys).length ≤ ys.length * (m + s.length) := by
  cases ys with
  | nil =>
    rw [TL.join_eq]
    exact Nat.zero_le _
  | cons y r =>
    rw [join_tail, len_append, List.length_cons, Nat.succ_mul]
    have h1 := h y (by simp)
    have h2 := tailJ_len (s := s) (ys := r) (m := m) fun z hz => h z (by simp [hz])
    omega
theorem join_fit {s : Str} {ys : List Str} {m n : Nat} (h : ∀ y ∈ ys, y.length ≤ m) (hn : ys.length ≤ n) (hb : n * (m + s.length) ≤ 16777216) : (ys.map (·.length)).sum + ys.length * s.length ≤ 16777216 := by
  have h1 := sum_le h
  have h2 := Nat.mul_le_mul_right (m + s.length) hn
  rw [Nat.mul_add] at h2
  omega
theorem one_len : (" " : Str).length = 1 ∧ ("," : Str).length = 1 ∧ ("\n" : Str).length = 1 ∧ ("-" : Str).length = 1 ∧ ("own" : Str).length = 3 ∧ ("dish" : Str).length = 4 ∧ ("block" : Str).length = 5 ∧ ("hours" : Str).length = 5 ∧ ("store" : Str).length = 5 := by decide +kernel
theorem row_len' {c : Nat} {r : List Int} (o : RowOk c r) : r.length ≤ c := by
  have h1 : (r.map Int.toNat).Nodup := List.pairwise_map.mpr (o.up.imp_of_mem fun {a b} ha hb' h e => by have := o.bd a ha; have := o.bd b hb'; omega)
  have h2 := List.Nodup.length_le_of_subset (l₂ := List.range c) h1 (fun j hj => by
    obtain ⟨i, hi, rfl⟩ := List.mem_map.mp hj
    have := o.bd i hi
    exact List.mem_range.mpr (by omega))
  simpa using h2
theorem heardW_len {c : Nat} (hc : c ≤ 4) {r : List Int} (o : RowOk c r) : (heardW r).length ≤ 20 := by
  unfold heardW
  split
  · rw [one_len.2.2.2.1]; decide
  · have h1 := row_len' o
    have h2 := join_len (s := ",") (ys := r.map nT) (m := 4) fun y hy => by
      obtain ⟨i, hi, rfl⟩ := List.mem_map.mp hy
      have := o.bd i hi
      exact (nT_len (by omega) (by omega)).2
    rw [List.length_map, one_len.2.1] at h2
    omega
theorem askW_len {D : Dy} (hD : DyOk D) (d : Nat) : (askW (D.asks.getD d none)).length ≤ 4 := by
  cases e : D.asks.getD d none with
  | none => show ("own" : Str).length ≤ 4; rw [one_len.2.2.2.2.1]; decide
  | some i =>
    have hm : some i ∈ D.asks := by
      rw [List.getD_eq_getElem?_getD] at e
      cases h : D.asks[d]? with
      | none => rw [h] at e; cases e
      | some x => rw [h] at e; exact e ▸ List.mem_of_getElem? h
    have := hD.ab i hm
    exact (nT_len (by omega) (by omega)).2
theorem strs_tr {B : List Addr} {H : Hp} : ∀ ws : List Str, TrAll B H (ws.map V.str) (ws.map PyData.str)
  | [] => .nil
  | w :: ws => .cons (.str w) (strs_tr ws)
theorem strs_of {B : List Addr} {H : Hp} : ∀ {ws : List Str} {xs : List V}, TrAll B H xs (ws.map PyData.str) → xs = ws.map V.str
  | [], _, .nil => rfl
  | w :: ws, _, .cons h t => by
    cases h
    rw [strs_of t]
    rfl
section
variable {P : Program} {w : World} {K : PySem.W.Frag} {mg : Str → Option Value} {base : Heap} {fa : String → Addr} {fd : String → FuncData} {ca ta : String → Addr} {cs : String → Addr} {fm : String → String → Addr} {fdm : String → String → FuncData}
def sp_heard_word : Sp := fun vs H Q _ => ∃ (v : V) (r : List Int) (c : Nat), vs = [v] ∧ Tr [] H v (rowD r) ∧ RowOk c r ∧ c ≤ 4 ∧ ∀ H', Kx [] H H' → Q (.str (heardW r)) H'
theorem ok__heard_word (Y : Facts K mg base fa fd ca ta) : FnOk P w K mg base CX0 1 (fa "_heard_word") (fd "_heard_word") ["heard"] sp_heard_word := by
  refine Y.d__heard_word.ok sc__heard_word (fun vs H Q E h => ?_) (fun cdv A outer s H vs Q E hcd hr h => ?_)
  · obtain ⟨v, r, c, rfl, _⟩ := h; rfl
  · obtain ⟨v, r, c, rfl, ht, o, hc, q⟩ := h
    refine ⟨_, (pss_one (ps_ret (pe_ifExp (pt_truthK K rfl (pv 0) (fun _ => rfl)) (pe_joinK K rfl pe_str (pe_lc (own := [("craft", 1)]) (g := gName 1) (tt := tYes) rfl sc__heard_word.nd (pi_listK K rfl (pv 0)) (blkOk_by (N := ["heard", "craft"]) (sc := defScope s__heard_word) (by decide +kernel)) (fun _ _ _ _ _ => (pg_name (i := 1) sc__heard_word.nd rfl (by first | exact Or.inl rfl | exact Or.inr rfl))) (fun _ _ _ _ _ => pts_nil) (fun _ _ _ _ _ => (pe_callTy call_str_int (by rfl) Y.b.str (by decide +kernel) (pa_cons (pv 1) pa_nil))))) pe_str))), ?_⟩
    obtain ⟨a, xs, rfl, ex, tx⟩ := ht.listV
    have exs := TrAll.intsV tx (by rw [ints_back])
    rw [ints_back] at exs
    subst exs
    have lr := row_len' o
    refine st_ret ⟨.ref a, rfl, _, .inl ⟨_, SqL.of ex, rfl⟩, ?_⟩
    have e0 : (r.map V.int).isEmpty = r.isEmpty := by cases r <;> rfl
    rw [e0]
    have q := q
    unfold heardW at q
    cases hr0 : r.isEmpty with
    | true =>
      rw [hr0] at q
      exact iteF (q H (Kx.refl _))
    | false =>
    rw [hr0] at q
    refine iteT ⟨⟨_, rfl⟩, lc_use ?_⟩
    refine ⟨.ref a, rfl, a, rfl, ⟨_, SqL.of ex⟩, ?_⟩
    refine lc_mapV (fun i => .str (nT (r.getD i 0))) ex (by rw [List.length_map]; unfold sizeLine; omega) (fun i H1 hi k1 R hR => ?_) fun D1 H1 k1 hD1 e1 => ?_
    · have hi' : i < r.length := by rw [List.length_map] at hi; exact hi
      have e : (r.map V.int).getD i .non = .int (r.getD i 0) := by
        rw [getD_at _ _ (by rw [List.length_map]; exact hi'), getD_at r 0 hi', List.getElem_map]
      rw [e]
      have hb := o.bd (r.getD i 0) (by rw [getD_at r 0 hi']; exact List.getElem_mem hi')
      exact ⟨rfl, _, rfl, _, rfl, log_ok (by omega) (by omega), hR H1 (Kx.refl _)⟩
    · have er : ((List.range (r.map V.int).length).map fun i => V.str (nT (r.getD i 0))) = (r.map nT).map V.str := by
        rw [List.length_map, List.map_map]
        refine List.ext_getElem (by simp) fun i h1 h2 => ?_
        have hi : i < r.length := by simpa using h1
        rw [List.getElem_map, List.getElem_map, List.getElem_range, getD_at r 0 hi]
        rfl
      rw [er] at e1
      refine ⟨_, D1, _, rfl, rfl, .inl (SqL.of e1), join_fit (m := 4) (n := 4) (fun y hy => ?_) (by rw [List.length_map]; omega) (by rw [one_len.2.1]; decide), q H1 k1⟩
      obtain ⟨i, hi, rfl⟩ := List.mem_map.mp hy
      have := o.bd i hi
      exact (nT_len (by omega) (by omega)).2
/-- [e for i in range(n)]: the values that are made -/
theorem lc_mapRV {g : TG} {te : TE} {vs : List Nat} {σ : L2.St} {H : Hp} {Q : VK} {n : Nat} (f : Nat → V) (hN : n < sizeLine)
    (step : ∀ i H', i < n → Kx [] H H' → ∀ R : V → Hp → Prop, (∀ H'', Kx [] H' H'' → R (f i) H'') → g (.int i) (wipe σ vs) H' fun σ2 H2 => wipe σ2 vs = wipe σ vs ∧ te σ2 H2 R)
    (q : ∀ D H', Kx [] H H' → H D = none → H' D = some (.lst ((List.range n).map f)) → Q (.ref D) H') : CompG (Itr 0 n) g tYes te vs σ H Q := by
  intro D hD
  refine lc_gen (B := []) (itr_at n) hN hD (A := fun i acc _ => acc = (List.range i).map f) rfl (fun i H' acc hi k hd hacc R R0 hR hR0 => ?_) fun acc H' k hd hacc => q D H' k hD (hacc ▸ hd)
  have st := step i H' hi k R fun H'' k2 => hR (f i) H'' (k.trans k2) (k2.lst (by simp) hd) (by rw [List.range_succ, List.map_append, hacc]; rfl)
  exact st
theorem range_map {α β : Type} (f : α → β) (l : List α) (d : α) : (List.range l.length).map (fun i => f (l.getD i d)) = l.map f := by
  refine List.ext_getElem (by simp) fun i h1 h2 => ?_
  have hi : i < l.length := by simpa using h2
  rw [List.getElem_map, List.getElem_map, List.getElem_range, getD_at l d hi]
theorem empty_app (a : Str) : Str.empty ++ a = a := TL.ext_tl (by rw [tl_append]; rfl)
theorem row_two (a b : Str) : rowOf [a, b] = a ++ " " ++ b := by
  unfold rowOf
  rw [join_two, Txts.join_one]
theorem hours_lit : ("hours " : Str) = "hours" ++ " " := by decide +kernel
theorem store_lit : ("store " : Str) = "store" ++ " " := by decide +kernel
theorem block_lit : ("block " : Str) = "block" ++ " " := by decide +kernel
def sp_dish_row : Sp := fun vs H Q _ => ∃ (av sv : V) (a : Option Int) (s : List (List Int)) (c : Nat), vs = [av, sv] ∧ Tr [] H av (optD a) ∧ Tr [] H sv (sightD s) ∧ (∀ i, a = some i → 0 ≤ i ∧ i ≤ 999) ∧ s.length ≤ 10 ∧ (∀ r ∈ s, RowOk c r) ∧ c ≤ 4 ∧ ∀ H', Kx [] H H' → Q (.str (rowOf (dishWs a s))) H'
theorem dishWs_len {a : Option Int} {s : List (List Int)} {c : Nat} (ha : ∀ i, a = some i → 0 ≤ i ∧ i ≤ 999) (hr : ∀ r ∈ s, RowOk c r) (hc : c ≤ 4) : ∀ y ∈ dishWs a s, y.length ≤ 20 := fun y hy => by
  unfold dishWs at hy
  rcases List.mem_cons.mp hy with rfl | hy
  · rw [one_len.2.2.2.2.2.1]; decide
  rcases List.mem_cons.mp hy with rfl | hy
  · cases a with
    | none => show ("own" : Str).length ≤ 20; rw [one_len.2.2.2.2.1]; decide
    | some i => have := ha i rfl; have := (nT_len (i := i) (by omega) (by omega)).2; show (nT i).length ≤ 20; omega
  · obtain ⟨r, hr', rfl⟩ := List.mem_map.mp hy
    exact heardW_len hc (hr r hr')
theorem ok__dish_row (Y : Facts K mg base fa fd ca ta) : FnOk P w K mg base CX0 2 (fa "_dish_row") (fd "_dish_row") ["ask", "sight"] sp_dish_row := by
  refine Y.d__dish_row.ok sc__dish_row (fun vs H Q E h => ?_) (fun cdv A outer s H vs Q E hcd hr h => ?_)
  · obtain ⟨av, sv, a, s, c, rfl, _⟩ := h; rfl
  · obtain ⟨av, sv, a, si, c, rfl, ta', ts, ha, hl, hrr, hc, q⟩ := h
    refine ⟨_, (pss_cons (ps_set (i := 2) sc__dish_row.nd rfl (by first | exact Or.inl rfl | exact Or.inr rfl) (pe_lst (pa_cons pe_str (pa_cons (pe_ifExp (pt_cmpR op_isN (pv 0) pe_non (nomark _)) pe_str (pe_callTy call_str_int (by rfl) Y.b.str (by decide +kernel) (pa_cons (pv 0) pa_nil))) pa_nil))))
      (pss_one (ps_ret (pe_joinK K rfl pe_str (pe_op op_cat (pv 2) (pe_lc (own := [("heard", 3)]) (g := gName 3) (tt := tYes) rfl sc__dish_row.nd (pi_listK K rfl (pv 1)) (blkOk_by (N := ["ask", "sight", "words", "heard"]) (sc := defScope s__dish_row) (by decide +kernel)) (fun _ _ _ _ _ => (pg_name (i := 3) sc__dish_row.nd rfl (by first | exact Or.inl rfl | exact Or.inr rfl))) (fun _ _ _ _ _ => pts_nil) (fun _ _ _ _ _ => (pe_call (ok__heard_word Y) (hr.mono (by decide)) (by rfl) Y.d__heard_word.g Y.d__heard_word.kp Y.d__heard_word.b .nil pass0 (pa_cons (pv 3) pa_nil))))))))), ?_⟩
    have main : ∀ (W : Addr) (H1 : Hp), Kx [] H H1 → H1 W = some (.lst ([("dish" : Str), askW a].map V.str)) → tOp rCat (tVar 2) (tLc (iList K (tVar 1)) (gName 3) tYes (tCall sp_heard_word [] E0 (tCons (tVar 3) tNil)) (List.map (fun x => x.2) [(("heard" : Str), 3)])) [some av, some sv, some (.ref W), none] H1 (fun y H2 => ∃ (a : Str) (p : Addr) (ys : List Str), V.str " " = .str a ∧ [y] = [.ref p] ∧ (SqL K H2 p (ys.map V.str) ∨ SqT K H2 p (ys.map V.str)) ∧ (ys.map (·.length)).sum + ys.length * a.length ≤ 16777216 ∧ Q (.str (Txt.join a ys)) H2) := by
      intro W H1 k1 eW
      obtain ⟨aS, xS, rfl, eS, tS⟩ := (ts.up k1).listV
      have lS := tS.length
      rw [List.length_map] at lS
      refine st_op ⟨.ref W, rfl, lc_use ?_⟩
      refine ⟨.ref aS, rfl, aS, rfl, ⟨xS, SqL.of eS⟩, ?_⟩
      refine lc_mapV (fun i => .str (heardW (si.getD i []))) eS (by unfold sizeLine; omega) (fun i H2 hi k2 R hR => ?_) fun D1 H2 k2 hD1 e2 => ?_
      · have hi' : i < si.length := by omega
        obtain ⟨x, ex, tx⟩ := (tS.up k2).get' (i := i) (d := rowD si[i]) (by rw [List.getElem?_map, List.getElem?_eq_getElem hi']; rfl)
        rw [show xS.getD i .non = x by rw [List.getD_eq_getElem?_getD, ex]; rfl]
        refine ⟨rfl, x, rfl, x, si[i], c, rfl, tx, hrr _ (List.getElem_mem hi'), hc, fun H3 k3 => ?_⟩
        have := hR H3 k3
        rw [getD_at si [] hi'] at this
        exact this
      · have er : ((List.range xS.length).map fun i => V.str (heardW (si.getD i []))) = (si.map heardW).map V.str := by
          rw [lS, List.map_map]
          exact range_map (fun r => V.str (heardW r)) si []
        rw [er] at e2
        refine ⟨W, D1, _, _, rfl, rfl, k2.lst (by simp) eW, e2, by simp only [List.length_map, List.length_cons, List.length_nil]; unfold sizeLine; omega, fun L hL => ?_⟩
        have k3 : Kx [] H2 (upd H2 L (.lst ([("dish" : Str), askW a].map V.str ++ (si.map heardW).map V.str))) := Kx.new hL
        refine ⟨" ", L, dishWs a si, rfl, rfl, .inl (SqL.of (by rw [upd_same]; rfl)), join_fit (m := 20) (n := 12) (dishWs_len ha hrr hc) (by unfold dishWs; simp; omega) (by rw [one_len.1]; decide), q _ (k1.trans (k2.trans k3))⟩
    refine st_set (st_lst (st_cons (st_c (st_cons ⟨av, rfl, rfl, _, rfl, ?_⟩))))
    cases a with
    | none =>
      cases ta'
      refine iteT ⟨len_ok, fun W hW => ?_⟩
      exact ⟨⟨_, rfl⟩, main W _ (Kx.new hW) upd_same⟩
    | some i =>
      cases ta'
      have hi := ha i rfl
      refine iteF ⟨_, rfl, _, rfl, log_ok (by omega) (by omega), len_ok, fun W hW => ?_⟩
      exact ⟨⟨_, rfl⟩, main W _ (Kx.new hW) upd_same⟩
def sp_block_row : Sp := fun vs H Q _ => ∃ (v : V) (b : Blk) (hh c : Int), vs = [v] ∧ Tr [] H v (blkD b) ∧ BlkOk hh c b ∧ hh ≤ 10 ∧ c ≤ 4 ∧ Q (.str (rowOf (blockWs b))) H
theorem dueW_len {hh c : Int} {b : Blk} (o : BlkOk hh c b) (h : hh ≤ 10) : (dueW b.due).length ≤ 4 := by
  cases e : b.due with
  | none => show ("-" : Str).length ≤ 4; rw [one_len.2.2.2.1]; decide
  | some u => have := o.du u e; have := o.r0; exact (nT_len (i := u) (by omega) (by omega)).2
theorem block_eq (b : Blk) : Str.empty ++ "block " ++ nT b.house ++ " " ++ nT b.craft ++ " " ++ nT b.ready ++ " " ++ dueW b.due ++ " " ++ nT b.worth = rowOf (blockWs b) := by
  unfold rowOf blockWs
  rw [join_two, join_two, join_two, join_two, join_two, Txts.join_one, empty_app, block_lit]
  simp only [app_assoc]
theorem small_len {a b : Str} {n m : Nat} (ha : a.length ≤ n) (hb : b.length ≤ m) : (a ++ b).length ≤ n + m := by
  rw [len_append]
  omega
theorem ok__block_row (Y : Facts K mg base fa fd ca ta) : FnOk P w K mg base CX0 1 (fa "_block_row") (fd "_block_row") ["block"] sp_block_row := by
  refine Y.d__block_row.ok sc__block_row (fun vs H Q E h => ?_) (fun cdv A outer s H vs Q E hcd hr h => ?_)
  · obtain ⟨v, b, hh, c, rfl, _⟩ := h; rfl
  · obtain ⟨v, b, hh, c, rfl, ht, o, h10, h4, q⟩ := h
    refine ⟨_, (pss_cons (ps_asg (pv 0) (pg_tupK (n := 5) K rfl rfl (pgs_cons (pg_name (i := 1) sc__block_row.nd rfl (by first | exact Or.inl rfl | exact Or.inr rfl)) (pgs_cons (pg_name (i := 2) sc__block_row.nd rfl (by first | exact Or.inl rfl | exact Or.inr rfl)) (pgs_cons (pg_name (i := 3) sc__block_row.nd rfl (by first | exact Or.inl rfl | exact Or.inr rfl)) (pgs_cons (pg_name (i := 4) sc__block_row.nd rfl (by first | exact Or.inl rfl | exact Or.inr rfl)) (pgs_cons (pg_name (i := 5) sc__block_row.nd rfl (by first | exact Or.inl rfl | exact Or.inr rfl)) pgs_nil)))))))
      (pss_cons (ps_set (i := 6) sc__block_row.nd rfl (by first | exact Or.inl rfl | exact Or.inr rfl) (pe_ifExp (pt_cmpR op_isN (pv 4) pe_non (nomark _)) pe_str (pe_callTy call_str_int (by rfl) Y.b.str (by decide +kernel) (pa_cons (pv 4) pa_nil))))
      (pss_one (ps_ret (pe_joined (.cons pe_str (.cons (pe_fmt (pv 1)) (.cons pe_str (.cons (pe_fmt (pv 2)) (.cons pe_str (.cons (pe_fmt (pv 3)) (.cons pe_str (.cons (pe_fmt (pv 6)) (.cons pe_str (.cons (pe_fmt (pv 5)) .nil))))))))))))))), ?_⟩
    obtain ⟨bA, bx, rfl, eb, tbx⟩ := ht.tupV
    obtain ⟨b1, b2, b3, b4, b5, rfl, f1, f2, f3, f4, f5⟩ := TrAll.five tbx
    cases f1
    cases f2
    cases f3
    cases f5
    have r0 := o.r0
    have r1 := o.r1
    have c0 := o.c0
    have c1 := o.c1
    have x0 := o.h0
    have x1 := o.h1
    have w0 := o.w0
    have w1 := o.w1
    refine ⟨.ref bA, rfl, bA, _, rfl, SqT.of eb, rfl, _, _, rfl, _, _, rfl, _, _, rfl, b4, _, rfl, _, _, rfl, rfl, ?_⟩
    dsimp only
    have n1 := (nT_len (i := b.house) (by omega) (by omega)).2
    have n2 := (nT_len (i := b.craft) (by omega) (by omega)).2
    have n3 := (nT_len (i := b.ready) (by omega) (by omega)).2
    have n5 := (nT_len (i := b.worth) (by omega) (by omega)).2
    have n4 := dueW_len o h10
    have l0 : (Str.empty ++ "block " : Str).length ≤ 6 := by decide +kernel
    have l1 : (" " : Str).length ≤ 1 := by rw [one_len.1]; decide
    have a1 := small_len l0 n1
    have a2 := small_len a1 l1
    have a3 := small_len a2 n2
    have a4 := small_len a3 l1
    have a5 := small_len a4 n3
    have a6 := small_len a5 l1
    have a7 := small_len a6 n4
    have a8 := small_len a7 l1
    have a9 := small_len a8 n5
    have sz : (100 : Nat) ≤ sizeLine := by unfold sizeLine; omega
    have fin : ∀ {σ : L2.St}, σ[1]? = some (some (.int b.house)) → σ[2]? = some (some (.int b.craft)) → σ[3]? = some (some (.int b.ready)) → σ[5]? = some (some (.int b.worth)) → σ[6]? = some (some (.str (dueW b.due))) →
        tJs [tC (.str "block "), tFmt (tVar 1), tC (.str " "), tFmt (tVar 2), tC (.str " "), tFmt (tVar 3), tC (.str " "), tFmt (tVar 6), tC (.str " "), tFmt (tVar 5)] Str.empty σ H fun out H1 => Q (.str out) H1 := fun {σ} s1 s2 s3 s5 s6 => by
      refine ⟨_, rfl, by omega, _, s1, .inr ⟨_, rfl, log_ok (by omega) (by omega), _, rfl, Nat.le_trans a1 (by omega), _, rfl, Nat.le_trans a2 (by omega), _, s2, .inr ⟨_, rfl, log_ok (by omega) (by omega), _, rfl, Nat.le_trans a3 (by omega), _, rfl, Nat.le_trans a4 (by omega), _, s3, .inr ⟨_, rfl, log_ok (by omega) (by omega), _, rfl, Nat.le_trans a5 (by omega), _, rfl, Nat.le_trans a6 (by omega), _, s6, .inl ⟨_, rfl, by omega, _, rfl, Nat.le_trans a7 (by omega), _, rfl, Nat.le_trans a8 (by omega), _, s5, .inr ⟨_, rfl, log_ok (by omega) (by omega), _, rfl, Nat.le_trans a9 (by omega), ?_⟩⟩⟩⟩⟩⟩
      have := block_eq b
      unfold nT at this
      exact this ▸ q
    refine st_seq ⟨b4, rfl, rfl, _, rfl, ?_⟩
    cases hd : b.due with
    | none =>
      rw [hd] at f4 fin
      cases f4
      exact iteT (fin rfl rfl rfl rfl rfl)
    | some u =>
      have hu := o.du u hd
      rw [hd] at f4 fin
      cases f4
      exact iteF ⟨_, rfl, _, rfl, log_ok (by omega) (by omega), fin rfl rfl rfl rfl rfl⟩
theorem rowsOf_eq (D : Dy) : rowsOf D = ("hours " ++ nT D.hours) :: (D.stores.map (fun s => "store " ++ nT s) ++ ((List.range D.sights.length).map (fun d => rowOf (dishWs (D.asks.getD d none) (D.sights.getD d []))) ++ D.blocks.map fun b => rowOf (blockWs b))) := by
  unfold rowsOf wordsOf dishesOf
  rw [List.map_cons, List.map_append, List.map_append, List.map_map, List.map_map, List.map_map, row_two, ← hours_lit]
  have e : (rowOf ∘ fun s => ([("store" : Str), nT s] : List Str)) = fun s => "store " ++ nT s := funext fun s => by
    show rowOf [_, _] = _
    rw [row_two, ← store_lit]
  rw [e]
  rfl
theorem ask_ok {D : Dy} (hD : DyOk D) (d : Nat) : ∀ i, D.asks.getD d none = some i → 0 ≤ i ∧ i ≤ 999 := fun i e => by
  refine hD.ab i ?_
  rw [List.getD_eq_getElem?_getD] at e
  cases h : D.asks[d]? with
  | none => rw [h] at e; cases e
  | some x => rw [h] at e; exact e ▸ List.mem_of_getElem? h
theorem rowsOf_len {D : Dy} (hD : DyOk D) : (∀ y ∈ rowsOf D, y.length ≤ 300) ∧ (rowsOf D).length ≤ 22 := by
  have g1 := hD.g1
  have s1 := hD.s1
  have b1 := hD.bl
  have al := hD.al
  refine ⟨fun y hy => ?_, by unfold rowsOf wordsOf dishesOf; simp; omega⟩
  rw [rowsOf_eq] at hy
  rcases List.mem_cons.mp hy with rfl | hy
  · have := (nT_len (i := D.hours) (by have := hD.t0; omega) (by have := hD.t1; omega)).2
    have h : ("hours " : Str).length = 6 := by decide +kernel
    rw [len_append]; omega
  rcases List.mem_append.mp hy with hy | hy
  · obtain ⟨n, hn, rfl⟩ := List.mem_map.mp hy
    have hb := hD.sb n hn
    have := (nT_len (i := n) (by omega) (by omega)).2
    have h : ("store " : Str).length = 6 := by decide +kernel
    rw [len_append]; omega
  rcases List.mem_append.mp hy with hy | hy
  · obtain ⟨d, hd, rfl⟩ := List.mem_map.mp hy
    have hd := List.mem_range.mp hd
    have sm : D.sights.getD d [] ∈ D.sights := by rw [getD_at _ _ hd]; exact List.getElem_mem hd
    have gl := hD.gl _ sm
    have h10 := hD.t1
    have hl := dishWs_len (a := D.asks.getD d none) (s := D.sights.getD d []) (c := D.stores.length) (ask_ok hD d) (hD.gr _ sm) hD.s1
    have := join_len (s := " ") hl
    rw [one_len.1] at this
    have h2 : (dishWs (D.asks.getD d none) (D.sights.getD d [])).length ≤ 12 := by unfold dishWs; simp only [List.length_cons, List.length_map]; omega
    have h3 := Nat.mul_le_mul_right (20 + 1) h2
    unfold rowOf
    omega
  · obtain ⟨b, hb, rfl⟩ := List.mem_map.mp hy
    have o := hD.bb b hb
    have hl : ∀ y ∈ blockWs b, y.length ≤ 5 := fun y hy => by
      have r0 := o.r0
      have r1 := o.r1
      have c0 := o.c0
      have c1 := o.c1
      have t1 := hD.t1
      have h0 := o.h0
      have h1 := o.h1
      have w0 := o.w0
      have w1 := o.w1
      unfold blockWs at hy
      simp only [List.mem_cons, List.not_mem_nil, or_false] at hy
      rcases hy with rfl | rfl | rfl | rfl | rfl | rfl
      · rw [one_len.2.2.2.2.2.2.1]; decide
      · have := (nT_len (i := b.house) (by omega) (by omega)).2; omega
      · have := (nT_len (i := b.craft) (by omega) (by omega)).2; omega
      · have := (nT_len (i := b.ready) (by omega) (by omega)).2; omega
      · have := dueW_len o hD.t1; omega
      · have := (nT_len (i := b.worth) (by omega) (by omega)).2; omega
    have := join_len (s := " ") hl
    rw [one_len.1] at this
    have h2 : (blockWs b).length = 6 := rfl
    rw [h2] at this
    unfold rowOf
    omega
def sp_show_day (cs : String → Addr) (ta : String → Addr) : Sp := fun vs H Q E => ∃ (v : V) (d : PyData), vs = [v] ∧ Tr [] H v d ∧ sz d ≤ 100000 ∧ Tb (Ts ta) H ∧ (∀ D, d = dayD D → DyOk D → ∀ H', Kx [] H H' → Q (.str (textD D)) H') ∧ (isDayB d = false → ∀ H', Kx [] H H' → E (.ref (cs "NoDay")) none H')
theorem ok_show_day (Y : Facts K mg base fa fd ca ta) (Z : CFacts K mg cs fm fdm) : FnOk P w K mg base (L2.CX P w) 11 (fa "show_day") (fd "show_day") ["day"] (sp_show_day cs ta) := by
  refine Y.d_show_day.okX sc_show_day (fun vs H Q E h => ?_) (fun cdv A outer s H vs Q E hcd hr h => ?_)
  · obtain ⟨v, d, rfl, _⟩ := h; rfl
  · obtain ⟨v, d, rfl, ht, hz, hT, q, qx⟩ := h
    refine ⟨_, (pss_cons (ps_expr (pe_callS (ok_need_day Y Z) (hr.mono (by decide)) (by rfl) Y.d_need_day.g Y.d_need_day.kp Y.d_need_day.b (fun σ => passAt (takes_of rfl rfl rfl rfl) σ) (pa_cons (pv 0) pa_nil)))
      (PSs.nox (pss_cons (ps_asg (pv 0) (pg_tupK (n := 5) K rfl rfl (pgs_cons (pg_name (i := 1) sc_show_day.nd rfl (by first | exact Or.inl rfl | exact Or.inr rfl)) (pgs_cons (pg_name (i := 2) sc_show_day.nd rfl (by first | exact Or.inl rfl | exact Or.inr rfl)) (pgs_cons (pg_name (i := 3) sc_show_day.nd rfl (by first | exact Or.inl rfl | exact Or.inr rfl)) (pgs_cons (pg_name (i := 4) sc_show_day.nd rfl (by first | exact Or.inl rfl | exact Or.inr rfl)) (pgs_cons (pg_name (i := 5) sc_show_day.nd rfl (by first | exact Or.inl rfl | exact Or.inr rfl)) pgs_nil)))))))
      (pss_cons (ps_set (i := 6) sc_show_day.nd rfl (by first | exact Or.inl rfl | exact Or.inr rfl) (pe_lst (pa_cons (pe_joined (.cons pe_str (.cons (pe_fmt (pv 1)) .nil))) pa_nil)))
      (pss_cons (ps_expr (pe_bm PySem.F.plainAttrs_list PySem.F.slot_list_extend PySem.F.type_list_extend mt_extend (pv 6) (pa_cons (pe_lc (own := [("store", 7)]) (g := gName 7) (tt := tYes) rfl sc_show_day.nd (pi_listK K rfl (pv 2)) (blkOk_by (N := ["day", "hours", "stores", "sights", "asks", "blocks", "rows", "store", "dish", "block"]) (sc := defScope s_show_day) (by decide +kernel)) (fun _ _ _ _ _ => (pg_name (i := 7) sc_show_day.nd rfl (by first | exact Or.inl rfl | exact Or.inr rfl))) (fun _ _ _ _ _ => pts_nil) (fun _ _ _ _ _ => (pe_joined (.cons pe_str (.cons (pe_fmt (pv 7)) .nil))))) pa_nil)))
      (pss_cons (ps_expr (pe_bm PySem.F.plainAttrs_list PySem.F.slot_list_extend PySem.F.type_list_extend mt_extend (pv 6) (pa_cons (pe_lc (own := [("dish", 8)]) (g := gName 8) (tt := tYes) rfl sc_show_day.nd (pi_range1 (by rfl) Y.b.range (pa_cons (pe_callB (call_lenK K rfl) (by rfl) Y.b.len (by decide +kernel) (pa_cons (pv 3) pa_nil)) pa_nil)) (blkOk_by (N := ["day", "hours", "stores", "sights", "asks", "blocks", "rows", "store", "dish", "block"]) (sc := defScope s_show_day) (by decide +kernel)) (fun _ _ _ _ _ => (pg_name (i := 8) sc_show_day.nd rfl (by first | exact Or.inl rfl | exact Or.inr rfl))) (fun _ _ _ _ _ => pts_nil) (fun _ _ _ _ _ => (pe_call (ok__dish_row Y) (hr.mono (by decide)) (by rfl) Y.d__dish_row.g Y.d__dish_row.kp Y.d__dish_row.b .nil pass0 (pa_cons (pe_ix (ix_listK K rfl) (pv 4) (pv 8) (fun _ _ => rfl)) (pa_cons (pe_ix (ix_listK K rfl) (pv 3) (pv 8) (fun _ _ => rfl)) pa_nil))))) pa_nil)))
      (pss_cons (ps_expr (pe_bm PySem.F.plainAttrs_list PySem.F.slot_list_extend PySem.F.type_list_extend mt_extend (pv 6) (pa_cons (pe_lc (own := [("block", 9)]) (g := gName 9) (tt := tYes) rfl sc_show_day.nd (pi_listK K rfl (pv 5)) (blkOk_by (N := ["day", "hours", "stores", "sights", "asks", "blocks", "rows", "store", "dish", "block"]) (sc := defScope s_show_day) (by decide +kernel)) (fun _ _ _ _ _ => (pg_name (i := 9) sc_show_day.nd rfl (by first | exact Or.inl rfl | exact Or.inr rfl))) (fun _ _ _ _ _ => pts_nil) (fun _ _ _ _ _ => (pe_call (ok__block_row Y) (hr.mono (by decide)) (by rfl) Y.d__block_row.g Y.d__block_row.kp Y.d__block_row.b .nil pass0 (pa_cons (pv 9) pa_nil)))) pa_nil)))
      (pss_one (ps_ret (pe_joinK K rfl pe_str (pv 6))))))))))), ?_⟩
    refine ⟨v, rfl, v, d, rfl, ht, hz, hT, fun hday H1 k1 => ?_, fun hno H1 k1 => qx hno H1 k1⟩
    obtain ⟨D, rfl, hD⟩ := day_of hday
    have q := q D rfl hD
    obtain ⟨da, dx, rfl, edx, tdx⟩ := (ht.up k1).tupV
    obtain ⟨y1, y2, y3, y4, y5, rfl, u1, u2, u3, u4, u5⟩ := TrAll.five tdx
    cases u1
    obtain ⟨aS, xS, rfl, eS, tS⟩ := u2.listV
    have exS := TrAll.intsV tS (by rw [ints_back])
    rw [ints_back] at exS
    subst exS
    obtain ⟨aI, xI, rfl, eI, tI⟩ := u3.listV
    obtain ⟨aA, xA, rfl, eA, tA⟩ := u4.listV
    obtain ⟨aB, xB, rfl, eB, tB⟩ := u5.listV
    have lI := tI.length
    have lB := tB.length
    rw [List.length_map] at lI lB
    have g1 := hD.g1
    have s1 := hD.s1
    have b1 := hD.bl
    have al := hD.al
    have t0 := hD.t0
    have t1 := hD.t1
    dsimp only
    refine ⟨.ref da, rfl, da, _, rfl, SqT.of edx, rfl, _, _, rfl, .ref aS, _, rfl, .ref aI, _, rfl, .ref aA, _, rfl, .ref aB, _, rfl, rfl, ?_⟩
    dsimp only
    refine st_lit [some (.ref da), some (.int D.hours), some (.ref aS), some (.ref aI), some (.ref aA), some (.ref aB), none, none, none, none] rfl ?_
    have sz : (400 : Nat) ≤ sizeLine := by unfold sizeLine; omega
    have hl0 : ("hours " : Str).length = 6 := by decide +kernel
    have sl0 : ("store " : Str).length = 6 := by decide +kernel
    have nh := (nT_len (i := D.hours) (by omega) (by omega)).2
    have l0 : (Str.empty ++ "hours " : Str).length ≤ 6 := by rw [empty_app, hl0]; decide
    refine st_set (st_lst (st_cons ⟨_, rfl, Nat.le_trans l0 (by omega), _, rfl, .inr ⟨_, rfl, log_ok (by omega) (by omega), _, rfl, Nat.le_trans (small_len l0 nh) (by omega), len_ok, fun R hR => ?_⟩⟩))
    have k2 : Kx [] H1 (upd H1 R (.lst [.str (Str.empty ++ "hours " ++ nT D.hours)])) := Kx.new hR
    have e2 : upd H1 R (.lst [.str (Str.empty ++ "hours " ++ nT D.hours)]) R = some (.lst ([("hours " ++ nT D.hours : Str)].map V.str)) := by rw [upd_same, empty_app]; rfl
    have hR1 := hR
    show tSeq _ _ _ _ (upd H1 R (.lst [.str (Str.empty ++ "hours " ++ nT D.hours)]))
    generalize upd H1 R (.lst [.str (Str.empty ++ "hours " ++ nT D.hours)]) = H2 at k2 e2 ⊢
    -- the stores
    have old : ∀ {H' : Hp} {b : Addr} {o : HO}, Kx [R] H2 H' → H1 b = some o → (∀ ps, o ≠ .tbl ps) → H' b = some o := fun {H' b o} k e ht => k.at (fun z => by rw [List.mem_singleton.mp z, hR1] at e; cases e) (k2.at (by simp) e ht) ht
    have oldT : ∀ {H' : Hp} {v : V} {d : PyData}, Kx [R] H2 H' → Tr [] H1 v d → Tr [] H' v d := fun {H' v d} k t => Tr.less (by simp) d v (Tr.kx k (fun b hb => hb) d v ((avoid hR1 _ _ t).up k2))
    refine st_seq ⟨.ref R, rfl, .inl ⟨rfl, _, SqL.of e2⟩, st_cons (lc_use ?_)⟩
    have eS2 := old (Kx.refl _) eS (fun _ z => by cases z)
    refine ⟨.ref aS, rfl, aS, rfl, ⟨_, SqL.of eS2⟩, ?_⟩
    refine lc_mapV (fun i => .str ("store " ++ nT (D.stores.getD i 0))) eS2 (by rw [List.length_map]; unfold sizeLine; omega) (fun i H3 hi k3 Z hZ => ?_) fun L3 H3 k3 hL3 e3 => ?_
    · have hi' : i < D.stores.length := by rw [List.length_map] at hi; exact hi
      have e : (D.stores.map V.int).getD i .non = .int (D.stores.getD i 0) := by
        rw [getD_at _ _ (by rw [List.length_map]; exact hi'), getD_at D.stores 0 hi', List.getElem_map]
      have hb := hD.sb (D.stores.getD i 0) (by rw [getD_at _ _ hi']; exact List.getElem_mem hi')
      rw [e]
      have ns := (nT_len (i := D.stores.getD i 0) (by omega) (by omega)).2
      have l1 : (Str.empty ++ "store " : Str).length ≤ 6 := by rw [empty_app, sl0]; decide
      refine ⟨rfl, _, rfl, Nat.le_trans l1 (by omega), _, rfl, .inr ⟨_, rfl, log_ok (by omega) (by omega), _, rfl, Nat.le_trans (small_len l1 ns) (by omega), ?_⟩⟩
      have := hZ H3 (Kx.refl _)
      rw [show (Str.empty ++ "store " : Str) = "store " from empty_app _]
      exact this
    rw [List.length_map, range_map (fun s => V.str ("store " ++ nT s)) D.stores 0] at e3
    have e3 : H3 L3 = some (.lst ((D.stores.map fun s => ("store " ++ nT s : Str)).map V.str)) := by rw [List.map_map]; exact e3
    refine ⟨R, L3, _, _, rfl, rfl, k3.lst (by simp) e2, e3, by simp only [List.length_map, List.length_cons, List.length_nil]; unfold sizeLine; omega, ?_⟩
    rw [← List.map_append]
    have k4 : Kx [R] H2 (upd H3 R (.lst (([("hours " ++ nT D.hours : Str)] ++ D.stores.map fun s => ("store " ++ nT s : Str)).map V.str))) := k3.of.trans (Kx.put (by simp))
    have e4 : upd H3 R (.lst (([("hours " ++ nT D.hours : Str)] ++ D.stores.map fun s => ("store " ++ nT s : Str)).map V.str)) R = some (.lst (([("hours " ++ nT D.hours : Str)] ++ D.stores.map fun s => ("store " ++ nT s : Str)).map V.str)) := upd_same
    generalize upd H3 R (.lst (([("hours " ++ nT D.hours : Str)] ++ D.stores.map fun s => ("store " ++ nT s : Str)).map V.str)) = H4 at k4 e4 ⊢
    dsimp only
    -- the dishes
    have eI4 := old k4 eI (fun _ z => by cases z)
    refine st_seq ⟨.ref R, rfl, .inl ⟨rfl, _, SqL.of e4⟩, st_cons (lc_use ?_)⟩
    refine ⟨.ref aI, rfl, aI, xI, rfl, .inl (SqL.of eI4), (D.sights.length : Int), by rw [lI], by omega, by omega, ?_⟩
    rw [Int.toNat_natCast]
    refine lc_mapRV (fun d => .str (rowOf (dishWs (D.asks.getD d none) (D.sights.getD d [])))) (by unfold sizeLine; omega) (fun d H5 hd k5 Z hZ => ?_) fun L5 H5 k5 hL5 e5 => ?_
    · have k45 := k4.trans k5.of
      obtain ⟨_, xA', av, e, eA', aA', tav⟩ := ixT (oldT k45 u4) (i := (d : Int)) (by omega) (by rw [List.length_map]; omega)
      cases e
      rw [Int.toNat_natCast, getD_map optD D.asks d none _ (by omega)] at tav
      obtain ⟨_, xI', sv, e, eI', aI', tsv⟩ := ixT (oldT k45 u3) (i := (d : Int)) (by omega) (by rw [List.length_map]; omega)
      cases e
      rw [Int.toNat_natCast, getD_map sightD D.sights d [] _ hd] at tsv
      have sm : D.sights.getD d [] ∈ D.sights := by rw [getD_at _ _ hd]; exact List.getElem_mem hd
      have gl := hD.gl _ sm
      exact ⟨rfl, .ref aA, rfl, .int d, rfl, aA, xA', d, av, rfl, rfl, SqL.of eA', aA', .ref aI, rfl, .int d, rfl, aI, xI', d, sv, rfl, rfl, SqL.of eI', aI', av, sv, _, _, D.stores.length, rfl, tav, tsv, ask_ok hD d, by omega, hD.gr _ sm, s1, fun H6 k6 => hZ H6 k6⟩
    have e5 : H5 L5 = some (.lst (((List.range D.sights.length).map fun d => rowOf (dishWs (D.asks.getD d none) (D.sights.getD d []))).map V.str)) := by rw [List.map_map]; exact e5
    refine ⟨R, L5, _, _, rfl, rfl, k5.lst (by simp) e4, e5, by simp only [List.length_map, List.length_append, List.length_cons, List.length_nil, List.length_range]; unfold sizeLine; omega, ?_⟩
    rw [← List.map_append]
    generalize hw : ([("hours " ++ nT D.hours : Str)] ++ D.stores.map fun s => ("store " ++ nT s : Str)) ++ ((List.range D.sights.length).map fun d => rowOf (dishWs (D.asks.getD d none) (D.sights.getD d []))) = wsA
    have lwA : wsA.length ≤ 10 := by rw [← hw]; simp; omega
    have k6 : Kx [R] H2 (upd H5 R (.lst (wsA.map V.str))) := (k4.trans k5.of).trans (Kx.put (by simp))
    have e6 : upd H5 R (.lst (wsA.map V.str)) R = some (.lst (wsA.map V.str)) := upd_same
    generalize upd H5 R (.lst (wsA.map V.str)) = H6 at k6 e6 ⊢
    dsimp only
    -- the blocks
    have eB6 := old k6 eB (fun _ z => by cases z)
    refine st_seq ⟨.ref R, rfl, .inl ⟨rfl, _, SqL.of e6⟩, st_cons (lc_use ?_)⟩
    refine ⟨.ref aB, rfl, aB, rfl, ⟨_, SqL.of eB6⟩, ?_⟩
    refine lc_mapV (fun i => .str (rowOf (blockWs (D.blocks.getD i ⟨0, 0, 0, none, 0⟩)))) eB6 (by unfold sizeLine; omega) (fun i H7 hi k7 Z hZ => ?_) fun L7 H7 k7 hL7 e7 => ?_
    · have hi' : i < D.blocks.length := by omega
      obtain ⟨_, xB', bv, e, eB', aB', tbv⟩ := ixT (oldT (k6.trans k7.of) u5) (i := (i : Int)) (by omega) (by rw [List.length_map]; omega)
      cases e
      rw [Int.toNat_natCast, getD_map blkD D.blocks i ⟨0, 0, 0, none, 0⟩ _ hi'] at tbv
      have exi : xB.getD i .non = bv := by
        have e1 := old (k6.trans k7.of) eB (fun _ z => by cases z)
        rw [eB'] at e1
        cases e1
        have := atI_nat (xs := xB) (j := i) (v := xB[i]'(by omega)) (List.getElem?_eq_getElem (by omega))
        rw [this] at aB'
        cases aB'
        rw [List.getD_eq_getElem?_getD, List.getElem?_eq_getElem (by omega)]
        rfl
      rw [exi]
      have o := hD.bb (D.blocks.getD i ⟨0, 0, 0, none, 0⟩) (by rw [getD_at _ _ hi']; exact List.getElem_mem hi')
      exact ⟨rfl, bv, rfl, bv, _, _, _, rfl, tbv, o, t1, by omega, hZ H7 (Kx.refl _)⟩
    rw [lB, range_map (fun b => V.str (rowOf (blockWs b))) D.blocks ⟨0, 0, 0, none, 0⟩] at e7
    have e7 : H7 L7 = some (.lst ((D.blocks.map fun b => rowOf (blockWs b)).map V.str)) := by rw [List.map_map]; exact e7
    refine ⟨R, L7, _, _, rfl, rfl, k7.lst (by simp) e6, e7, by simp only [List.length_map]; unfold sizeLine; omega, ?_⟩
    rw [← List.map_append]
    have hall : wsA ++ (D.blocks.map fun b => rowOf (blockWs b)) = rowsOf D := by
      rw [rowsOf_eq, ← hw]
      simp only [List.cons_append, List.nil_append, List.append_assoc]
    rw [hall]
    have k8 : Kx [R] H2 (upd H7 R (.lst ((rowsOf D).map V.str))) := (k6.trans k7.of).trans (Kx.put (by simp))
    have e8 : upd H7 R (.lst ((rowsOf D).map V.str)) R = some (.lst ((rowsOf D).map V.str)) := upd_same
    generalize upd H7 R (.lst ((rowsOf D).map V.str)) = H8 at k8 e8 ⊢
    dsimp only
    obtain ⟨rl1, rl2⟩ := rowsOf_len hD
    refine ⟨⟨_, rfl⟩, .ref R, rfl, _, R, rowsOf D, rfl, rfl, .inl (SqL.of e8), join_fit (m := 300) (n := 22) rl1 rl2 (by rw [one_len.2.2.1]; decide), q H8 ?_⟩
    exact k1.trans (Kx.weak (k2.of.trans k8) fun b hb => .inr (by rw [List.mem_singleton.mp hb]; exact hR1))
end
end Law

set_option Elab.async false
set_option linter.all false
set_option maxRecDepth 100000
set_option maxHeartbeats 4000000
namespace Law
open PySem PySem.Spec PyProof.Rows L2 GxR GX Tree Kit Data Loops Comps Purse Day SetG SetL Loops3 Obj Enum Wipe Txts Lit Ib
section
variable {P : Program} {w : World} {K : PySem.W.Frag} {mg : Str → Option Value} {base : Heap} {fa : String → Addr} {fd : String → FuncData} {ca ta : String → Addr}
/-! ### texts read -/
def sp_is_figures (ta : String → Addr) : Sp := fun vs H Q _ => ∃ x : Str, vs = [.str x] ∧ x.length ≤ sizeLine ∧ Tb (Ts ta) H ∧ ∀ H', Kx [] H H' → Q (.bl (figB x)) H'
theorem ok_is_figures (Y : Facts K mg base fa fd ca ta) : FnOk P w K mg base CX0 2 (fa "is_figures") (fd "is_figures") ["word"] (sp_is_figures ta) := by
  refine Y.d_is_figures.ok sc_is_figures (fun vs H Q E h => ?_) (fun cdv A outer s H vs Q E hcd hr h => ?_)
  · obtain ⟨x, rfl, _⟩ := h; rfl
  · obtain ⟨x, rfl, hl, hT, q⟩ := h
    refine ⟨_, (pss_one (ps_ret (pe_and (pe_chain op_le op_le pe_int (pe_callB call_len_str (by rfl) Y.b.len (by decide +kernel) (pa_cons (pv 0) pa_nil)) pe_int) (pe_and (pe_allG (own := [("sign", 1)]) (g := gName 1) (tt := tYes) (hr.mono (by decide)) rfl sc_is_figures.nd (by rfl) Y.b.all Y.t_is_figures.tb (hcd.symm.trans Y.t_is_figures.code) (gok_by (N := ["word", "sign"]) (sc := defScope s_is_figures) (by decide +kernel)) (pi_str (pv 0)) (fun _ _ _ _ _ _ _ => (pg_name (i := 1) sc_is_figures.nd rfl (by first | exact Or.inl rfl | exact Or.inr rfl))) (fun _ _ _ _ _ _ _ => pts_nil) (fun _ _ _ _ _ _ _ => (pe_cmpR op_in_sign (pv 1) pe_str (by rfl)))) (pe_one (pe_or (pe_cmpR op_eq (pv 0) pe_str (nomark _)) (pe_one (pe_not (pe_m1 PySem.F.slot_str_startswith PySem.F.type_str_startswith mt_startswith (pv 0) pe_str))))))))), ?_⟩
    unfold figB at q
    refine st_ret (st_andv ?_)
    refine ⟨.str x, rfl, x, rfl, hl, 1, _, rfl, rfl, _, rfl, ?_⟩
    cases c1 : decide (1 ≤ (x.length : Int)) with
    | false =>
      rw [c1] at q
      exact iteF ⟨_, rfl, iteF (q H (Kx.refl _))⟩
    | true =>
    refine iteT ⟨_, _, rfl, rfl, _, rfl, ?_⟩
    cases c2 : decide ((x.length : Int) ≤ 4) with
    | false =>
      rw [c1, c2] at q
      exact iteF (q H (Kx.refl _))
    | true =>
    rw [c1, c2, Bool.and_self, Bool.true_and] at q
    refine iteT (st_andv (all_use ?_))
    refine ⟨.str x, rfl, x, rfl, ?_⟩
    refine all_at (its_at x) (p := fun i => decide (x.cps.toList.getD i 0 ∈ ("0123456789" : Str).cps.toList)) (tab_is_figures hT) (fun i H1 hi k1 R hR => ?_) fun H1 k1 => ?_
    · exact ⟨rfl, _, rfl, _, _, rfl, rfl, _, rfl, hR H1 (Kx.refl _)⟩
    · have q1 := q H1 k1
      rw [show x.cps.size = x.cps.toList.length by simp, range_all x.cps.toList 0 fun c => decide (c ∈ ("0123456789" : Str).cps.toList)]
      refine ⟨_, rfl, andV (R := fun b => Q (.bl b) H1) q1 fun _ q2 => ?_⟩
      refine st_orv ⟨_, rfl, rfl, _, rfl, ?_⟩
      have e : decide (V.str x = V.str ("0" : Str)) = decide (x = ("0" : Str)) := by
        by_cases z : x = ("0" : Str)
        · rw [decide_eq_true z, z, decide_eq_true rfl]
        · rw [decide_eq_false z, decide_eq_false fun y => z (V.str.inj y)]
      rw [e]
      refine orV (R := fun b => Q (.bl b) H1) q2 fun _ q3 => ?_
      exact ⟨_, rfl, ⟨_, rfl⟩, _, _, rfl, rfl, _, rfl, q3⟩
theorem eqS (a b : Str) : decide (V.str a = V.str b) = decide (a = b) := by
  by_cases z : a = b
  · rw [decide_eq_true z, z, decide_eq_true rfl]
  · rw [decide_eq_false z, decide_eq_false fun y => z (V.str.inj y)]
theorem split_len (x y : Str) : ∀ p ∈ Txt.split x y, p.length ≤ x.length := fun p hp => by
  have h1 := PyProof.Rows.len_join_ge_sum y (Txt.split x y)
  rw [TL.join_eq, StrLaws.join_split] at h1
  have h2 : ∀ {l : List Str}, p ∈ l → p.length ≤ (l.map (·.length)).sum := fun {l} h => by
    induction l with
    | nil => cases h
    | cons a r ih =>
      rw [List.map_cons, List.sum_cons]
      rcases List.mem_cons.mp h with rfl | h
      · omega
      · have := ih h
        omega
  exact Nat.le_trans (h2 hp) h1
def heardF (x : Str) : Bool := decide (x = ("-" : Str)) || (Txt.split x ",").all figB
def sp_is_heard_word (ta : String → Addr) : Sp := fun vs H Q _ => ∃ x : Str, vs = [.str x] ∧ x.length + 2 ≤ sizeLine ∧ Tb (Ts ta) H ∧ ∀ H', Kx [] H H' → Q (.bl (heardF x)) H'
theorem ok__is_heard_word (Y : Facts K mg base fa fd ca ta) : FnOk P w K mg base CX0 4 (fa "_is_heard_word") (fd "_is_heard_word") ["word"] (sp_is_heard_word ta) := by
  refine Y.d__is_heard_word.ok sc__is_heard_word (fun vs H Q E h => ?_) (fun cdv A outer s H vs Q E hcd hr h => ?_)
  · obtain ⟨x, rfl, _⟩ := h; rfl
  · obtain ⟨x, rfl, hl, hT, q⟩ := h
    refine ⟨_, (pss_one (ps_ret (pe_or (pe_cmpR op_eq (pv 0) pe_str (nomark _)) (pe_one (pe_allG (own := [("part", 1)]) (g := gName 1) (tt := tYes) (hr.mono (by decide)) rfl sc__is_heard_word.nd (by rfl) Y.b.all Y.t__is_heard_word.tb (hcd.symm.trans Y.t__is_heard_word.code) (gok_by (N := ["word", "part"]) (sc := defScope s__is_heard_word) (by decide +kernel)) (pi_listK K rfl (pe_split (pv 0) pe_str)) (fun _ _ _ _ _ _ _ => (pg_name (i := 1) sc__is_heard_word.nd rfl (by first | exact Or.inl rfl | exact Or.inr rfl))) (fun _ _ _ _ _ _ _ => pts_nil) (fun _ _ _ _ _ _ _ => (pe_call (ok_is_figures Y) ((room_gen (k := 2) (hr.mono (by decide)) _).mono (by decide)) (by rfl) Y.d_is_figures.g Y.d_is_figures.kp Y.d_is_figures.b .nil pass0 (pa_cons (pv 1) pa_nil)))))))), ?_⟩
    unfold heardF at q
    refine st_ret (st_orv ⟨_, rfl, rfl, _, rfl, ?_⟩)
    rw [eqS]
    cases c1 : decide (x = ("-" : Str)) with
    | true =>
      rw [c1] at q
      exact iteT (q H (Kx.refl _))
    | false =>
    rw [c1] at q
    refine iteF (all_use (st_ilist ⟨_, rfl, ⟨_, rfl⟩, x, ",", rfl, rfl, by decide +kernel, hl, fun p hp => ?_⟩))
    have k1 : Kx [] H (upd H p (.lst ((Txt.split x ",").map V.str))) := Kx.new hp
    have e1 : upd H p (.lst ((Txt.split x ",").map V.str)) p = some (.lst ((Txt.split x ",").map V.str)) := upd_same
    generalize upd H p (.lst ((Txt.split x ",").map V.str)) = H1 at k1 e1 ⊢
    have hp' := split_len x ","
    generalize Txt.split x "," = ps at q e1 hp' ⊢
    refine ⟨p, rfl, ⟨_, SqL.of e1⟩, ?_⟩
    refine all_at (itl_at (B := []) e1 (by simp)) (p := fun i => figB (ps.getD i "")) (tab__is_heard_word (hT.kx k1)) (fun i H2 hi k2 R hR => ?_) fun H2 k2 => ?_
    · have hi' : i < ps.length := by rw [List.length_map] at hi; exact hi
      have e : (ps.map V.str).getD i .non = .str (ps.getD i "") := by
        rw [getD_at _ _ (by rw [List.length_map]; exact hi'), getD_at ps _ hi', List.getElem_map]
      rw [e]
      have := hp' (ps.getD i "") (by rw [getD_at ps _ hi']; exact List.getElem_mem hi')
      exact ⟨rfl, _, rfl, _, rfl, by omega, hT.kx (k1.trans k2), fun H3 k3 => ⟨_, rfl, hR H3 k3⟩⟩
    · rw [List.length_map, range_all ps "" figB]
      exact q H2 (k1.trans k2)
def dishF (told : List Str) : Bool := decide (1 ≤ (told.length : Int)) && ((decide (told.getD 0 "" = ("own" : Str)) || figB (told.getD 0 "")) && (told.drop 1).all heardF)
theorem strs_ix {xs : List Str} {i : Nat} (h : i < xs.length) : atI (xs.map V.str) (i : Int) = some (.str (xs.getD i "")) := atI_nat (by rw [List.getElem?_map, List.getElem?_eq_getElem h, getD_at xs _ h]; rfl)
def sp_has_form_of_dish (ta : String → Addr) : Sp := fun vs H Q _ => ∃ (a : Addr) (told : List Str), vs = [.ref a] ∧ H a = some (.lst (told.map V.str)) ∧ (∀ x ∈ told, x.length + 2 ≤ sizeLine) ∧ Tb (Ts ta) H ∧ ∀ H', Kx [] H H' → Q (.bl (dishF told)) H'
theorem ok__has_form_of_dish (Y : Facts K mg base fa fd ca ta) : FnOk P w K mg base CX0 6 (fa "_has_form_of_dish") (fd "_has_form_of_dish") ["told"] (sp_has_form_of_dish ta) := by
  refine Y.d__has_form_of_dish.ok sc__has_form_of_dish (fun vs H Q E h => ?_) (fun cdv A outer s H vs Q E hcd hr h => ?_)
  · obtain ⟨a, told, rfl, _⟩ := h; rfl
  · obtain ⟨a, told, rfl, ea, hl, hT, q⟩ := h
    refine ⟨_, (pss_one (ps_ret (pe_and (pe_cmpR op_ge (pe_callB (call_lenK K rfl) (by rfl) Y.b.len (by decide +kernel) (pa_cons (pv 0) pa_nil)) pe_int (nomark _)) (pe_and (pe_or (pe_cmpR op_eq (pe_ix (ix_listK K rfl) (pv 0) pe_int (fun _ _ => rfl)) pe_str (nomark _)) (pe_one (pe_call (ok_is_figures Y) (hr.mono (by decide)) (by rfl) Y.d_is_figures.g Y.d_is_figures.kp Y.d_is_figures.b .nil pass0 (pa_cons (pe_ix (ix_listK K rfl) (pv 0) pe_int (fun _ _ => rfl)) pa_nil)))) (pe_one (pe_allG (own := [("word", 1)]) (g := gName 1) (tt := tYes) (hr.mono (by decide)) rfl sc__has_form_of_dish.nd (by rfl) Y.b.all Y.t__has_form_of_dish.tb (hcd.symm.trans Y.t__has_form_of_dish.code) (gok_by (N := ["told", "word"]) (sc := defScope s__has_form_of_dish) (by decide +kernel)) (pi_listK K rfl (pe_slice (sl_listK K rfl) (pv 0) (po_some pe_int) po_none)) (fun _ _ _ _ _ _ _ => (pg_name (i := 1) sc__has_form_of_dish.nd rfl (by first | exact Or.inl rfl | exact Or.inr rfl))) (fun _ _ _ _ _ _ _ => pts_nil) (fun _ _ _ _ _ _ _ => (pe_call (ok__is_heard_word Y) ((room_gen (k := 4) (hr.mono (by decide)) _).mono (by decide)) (by rfl) Y.d__is_heard_word.g Y.d__is_heard_word.kp Y.d__is_heard_word.b .nil pass0 (pa_cons (pv 1) pa_nil))))))))), ?_⟩
    unfold dishF at q
    refine st_ret (st_andv ⟨.ref a, rfl, a, _, rfl, .inl (SqL.of ea), _, _, rfl, rfl, _, rfl, ?_⟩)
    rw [List.length_map]
    cases c1 : decide (1 ≤ (told.length : Int)) with
    | false =>
      rw [c1] at q
      exact iteF (q H (Kx.refl _))
    | true =>
    rw [c1, Bool.true_and] at q
    have h1 : 0 < told.length := by have := of_decide_eq_true c1; omega
    have h0 := strs_ix (xs := told) (i := 0) h1
    have l0 := hl (told.getD 0 "") (by rw [getD_at told _ h1]; exact List.getElem_mem h1)
    have main : ∀ (b : Bool) (H1 : Hp), Kx [] H H1 → b = (decide (told.getD 0 "" = ("own" : Str)) || figB (told.getD 0 "")) → ∃ c, V.bl b = .bl c ∧ if c = true then tAllG (ta "_has_form_of_dish") (iList K (tSl (rSlL K) (tVar 0) (tPart (tC (.int 1))) tNoPart)) (gName 1) tYes (tCall (sp_is_heard_word ta) [] E0 (tCons (tVar 1) tNil)) (List.map (fun x => x.2) [(("word" : Str), 1)]) (L2.start ["told", "word"] [.ref a]) H1 Q else Q (.bl false) H1 := fun b H1 k1 eb => by
      refine ⟨b, rfl, ?_⟩
      rw [← eb] at q
      cases b with
      | false => exact iteF (q H1 k1)
      | true =>
      rw [Bool.true_and] at q
      have ea1 := k1.lst (by simp) ea
      refine iteT (all_use (st_ilist ⟨.ref a, rfl, 1, rfl, a, _, rfl, SqL.of ea1, fun p hp => ?_⟩))
      rw [show cutV (told.map V.str) (some 1) none = (told.map V.str).drop 1 from cut_lo _ 1, ← List.map_drop]
      have k2 : Kx [] H1 (upd H1 p (.lst ((told.drop 1).map V.str))) := Kx.new hp
      have e2 : upd H1 p (.lst ((told.drop 1).map V.str)) p = some (.lst ((told.drop 1).map V.str)) := upd_same
      generalize upd H1 p (.lst ((told.drop 1).map V.str)) = H2 at k2 e2 ⊢
      have hl1 : ∀ x ∈ told.drop 1, x.length + 2 ≤ sizeLine := fun x hx => hl x (List.mem_of_mem_drop hx)
      generalize told.drop 1 = ps at q e2 hl1 ⊢
      refine ⟨p, rfl, ⟨_, SqL.of e2⟩, ?_⟩
      refine all_at (itl_at (B := []) e2 (by simp)) (p := fun i => heardF (ps.getD i "")) (tab__has_form_of_dish (hT.kx (k1.trans k2))) (fun i H3 hi k3 R hR => ?_) fun H3 k3 => ?_
      · have hi' : i < ps.length := by rw [List.length_map] at hi; exact hi
        have e : (ps.map V.str).getD i .non = .str (ps.getD i "") := by
          rw [getD_at _ _ (by rw [List.length_map]; exact hi'), getD_at ps _ hi', List.getElem_map]
        rw [e]
        have := hl1 (ps.getD i "") (by rw [getD_at ps _ hi']; exact List.getElem_mem hi')
        exact ⟨rfl, _, rfl, _, rfl, by omega, hT.kx (k1.trans (k2.trans k3)), fun H4 k4 => ⟨_, rfl, hR H4 k4⟩⟩
      · rw [List.length_map, range_all ps "" heardF]
        exact q H3 (k1.trans (k2.trans k3))
    refine iteT (st_andv (st_orv ⟨.ref a, rfl, a, _, 0, _, rfl, rfl, SqL.of ea, h0, rfl, _, rfl, ?_⟩))
    rw [eqS]
    cases c2 : decide (told.getD 0 "" = ("own" : Str)) with
    | true => exact iteT (main true H (Kx.refl _) (by rw [c2]; rfl))
    | false => exact iteF ⟨.ref a, rfl, a, _, 0, _, rfl, rfl, SqL.of ea, h0, _, rfl, by omega, hT, fun H1 k1 => main _ H1 k1 (by rw [c2]; rfl)⟩
def blockF : List Str → Bool
  | [h, c, r, u, w] => [h, c, r, w].all figB && (decide (u = ("-" : Str)) || figB u)
  | _ => false
theorem blockF_no {told : List Str} (h : told.length ≠ 5) : blockF told = false := by
  match told, h with
  | [], _ => rfl
  | [_], _ => rfl
  | [_, _], _ => rfl
  | [_, _, _], _ => rfl
  | [_, _, _, _], _ => rfl
  | [_, _, _, _, _], h => exact absurd rfl h
  | _ :: _ :: _ :: _ :: _ :: _ :: _, _ => rfl
theorem five_strs {told : List Str} (h : told.length = 5) : ∃ a b c d e, told = [a, b, c, d, e] := by
  match told, h with
  | [a, b, c, d, e], _ => exact ⟨a, b, c, d, e, rfl⟩
theorem eqI (a b : Int) : decide (V.int a = V.int b) = decide (a = b) := by
  by_cases z : a = b
  · rw [decide_eq_true z, z, decide_eq_true rfl]
  · rw [decide_eq_false z, decide_eq_false fun y => z (V.int.inj y)]
def sp_has_form_of_block (ta : String → Addr) : Sp := fun vs H Q _ => ∃ (a : Addr) (told : List Str), vs = [.ref a] ∧ H a = some (.lst (told.map V.str)) ∧ (∀ x ∈ told, x.length + 2 ≤ sizeLine) ∧ Tb (Ts ta) H ∧ ∀ H', Kx [] H H' → Q (.bl (blockF told)) H'
theorem ok__has_form_of_block (Y : Facts K mg base fa fd ca ta) : FnOk P w K mg base CX0 4 (fa "_has_form_of_block") (fd "_has_form_of_block") ["told"] (sp_has_form_of_block ta) := by
  refine Y.d__has_form_of_block.ok sc__has_form_of_block (fun vs H Q E h => ?_) (fun cdv A outer s H vs Q E hcd hr h => ?_)
  · obtain ⟨a, told, rfl, _⟩ := h; rfl
  · obtain ⟨a, told, rfl, ea, hl, hT, q⟩ := h
    refine ⟨_, (pss_cons (ps_if (pt_cmpR op_ne (pe_callB (call_lenK K rfl) (by rfl) Y.b.len (by decide +kernel) (pa_cons (pv 0) pa_nil)) pe_int (nomark _)) (pss_one (ps_ret pe_bl)) pss_nil)
      (pss_cons (ps_asg (pv 0) (pg_lstK (n := 5) K rfl rfl (pgs_cons (pg_name (i := 1) sc__has_form_of_block.nd rfl (by first | exact Or.inl rfl | exact Or.inr rfl)) (pgs_cons (pg_name (i := 2) sc__has_form_of_block.nd rfl (by first | exact Or.inl rfl | exact Or.inr rfl)) (pgs_cons (pg_name (i := 3) sc__has_form_of_block.nd rfl (by first | exact Or.inl rfl | exact Or.inr rfl)) (pgs_cons (pg_name (i := 4) sc__has_form_of_block.nd rfl (by first | exact Or.inl rfl | exact Or.inr rfl)) (pgs_cons (pg_name (i := 5) sc__has_form_of_block.nd rfl (by first | exact Or.inl rfl | exact Or.inr rfl)) pgs_nil)))))))
      (pss_one (ps_ret (pe_and (pe_allG (own := [("word", 6)]) (g := gName 6) (tt := tYes) (hr.mono (by decide)) rfl sc__has_form_of_block.nd (by rfl) Y.b.all Y.t__has_form_of_block.tb (hcd.symm.trans Y.t__has_form_of_block.code) (gok_by (N := ["told", "house", "craft", "ready", "due", "worth", "word"]) (sc := defScope s__has_form_of_block) (by decide +kernel)) (pi_tupK K rfl (pe_tup (pa_cons (pv 1) (pa_cons (pv 2) (pa_cons (pv 3) (pa_cons (pv 5) pa_nil)))))) (fun _ _ _ _ _ _ _ => (pg_name (i := 6) sc__has_form_of_block.nd rfl (by first | exact Or.inl rfl | exact Or.inr rfl))) (fun _ _ _ _ _ _ _ => pts_nil) (fun _ _ _ _ _ _ _ => (pe_call (ok_is_figures Y) ((room_gen (k := 2) (hr.mono (by decide)) _).mono (by decide)) (by rfl) Y.d_is_figures.g Y.d_is_figures.kp Y.d_is_figures.b .nil pass0 (pa_cons (pv 6) pa_nil)))) (pe_one (pe_or (pe_cmpR op_eq (pv 4) pe_str (nomark _)) (pe_one (pe_call (ok_is_figures Y) (hr.mono (by decide)) (by rfl) Y.d_is_figures.g Y.d_is_figures.kp Y.d_is_figures.b .nil pass0 (pa_cons (pv 4) pa_nil)))))))))), ?_⟩
    refine st_seq (st_ifs ⟨.ref a, rfl, a, _, rfl, .inl (SqL.of ea), rfl, _, rfl, ?_⟩)
    rw [eqI, List.length_map]
    by_cases h5 : told.length = 5
    · obtain ⟨x1, x2, x3, x4, x5, rfl⟩ := five_strs h5
      rw [decide_eq_true (show ((([x1, x2, x3, x4, x5] : List Str).length : Nat) : Int) = 5 from rfl)]
      refine iteF (st_next ?_)
      dsimp only
      have l1 := hl x1 (by simp)
      have l2 := hl x2 (by simp)
      have l3 := hl x3 (by simp)
      have l4 := hl x4 (by simp)
      have l5 := hl x5 (by simp)
      refine st_seq ⟨.ref a, rfl, a, _, rfl, SqL.of ea, rfl, _, _, rfl, _, _, rfl, _, _, rfl, _, _, rfl, _, _, rfl, rfl, ?_⟩
      dsimp only
      refine st_ret (st_andv (all_use ?_))
      refine ⟨_, rfl, _, rfl, _, rfl, _, rfl, len_ok, fun T hT' => ?_⟩
      have k1 : Kx [] H (upd H T (.tup [.str x1, .str x2, .str x3, .str x5])) := Kx.new hT'
      have e1 : upd H T (.tup [.str x1, .str x2, .str x3, .str x5]) T = some (.tup [.str x1, .str x2, .str x3, .str x5]) := upd_same
      show ∃ a, V.ref T = .ref a ∧ (∃ xs, SqT K (upd H T (.tup [.str x1, .str x2, .str x3, .str x5])) a xs) ∧ _
      generalize upd H T (.tup [.str x1, .str x2, .str x3, .str x5]) = H1 at k1 e1 ⊢
      refine ⟨T, rfl, ⟨_, SqT.of e1⟩, ?_⟩
      refine all_at (itt_at (B := []) e1 (by simp)) (p := fun i => figB (([x1, x2, x3, x5] : List Str).getD i "")) (tab__has_form_of_block (hT.kx k1)) (fun i H2 hi k2 R hR => ?_) fun H2 k2 => ?_
      · have hi' : i < ([x1, x2, x3, x5] : List Str).length := hi
        have e : [V.str x1, .str x2, .str x3, .str x5].getD i .non = .str (([x1, x2, x3, x5] : List Str).getD i "") := by
          have : [V.str x1, .str x2, .str x3, .str x5] = ([x1, x2, x3, x5] : List Str).map V.str := rfl
          rw [this, getD_at _ _ (by rw [List.length_map]; exact hi'), getD_at _ _ hi', List.getElem_map]
        rw [e]
        have hm : ([x1, x2, x3, x5] : List Str).getD i "" ∈ ([x1, x2, x3, x5] : List Str) := by rw [getD_at _ _ hi']; exact List.getElem_mem hi'
        have hlen : (([x1, x2, x3, x5] : List Str).getD i "").length ≤ sizeLine := by
          simp only [List.mem_cons, List.not_mem_nil, or_false] at hm
          rcases hm with e | e | e | e <;> rw [e] <;> omega
        exact ⟨rfl, _, rfl, _, rfl, hlen, hT.kx (k1.trans k2), fun H3 k3 => ⟨_, rfl, hR H3 k3⟩⟩
      · have hra := range_all ([x1, x2, x3, x5] : List Str) "" figB
        rw [show ([V.str x1, .str x2, .str x3, .str x5] : List V).length = ([x1, x2, x3, x5] : List Str).length from rfl, hra]
        have q : ∀ H', Kx [] H H' → Q (.bl ([x1, x2, x3, x5].all figB && (decide (x4 = ("-" : Str)) || figB x4))) H' := q
        have k02 := k1.trans k2
        refine ⟨_, rfl, ?_⟩
        cases c1 : ([x1, x2, x3, x5] : List Str).all figB with
        | false =>
          have := q H2 k02
          rw [c1] at this
          exact iteF this
        | true =>
        rw [c1, Bool.true_and] at q
        refine iteT (st_orv ⟨_, rfl, rfl, _, rfl, ?_⟩)
        rw [eqS]
        cases c2 : decide (x4 = ("-" : Str)) with
        | true =>
          have := q H2 k02
          rw [c2] at this
          exact iteT this
        | false =>
          rw [c2, Bool.false_or] at q
          exact iteF ⟨_, rfl, x4, rfl, by omega, hT.kx k02, fun H3 k3 => q H3 (k02.trans k3)⟩
    · rw [decide_eq_false (show ¬ ((told.length : Nat) : Int) = 5 by omega)]
      rw [blockF_no h5] at q
      exact iteT (q H (Kx.refl _))
def formB (ws : List Str) : Bool := if inV (.str (ws.getD 0 "")) [.str "hours", .str "store"] = true then decide (((ws.drop 1).length : Int) = 1) && figB ((ws.drop 1).getD 0 "")
  else if decide (ws.getD 0 "" = ("dish" : Str)) = true then dishF (ws.drop 1) else decide (ws.getD 0 "" = ("block" : Str)) && blockF (ws.drop 1)
def sp_has_form (ta : String → Addr) : Sp := fun vs H Q _ => ∃ (a : Addr) (ws : List Str), vs = [.ref a] ∧ H a = some (.lst (ws.map V.str)) ∧ 0 < ws.length ∧ (∀ x ∈ ws, x.length + 2 ≤ sizeLine) ∧ Tb (Ts ta) H ∧ ∀ H', Kx [] H H' → Q (.bl (formB ws)) H'
theorem ok__has_form (Y : Facts K mg base fa fd ca ta) : FnOk P w K mg base CX0 7 (fa "_has_form") (fd "_has_form") ["words"] (sp_has_form ta) := by
  refine Y.d__has_form.ok sc__has_form (fun vs H Q E h => ?_) (fun cdv A outer s H vs Q E hcd hr h => ?_)
  · obtain ⟨a, ws, rfl, _⟩ := h; rfl
  · obtain ⟨a, ws, rfl, ea, h0, hl, hT, q⟩ := h
    refine ⟨_, (pss_cons (ps_set (i := 1) sc__has_form.nd rfl (by first | exact Or.inl rfl | exact Or.inr rfl) (pe_ix (ix_listK K rfl) (pv 0) pe_int (fun _ _ => rfl)))
      (pss_cons (ps_set (i := 2) sc__has_form.nd rfl (by first | exact Or.inl rfl | exact Or.inr rfl) (pe_slice (sl_listK K rfl) (pv 0) (po_some pe_int) po_none))
      (pss_cons (ps_if (pt_cmpR (op_inK K rfl) (pv 1) (pe_tup (pa_cons pe_str (pa_cons pe_str pa_nil))) (by rfl)) (pss_one (ps_ret (pe_and (pe_cmpR op_eq (pe_callB (call_lenK K rfl) (by rfl) Y.b.len (by decide +kernel) (pa_cons (pv 2) pa_nil)) pe_int (nomark _)) (pe_one (pe_call (ok_is_figures Y) (hr.mono (by decide)) (by rfl) Y.d_is_figures.g Y.d_is_figures.kp Y.d_is_figures.b .nil pass0 (pa_cons (pe_ix (ix_listK K rfl) (pv 2) pe_int (fun _ _ => rfl)) pa_nil)))))) pss_nil)
      (pss_cons (ps_if (pt_cmpR op_eq (pv 1) pe_str (nomark _)) (pss_one (ps_ret (pe_call (ok__has_form_of_dish Y) (hr.mono (by decide)) (by rfl) Y.d__has_form_of_dish.g Y.d__has_form_of_dish.kp Y.d__has_form_of_dish.b .nil pass0 (pa_cons (pv 2) pa_nil)))) pss_nil)
      (pss_one (ps_ret (pe_and (pe_cmpR op_eq (pv 1) pe_str (nomark _)) (pe_one (pe_call (ok__has_form_of_block Y) (hr.mono (by decide)) (by rfl) Y.d__has_form_of_block.g Y.d__has_form_of_block.kp Y.d__has_form_of_block.b .nil pass0 (pa_cons (pv 2) pa_nil)))))))))), ?_⟩
    have i0 := strs_ix (xs := ws) (i := 0) h0
    refine st_set ⟨.ref a, rfl, a, _, 0, _, rfl, rfl, SqL.of ea, i0, ?_⟩
    refine st_set ⟨.ref a, rfl, 1, rfl, a, _, rfl, SqL.of ea, fun p hp => ?_⟩
    rw [show cutV (ws.map V.str) (some 1) none = (ws.map V.str).drop 1 from cut_lo _ 1, ← List.map_drop]
    have k1 : Kx [] H (upd H p (.lst ((ws.drop 1).map V.str))) := Kx.new hp
    have e1 : upd H p (.lst ((ws.drop 1).map V.str)) p = some (.lst ((ws.drop 1).map V.str)) := upd_same
    generalize upd H p (.lst ((ws.drop 1).map V.str)) = H1 at k1 e1 ⊢
    unfold formB at q
    have hl1 : ∀ x ∈ ws.drop 1, x.length + 2 ≤ sizeLine := fun x hx => hl x (List.mem_of_mem_drop hx)
    generalize ws.drop 1 = told at q e1 hl1 ⊢
    generalize ws.getD 0 "" = kind at q ⊢
    refine st_seq (st_ifs ⟨_, rfl, len_ok, fun T hT' => ?_⟩)
    have k2 : Kx [] H1 (upd H1 T (.tup [.str "hours", .str "store"])) := Kx.new hT'
    have e2 : upd H1 T (.tup [.str "hours", .str "store"]) T = some (.tup [.str "hours", .str "store"]) := upd_same
    generalize upd H1 T (.tup [.str "hours", .str "store"]) = H2 at k2 e2 ⊢
    have k02 := k1.trans k2
    have e12 := k2.lst (by simp) e1
    refine ⟨T, _, rfl, .inr (SqT.of e2), rfl, rfl, ?_⟩
    rw [if_neg (by decide)]
    refine ⟨_, rfl, ?_⟩
    cases c1 : inV (.str kind) [.str "hours", .str "store"] with
    | true =>
      rw [c1, if_pos rfl] at q
      refine iteT (st_ret (st_andv ⟨.ref p, rfl, p, _, rfl, .inl (SqL.of e12), rfl, _, rfl, ?_⟩))
      rw [eqI, List.length_map]
      cases c2 : decide ((told.length : Int) = 1) with
      | false =>
        have := q H2 k02
        rw [c2] at this
        exact iteF this
      | true =>
      rw [c2, Bool.true_and] at q
      have h1 : 0 < told.length := by have := of_decide_eq_true c2; omega
      have lt0 := hl1 (told.getD 0 "") (by rw [getD_at told _ h1]; exact List.getElem_mem h1)
      exact iteT ⟨.ref p, rfl, p, _, 0, _, rfl, rfl, SqL.of e12, strs_ix (xs := told) (i := 0) h1, _, rfl, by omega, hT.kx k02, fun H3 k3 => q H3 (k02.trans k3)⟩
    | false =>
    rw [c1, if_neg (by decide)] at q
    refine iteF (st_next ?_)
    dsimp only
    refine st_seq (st_ifs ⟨_, rfl, rfl, _, rfl, ?_⟩)
    rw [eqS]
    cases c2 : decide (kind = ("dish" : Str)) with
    | true =>
      rw [c2, if_pos rfl] at q
      exact iteT ⟨.ref p, rfl, p, told, rfl, e12, hl1, hT.kx k02, fun H3 k3 => q H3 (k02.trans k3)⟩
    | false =>
    rw [c2, if_neg (by decide)] at q
    refine iteF (st_next ?_)
    dsimp only
    refine st_ret (st_andv ⟨_, rfl, rfl, _, rfl, ?_⟩)
    rw [eqS]
    cases c3 : decide (kind = ("block" : Str)) with
    | false =>
      have := q H2 k02
      rw [c3] at this
      exact iteF this
    | true =>
      rw [c3, Bool.true_and] at q
      exact iteT ⟨.ref p, rfl, p, told, rfl, e12, hl1, hT.kx k02, fun H3 k3 => q H3 (k02.trans k3)⟩
end
end Law

set_option Elab.async false
set_option linter.all false
set_option maxRecDepth 100000
set_option maxHeartbeats 4000000
namespace Law
open PySem PySem.Spec PyProof.Rows L2 GxR GX Tree Kit Data Loops Comps Purse Day SetG SetL Loops3 Obj Enum Wipe Txts Lit Ib
/-! ### what rows say -/
def KS : List Str := ["hours", "store", "dish", "block"]
def kix (k : Str) : Nat := KS.idxOf k
def wordsT (ws : List Str) : PyData := .list (ws.map PyData.str)
def kindAt (wss : List (List Str)) (i : Nat) : Str := (wss.getD i []).getD 0 ""
def placeB (wss : List (List Str)) (i : Nat) : Bool := if i = 0 then decide (kindAt wss 0 = ("hours" : Str)) else !decide (kindAt wss i = ("hours" : Str)) && decide ((kix (kindAt wss i) : Int) ≥ (kix (kindAt wss (i - 1)) : Int))
theorem kix_at {k : Str} (h : k ∈ KS) : KS[kix k]? = some k ∧ ∀ m, m < kix k → KS[m]? ≠ some k := by
  have hl := List.idxOf_lt_length_of_mem h
  refine ⟨?_, fun m hm e => ?_⟩
  · unfold kix
    rw [List.getElem?_eq_getElem hl, List.getElem_idxOf hl]
  · have hm' : m < KS.length := Nat.lt_trans hm hl
    rw [List.getElem?_eq_getElem hm'] at e
    have := List.not_of_lt_findIdx (p := fun x => x == k) (xs := KS) (i := m) hm
    rw [Option.some.inj e] at this
    simp at this
/-- words as a tree -/
theorem words_at {B : List Addr} {H : Hp} {v : V} {ws : List Str} (t : Tr B H v (wordsT ws)) : ∃ a, v = .ref a ∧ H a = some (.lst (ws.map V.str)) := by
  obtain ⟨a, xs, rfl, e, tx⟩ := t.listV
  exact ⟨a, rfl, strs_of tx ▸ e⟩
def numOf (x : Str) : Int := (intText? x).getD 0
theorem figB_reads {x : Str} (h : figB x = true) : intText? x = some (numOf x) ∧ x.length ≤ 4 := by
  unfold figB at h
  simp only [Bool.and_eq_true, decide_eq_true_eq] at h
  obtain ⟨⟨h1, h2⟩, h3, -⟩ := h
  have hd : PySem.NumText.AllDigits x.cps.toList := fun c hc => by
    have := List.all_eq_true.mp h3 c hc
    rw [figs_tl] at this
    have := of_decide_eq_true this
    simp only [List.mem_cons, List.not_mem_nil, or_false] at this
    omega
  have hne : x.cps.toList ≠ [] := fun e => by
    have : x.length = 0 := by rw [TL.len_tl]; show x.cps.toList.length = 0; rw [e]; rfl
    omega
  have := PySem.intText_digits hd hne (by omega)
  refine ⟨?_, by omega⟩
  unfold numOf
  rw [this]
  rfl
section
variable {P : Program} {w : World} {K : PySem.W.Frag} {mg : Str → Option Value} {base : Heap} {fa : String → Addr} {fd : String → FuncData} {ca ta : String → Addr}
theorem kinds_index (Y : Facts K mg base fa fd ca ta) {H : Hp} {k : Str} (h : k ∈ KS) {Q : VK} (q : Q (.int ((kix k : Nat) : Int)) H) : rTupIx K (.ref (fa "KINDS")) [.str k] H Q := by
  obtain ⟨h1, h2⟩ := kix_at h
  exact ⟨fa "KINDS", KS, k, kix k, rfl, rfl, Y.kt_KINDS H, h1, h2, q⟩
theorem row_ix' {B : List Addr} {H : Hp} {R : Addr} {wss : List (List Str)} (t : Tr B H (.ref R) (.list (wss.map wordsT))) {i : Nat} (hi : i < wss.length) : ∃ xs a, H R = some (.lst xs) ∧ atI xs (i : Int) = some (.ref a) ∧ H a = some (.lst ((wss.getD i []).map V.str)) := by
  obtain ⟨_, xs, v, e, eR, a3, tv⟩ := ixT t (i := (i : Int)) (by omega) (by rw [List.length_map]; omega)
  cases e
  rw [Int.toNat_natCast, getD_map wordsT wss i [] _ hi] at tv
  obtain ⟨a, rfl, ea⟩ := words_at tv
  exact ⟨xs, a, eR, a3, ea⟩
def sp_is_at_its_place : Sp := fun vs H Q _ => ∃ (R : Addr) (wss : List (List Str)) (i : Nat), vs = [.ref R, .int i] ∧ Tr [] H (.ref R) (.list (wss.map wordsT)) ∧ i < wss.length ∧ (∀ ws ∈ wss, 0 < ws.length) ∧ kindAt wss i ∈ KS ∧ (i ≠ 0 → kindAt wss (i - 1) ∈ KS) ∧ Q (.bl (placeB wss i)) H
theorem ok__is_at_its_place (Y : Facts K mg base fa fd ca ta) : FnOk P w K mg base CX0 1 (fa "_is_at_its_place") (fd "_is_at_its_place") ["rows", "at"] sp_is_at_its_place := by
  refine Y.d__is_at_its_place.ok sc__is_at_its_place (fun vs H Q E h => ?_) (fun cdv A outer s H vs Q E hcd hr h => ?_)
  · obtain ⟨R, wss, i, rfl, _⟩ := h; rfl
  · obtain ⟨R, wss, i, rfl, t, hi, hne, k1, k2, q⟩ := h
    refine ⟨_, (pss_cons (ps_set (i := 2) sc__is_at_its_place.nd rfl (by first | exact Or.inl rfl | exact Or.inr rfl) (pe_ix (ix_listK K rfl) (pe_ix (ix_listK K rfl) (pv 0) (pv 1) (fun _ _ => rfl)) pe_int (fun _ _ => rfl)))
      (pss_cons (ps_if (pt_cmpR op_eq (pv 1) pe_int (nomark _)) (pss_one (ps_ret (pe_cmpR op_eq (pv 2) pe_str (nomark _)))) pss_nil)
      (pss_one (ps_ret (pe_and (pe_cmpR op_ne (pv 2) pe_str (nomark _)) (pe_one (pe_cmpR op_ge (Caught.pe_bmK K rfl PySem.F.plainAttrs_tuple PySem.F.slot_tuple_index PySem.F.type_tuple_index (mt_tup_indexK K rfl) (pe_glob (v := .ref (fa "KINDS")) (by rfl) Y.k_KINDS rfl) (pa_cons (pv 2) pa_nil)) (Caught.pe_bmK K rfl PySem.F.plainAttrs_tuple PySem.F.slot_tuple_index PySem.F.type_tuple_index (mt_tup_indexK K rfl) (pe_glob (v := .ref (fa "KINDS")) (by rfl) Y.k_KINDS rfl) (pa_cons (pe_ix (ix_listK K rfl) (pe_ix (ix_listK K rfl) (pv 0) (pe_op op_sub (pv 1) pe_int) (fun _ _ => rfl)) pe_int (fun _ _ => rfl)) pa_nil)) (nomark _)))))))), ?_⟩
    unfold placeB at q
    have first : ∀ {j : Nat}, j < wss.length → ∃ xs a, H R = some (.lst xs) ∧ atI xs (j : Int) = some (.ref a) ∧ H a = some (.lst ((wss.getD j []).map V.str)) ∧ atI ((wss.getD j []).map V.str) 0 = some (.str (kindAt wss j)) := fun {j} hj => by
      obtain ⟨xs, a, h1, h2, h3⟩ := row_ix' t hj
      have : 0 < (wss.getD j []).length := hne _ (by rw [getD_at wss _ hj]; exact List.getElem_mem hj)
      exact ⟨xs, a, h1, h2, h3, strs_ix (xs := wss.getD j []) (i := 0) this⟩
    obtain ⟨xs, a, e1, e2, e3, e4⟩ := first hi
    refine st_set ⟨.ref R, rfl, .int i, rfl, R, xs, i, .ref a, rfl, rfl, SqL.of e1, e2, a, _, 0, _, rfl, rfl, SqL.of e3, e4, ?_⟩
    refine st_seq (st_ifs ⟨_, rfl, rfl, _, rfl, ?_⟩)
    rw [eqI]
    by_cases h0 : i = 0
    · subst h0
      rw [if_pos rfl] at q
      rw [decide_eq_true (show ((0 : Nat) : Int) = 0 from rfl)]
      refine iteT ⟨_, rfl, rfl, ?_⟩
      rw [eqS]
      exact q
    · rw [if_neg h0] at q
      rw [decide_eq_false (show ¬ (i : Int) = 0 by omega)]
      refine iteF (st_next ?_)
      dsimp only
      refine st_ret (st_andv ⟨_, rfl, rfl, _, rfl, ?_⟩)
      rw [eqS]
      refine andV (R := fun b => Q (.bl b) H) q fun _ q2 => ?_
      obtain ⟨xs', a', f1, f2, f3, f4⟩ := first (j := i - 1) (by omega)
      rw [show ((i - 1 : Nat) : Int) = (i : Int) - 1 by omega] at f2
      refine ⟨.inr (.inl ⟨rfl, Y.kd_KINDS⟩), _, rfl, Wipe.st_nil (kinds_index Y k1 ?_)⟩
      refine ⟨.inr (.inl ⟨rfl, Y.kd_KINDS⟩), .ref R, rfl, _, rfl, i, 1, rfl, rfl, R, xs', _, .ref a', rfl, rfl, SqL.of f1, f2, a', _, 0, _, rfl, rfl, SqL.of f3, f4, Wipe.st_nil (kinds_index Y (k2 h0) ?_)⟩
      exact ⟨_, _, rfl, rfl, q2⟩
end
end Law

set_option Elab.async false
set_option linter.all false
set_option maxRecDepth 100000
set_option maxHeartbeats 4000000
namespace Law
open PySem PySem.Spec PyProof.Rows L2 GxR GX Tree Kit Data Loops Loops2 Comps Purse Day SetG SetL Loops3 Obj Enum Wipe Txts Lit Ib Sep
/-! ### a day out of words -/
def optN (x y : Str) : Option Int := if x = y then none else some (numOf x)
def optV : Option Int → V
  | none => .non
  | some i => .int i
def heardN (x : Str) : List Int := if x = ("-" : Str) then [] else (Txt.split x ",").map numOf
def blkOf (ws : List Str) : Blk := ⟨numOf (ws.getD 1 ""), numOf (ws.getD 2 ""), numOf (ws.getD 3 ""), optN (ws.getD 4 "") "-", numOf (ws.getD 5 "")⟩
def isK (k : Str) (ws : List Str) : Bool := decide (ws.getD 0 "" = k)
def storeF (ws : List Str) : Option PyData := if isK "store" ws = true then some (.int (numOf (ws.getD 1 ""))) else none
def blockG (ws : List Str) : Option PyData := if isK "block" ws = true then some (blkD (blkOf ws)) else none
def sightG (ws : List Str) : PyData := .list ((ws.drop 2).map fun x => rowD (heardN x))
def askG (ws : List Str) : PyData := optD (optN (ws.getD 1 "") "own")
def dataOf (wss : List (List Str)) : PyData := .tuple [.int (numOf ((wss.getD 0 []).getD 1 "")), .list (wss.filterMap storeF), .list ((wss.filter (isK "dish")).map sightG), .list ((wss.filter (isK "dish")).map askG), .list (wss.filterMap blockG)]
theorem range_fm {α β : Type} (F : α → Option β) (l : List α) (d : α) : (List.range l.length).filterMap (fun i => F (l.getD i d)) = l.filterMap F := by
  have h : (List.range l.length).map (fun i => l.getD i d) = l := by
    refine List.ext_getElem (by simp) fun i h1 h2 => ?_
    rw [List.getElem_map, List.getElem_range, getD_at l d h2]
  conv => rhs; rw [← h]
  rw [List.filterMap_map]
  rfl
theorem fm_some {α β : Type} (F : α → β) (l : List α) : l.filterMap (fun a => some (F a)) = l.map F := by
  induction l with
  | nil => rfl
  | cons a r ih => simp
theorem tailJ_ge (s : Str) (h : 1 ≤ s.length) : ∀ r : List Str, r.length ≤ (tailJ s r).length
  | [] => Nat.zero_le _
  | a :: r => by
    have := tailJ_ge s h r
    show r.length + 1 ≤ (s ++ a ++ tailJ s r).length
    rw [len_append, len_append]
    omega
theorem split_count (x y : Str) (h : 1 ≤ y.length) : (Txt.split x y).length ≤ x.length + 1 := by
  have h1 := StrLaws.join_split x y
  rw [← TL.join_eq] at h1
  cases e : Txt.split x y with
  | nil => exact Nat.zero_le _
  | cons a r =>
    rw [e, join_tail] at h1
    have h2 := tailJ_ge y h r
    have h3 := congrArg Str.length h1
    rw [len_append] at h3
    show r.length + 1 ≤ _
    omega
section
variable {P : Program} {w : World} {K : PySem.W.Frag} {mg : Str → Option Value} {base : Heap} {fa : String → Addr} {fd : String → FuncData} {ca ta : String → Addr}
def sp_number_of : Sp := fun vs H Q _ => ∃ x y : Str, vs = [.str x, .str y] ∧ (x ≠ y → figB x = true) ∧ Q (optV (optN x y)) H
theorem ok__number_of (Y : Facts K mg base fa fd ca ta) : FnOk P w K mg base CX0 1 (fa "_number_of") (fd "_number_of") ["word", "word_for_none"] sp_number_of := by
  refine Y.d__number_of.ok sc__number_of (fun vs H Q E h => ?_) (fun cdv A outer s H vs Q E hcd hr h => ?_)
  · obtain ⟨x, y, rfl, _⟩ := h; rfl
  · obtain ⟨x, y, rfl, hf, q⟩ := h
    refine ⟨_, (pss_one (ps_ret (pe_ifExp (pt_cmpR op_eq (pv 0) (pv 1) (nomark _)) pe_non (pe_callTy call_int_str (by rfl) Y.b.int (by decide +kernel) (pa_cons (pv 0) pa_nil))))), ?_⟩
    refine st_ret ⟨_, rfl, _, rfl, rfl, _, rfl, ?_⟩
    rw [eqS]
    unfold optN at q
    by_cases e : x = y
    · rw [decide_eq_true e]
      rw [if_pos e] at q
      exact iteT q
    · rw [decide_eq_false e]
      rw [if_neg e] at q
      obtain ⟨h1, h2⟩ := figB_reads (hf e)
      exact iteF ⟨_, rfl, x, _, rfl, h1, by omega, q⟩
def sp_heard_of : Sp := fun vs H Q _ => ∃ x : Str, vs = [.str x] ∧ heardF x = true ∧ x.length + 2 ≤ sizeLine ∧ ∀ (L : Addr) (H' : Hp), Kx [] H H' → SepT H' (.ref L) (rowD (heardN x)) [L] → New H [L] → Q (.ref L) H'
theorem new_one {H : Hp} {L : Addr} (h : H L = none) : New H [L] := ⟨List.pairwise_singleton _ _, fun a ha => by rw [List.mem_singleton.mp ha]; exact h⟩
theorem ok__heard_of (Y : Facts K mg base fa fd ca ta) : FnOk P w K mg base CX0 1 (fa "_heard_of") (fd "_heard_of") ["word"] sp_heard_of := by
  refine Y.d__heard_of.ok sc__heard_of (fun vs H Q E h => ?_) (fun cdv A outer s H vs Q E hcd hr h => ?_)
  · obtain ⟨x, rfl, _⟩ := h; rfl
  · obtain ⟨x, rfl, hf, hl, q⟩ := h
    refine ⟨_, (pss_one (ps_ret (pe_ifExp (pt_cmpR op_eq (pv 0) pe_str (nomark _)) (pe_lst pa_nil) (pe_lc (own := [("part", 1)]) (g := gName 1) (tt := tYes) rfl sc__heard_of.nd (pi_listK K rfl (pe_split (pv 0) pe_str)) (blkOk_by (N := ["word", "part"]) (sc := defScope s__heard_of) (by decide +kernel)) (fun _ _ _ _ _ => (pg_name (i := 1) sc__heard_of.nd rfl (by first | exact Or.inl rfl | exact Or.inr rfl))) (fun _ _ _ _ _ => pts_nil) (fun _ _ _ _ _ => (pe_callTy call_int_str (by rfl) Y.b.int (by decide +kernel) (pa_cons (pv 1) pa_nil))))))), ?_⟩
    refine st_ret ⟨_, rfl, rfl, _, rfl, ?_⟩
    rw [eqS]
    unfold heardN at q
    unfold heardF at hf
    by_cases e : x = ("-" : Str)
    · rw [decide_eq_true e]
      rw [if_pos e] at q
      refine iteT ⟨len_ok, fun L hL => ?_⟩
      exact q L _ (Kx.new hL) (.lst upd_same .nil) (new_one hL)
    · rw [decide_eq_false e] at hf ⊢
      rw [if_neg e] at q
      rw [Bool.false_or] at hf
      refine iteF (lc_use (st_ilist ⟨_, rfl, ⟨_, rfl⟩, x, ",", rfl, rfl, by decide +kernel, hl, fun p hp => ?_⟩))
      have k1 : Kx [] H (upd H p (.lst ((Txt.split x ",").map V.str))) := Kx.new hp
      have e1 : upd H p (.lst ((Txt.split x ",").map V.str)) p = some (.lst ((Txt.split x ",").map V.str)) := upd_same
      generalize upd H p (.lst ((Txt.split x ",").map V.str)) = H1 at k1 e1 ⊢
      have lps : (Txt.split x ",").length ≤ x.length + 1 := split_count x "," (by decide +kernel)
      generalize Txt.split x "," = ps at q e1 hf lps ⊢
      refine ⟨p, rfl, ⟨_, SqL.of e1⟩, ?_⟩
      refine lc_mapV (fun i => .int (numOf (ps.getD i ""))) e1 (by rw [List.length_map]; omega) (fun i H2 hi k2 R hR => ?_) fun D1 H2 k2 hD1 e2 => ?_
      · have hi' : i < ps.length := by rw [List.length_map] at hi; exact hi
        have e : (ps.map V.str).getD i .non = .str (ps.getD i "") := by
          rw [getD_at _ _ (by rw [List.length_map]; exact hi'), getD_at ps _ hi', List.getElem_map]
        rw [e]
        obtain ⟨h1, h2⟩ := figB_reads (List.all_eq_true.mp hf (ps.getD i "") (by rw [getD_at ps _ hi']; exact List.getElem_mem hi'))
        exact ⟨rfl, _, rfl, _, _, rfl, h1, by omega, hR H2 (Kx.refl _)⟩
      · rw [List.length_map, range_map (fun x => V.int (numOf x)) ps ""] at e2
        have e2 : H2 D1 = some (.lst ((ps.map numOf).map V.int)) := by rw [List.map_map]; exact e2
        exact q D1 H2 (k1.trans k2) (.lst e2 (SepAll.ints _)) (new_one (k1.free (by simp) hD1))
def sp_block_of : Sp := fun vs H Q _ => ∃ (a : Addr) (ws : List Str), vs = [.ref a] ∧ H a = some (.lst (ws.map V.str)) ∧ blockF (ws.drop 1) = true ∧ ∀ (T : Addr) (H' : Hp), Kx [] H H' → SepT H' (.ref T) (blkD (blkOf ws)) [] → Q (.ref T) H'
theorem block_form {ws : List Str} (h : blockF (ws.drop 1) = true) : ∃ k a b c d e, ws = [k, a, b, c, d, e] ∧ figB a = true ∧ figB b = true ∧ figB c = true ∧ (d ≠ ("-" : Str) → figB d = true) ∧ figB e = true := by
  match ws, h with
  | k :: t, h =>
    have h : blockF t = true := h
    by_cases h5 : t.length = 5
    · obtain ⟨a, b, c, d, e, rfl⟩ := five_strs h5
      have h : ([a, b, c, e].all figB && (decide (d = ("-" : Str)) || figB d)) = true := h
      simp only [List.all_cons, List.all_nil, Bool.and_true, Bool.and_eq_true, Bool.or_eq_true, decide_eq_true_eq] at h
      obtain ⟨⟨h1, h2, h3, h4⟩, h5⟩ := h
      exact ⟨k, a, b, c, d, e, rfl, h1, h2, h3, fun n => h5.resolve_left n, h4⟩
    · rw [blockF_no h5] at h; cases h
theorem optV_sep {H : Hp} (o : Option Int) : SepT H (optV o) (optD o) [] := by
  cases o with
  | none => exact .non
  | some i => exact .int i
theorem ok__block_of (Y : Facts K mg base fa fd ca ta) : FnOk P w K mg base CX0 2 (fa "_block_of") (fd "_block_of") ["words"] sp_block_of := by
  refine Y.d__block_of.ok sc__block_of (fun vs H Q E h => ?_) (fun cdv A outer s H vs Q E hcd hr h => ?_)
  · obtain ⟨a, ws, rfl, _⟩ := h; rfl
  · obtain ⟨a, ws, rfl, ea, hf, q⟩ := h
    refine ⟨_, (pss_cons (ps_asg (pv 0) (pg_lstK (n := 6) K rfl rfl (pgs_cons (pg_name (i := 1) sc__block_of.nd rfl (by first | exact Or.inl rfl | exact Or.inr rfl)) (pgs_cons (pg_name (i := 2) sc__block_of.nd rfl (by first | exact Or.inl rfl | exact Or.inr rfl)) (pgs_cons (pg_name (i := 3) sc__block_of.nd rfl (by first | exact Or.inl rfl | exact Or.inr rfl)) (pgs_cons (pg_name (i := 4) sc__block_of.nd rfl (by first | exact Or.inl rfl | exact Or.inr rfl)) (pgs_cons (pg_name (i := 5) sc__block_of.nd rfl (by first | exact Or.inl rfl | exact Or.inr rfl)) (pgs_cons (pg_name (i := 6) sc__block_of.nd rfl (by first | exact Or.inl rfl | exact Or.inr rfl)) pgs_nil))))))))
      (pss_one (ps_ret (pe_tup (pa_cons (pe_callTy call_int_str (by rfl) Y.b.int (by decide +kernel) (pa_cons (pv 2) pa_nil)) (pa_cons (pe_callTy call_int_str (by rfl) Y.b.int (by decide +kernel) (pa_cons (pv 3) pa_nil)) (pa_cons (pe_callTy call_int_str (by rfl) Y.b.int (by decide +kernel) (pa_cons (pv 4) pa_nil)) (pa_cons (pe_call (ok__number_of Y) (hr.mono (by decide)) (by rfl) Y.d__number_of.g Y.d__number_of.kp Y.d__number_of.b .nil pass0 (pa_cons (pv 5) (pa_cons pe_str pa_nil))) (pa_cons (pe_callTy call_int_str (by rfl) Y.b.int (by decide +kernel) (pa_cons (pv 6) pa_nil)) pa_nil))))))))), ?_⟩
    obtain ⟨k, x1, x2, x3, x4, x5, rfl, h1, h2, h3, h4, h5⟩ := block_form hf
    obtain ⟨r1, l1⟩ := figB_reads h1
    obtain ⟨r2, l2⟩ := figB_reads h2
    obtain ⟨r3, l3⟩ := figB_reads h3
    obtain ⟨r5, l5⟩ := figB_reads h5
    refine st_seq ⟨.ref a, rfl, a, _, rfl, SqL.of ea, rfl, _, _, rfl, _, _, rfl, _, _, rfl, _, _, rfl, _, _, rfl, _, _, rfl, rfl, ?_⟩
    dsimp only
    refine st_ret (st_tup ?_)
    refine ⟨_, rfl, x1, _, rfl, r1, by omega, _, rfl, x2, _, rfl, r2, by omega, _, rfl, x3, _, rfl, r3, by omega, _, rfl, x4, _, rfl, h4, _, rfl, x5, _, rfl, r5, by omega, len_ok, fun T hT => ?_⟩
    refine q T _ (Kx.new hT) (.tup upd_same ?_)
    exact .cons (as := []) (.int _) (.cons (as := []) (.int _) (.cons (as := []) (.int _) (.cons (as := []) (optV_sep _) (.cons (as := []) (.int _) .nil))))
end
end Law

set_option Elab.async false
set_option linter.all false
set_option maxRecDepth 100000
set_option maxHeartbeats 4000000
namespace Law
open PySem PySem.Spec PyProof.Rows L2 GxR GX Tree Kit Data Loops Loops2 Comps Purse Day SetG SetL Loops3 Obj Enum Wipe Txts Lit Ib Sep
structure RowsOk (wss : List (List Str)) : Prop where
  ne : 0 < wss.length
  few : wss.length < 10000
  wd : ∀ ws ∈ wss, 0 < ws.length
  fm : ∀ ws ∈ wss, formB ws = true
  ln : ∀ ws ∈ wss, ∀ x ∈ ws, x.length + 2 ≤ sizeLine
  wl : ∀ ws ∈ wss, (ws.drop 2).length < sizeLine
  h0 : kindAt wss 0 = ("hours" : Str)
theorem form_one {ws : List Str} (h : formB ws = true) (k : ws.getD 0 "" = ("hours" : Str) ∨ ws.getD 0 "" = ("store" : Str)) : ∃ x, ws.getD 1 "" = x ∧ ws[1]? = some x ∧ figB x = true := by
  unfold formB at h
  have hi : inV (.str (ws.getD 0 "")) [.str "hours", .str "store"] = true := by
    rcases k with k | k <;> rw [k] <;> decide +kernel
  rw [if_pos hi] at h
  obtain ⟨h1, h2⟩ := Bool.and_eq_true_iff.mp h
  have h1 := of_decide_eq_true h1
  rw [List.length_drop] at h1
  have hl : 1 < ws.length := by omega
  have e : (ws.drop 1).getD 0 "" = ws.getD 1 "" := by
    rw [getD_at _ _ (by rw [List.length_drop]; omega), getD_at ws _ hl, List.getElem_drop]
  rw [e] at h2
  exact ⟨_, rfl, by rw [List.getElem?_eq_getElem hl, getD_at ws _ hl], h2⟩
theorem form_dish {ws : List Str} (h : formB ws = true) (k : ws.getD 0 "" = ("dish" : Str)) : 1 < ws.length ∧ (ws.getD 1 "" ≠ ("own" : Str) → figB (ws.getD 1 "") = true) ∧ ∀ x ∈ ws.drop 2, heardF x = true := by
  unfold formB at h
  rw [k, if_neg (by decide +kernel), if_pos (by decide +kernel)] at h
  unfold dishF at h
  simp only [Bool.and_eq_true, Bool.or_eq_true, decide_eq_true_eq] at h
  obtain ⟨h1, h2, h3⟩ := h
  rw [List.length_drop] at h1
  have hl : 1 < ws.length := by omega
  have e : (ws.drop 1).getD 0 "" = ws.getD 1 "" := by
    rw [getD_at _ _ (by rw [List.length_drop]; omega), getD_at ws _ hl, List.getElem_drop]
  rw [e] at h2
  refine ⟨hl, fun n => h2.resolve_left n, fun x hx => List.all_eq_true.mp h3 x ?_⟩
  rw [List.drop_drop]
  exact hx
theorem form_block {ws : List Str} (h : formB ws = true) (k : ws.getD 0 "" = ("block" : Str)) : blockF (ws.drop 1) = true := by
  unfold formB at h
  rw [k, if_neg (by decide +kernel), if_neg (by decide +kernel)] at h
  exact (Bool.and_eq_true_iff.mp h).2
theorem form_kind {ws : List Str} (h : formB ws = true) : ws.getD 0 "" ∈ KS := by
  unfold formB at h
  unfold KS
  simp only [List.mem_cons, List.not_mem_nil, or_false]
  by_cases hi : inV (.str (ws.getD 0 "")) [.str "hours", .str "store"] = true
  · unfold inV at hi
    simp only [List.any_cons, List.any_nil, Bool.or_false, Bool.or_eq_true] at hi
    have key : ∀ a b : Str, eqV (.str a) (.str b) = true → b = a := fun a b e => by
      have e : (a == b) = true := e
      exact (eq_of_beq e).symm
    rcases hi with hi | hi
    · exact .inl (key _ _ hi)
    · exact .inr (.inl (key _ _ hi))
  · rw [if_neg hi] at h
    by_cases hd : decide (ws.getD 0 "" = ("dish" : Str)) = true
    · exact .inr (.inr (.inl (of_decide_eq_true hd)))
    · rw [if_neg hd] at h
      exact .inr (.inr (.inr (of_decide_eq_true (Bool.and_eq_true_iff.mp h).1)))
section
variable {P : Program} {w : World} {K : PySem.W.Frag} {mg : Str → Option Value} {base : Heap} {fa : String → Addr} {fd : String → FuncData} {ca ta : String → Addr}
def pdish : PyData → Bool
  | .list (.str k :: _) => decide (k = ("dish" : Str))
  | _ => false
theorem pdish_eq {ws : List Str} (h : 0 < ws.length) : pdish (wordsT ws) = isK "dish" ws := by
  match ws, h with
  | k :: r, _ => rfl
theorem pdish_filter : ∀ {wss : List (List Str)}, (∀ ws ∈ wss, 0 < ws.length) → (wss.map wordsT).filter pdish = (wss.filter (isK "dish")).map wordsT
  | [], _ => rfl
  | ws :: r, h => by
    rw [List.map_cons, List.filter_cons, List.filter_cons, pdish_eq (h ws (by simp)), pdish_filter fun z hz => h z (by simp [hz])]
    split <;> rfl
/-- a row of the rows, by its turn -/
theorem row_turn {H : Hp} {xs : List V} {wss : List (List Str)} (t : TrAll [] H xs (wss.map wordsT)) {i : Nat} (hi : i < wss.length) : ∃ a, xs.getD i .non = .ref a ∧ H a = some (.lst ((wss.getD i []).map V.str)) := by
  obtain ⟨v, e1, e2⟩ := t.get' (i := i) (d := wordsT wss[i]) (by rw [List.getElem?_map, List.getElem?_eq_getElem hi]; rfl)
  obtain ⟨a, rfl, ea⟩ := words_at e2
  exact ⟨a, by rw [List.getD_eq_getElem?_getD, e1]; rfl, by rw [getD_at wss _ hi]; exact ea⟩
def sp_day_of : Sp := fun vs H Q _ => ∃ (R : Addr) (wss : List (List Str)), vs = [.ref R] ∧ Tr [] H (.ref R) (.list (wss.map wordsT)) ∧ RowsOk wss ∧ ∀ (T : Addr) (as : List Addr) (H' : Hp), Kx [] H H' → SepT H' (.ref T) (dataOf wss) as → New H as → Q (.ref T) H'
theorem ok__day_of (Y : Facts K mg base fa fd ca ta) : FnOk P w K mg base CX0 3 (fa "_day_of") (fd "_day_of") ["rows"] sp_day_of := by
  refine Y.d__day_of.ok sc__day_of (fun vs H Q E h => ?_) (fun cdv A outer s H vs Q E hcd hr h => ?_)
  · obtain ⟨R, wss, rfl, _⟩ := h; rfl
  · obtain ⟨R, wss, rfl, t, W, q⟩ := h
    refine ⟨_, (pss_cons (ps_set (i := 1) sc__day_of.nd rfl (by first | exact Or.inl rfl | exact Or.inr rfl) (pe_callTy call_int_str (by rfl) Y.b.int (by decide +kernel) (pa_cons (pe_ix (ix_listK K rfl) (pe_ix (ix_listK K rfl) (pv 0) pe_int (fun _ _ => rfl)) pe_int (fun _ _ => rfl)) pa_nil)))
      (pss_cons (ps_setLc (i := 2) (own := [("words", 6)]) (g := gName 6) rfl sc__day_of.nd rfl rfl (sw_true rfl rfl rfl (by decide +kernel)) (pi_listK K rfl (pv 0)) (blkOk_by (N := ["rows", "hours", "stores", "dishes", "sights", "asks", "words", "word"]) (sc := defScope s__day_of) (by decide +kernel)) (fun _ _ _ _ _ => (pg_name (i := 6) sc__day_of.nd rfl (by first | exact Or.inl rfl | exact Or.inr rfl))) (fun _ _ _ _ _ => (pts_one (pt_cmpR op_eq (pe_ix (ix_listK K rfl) (pv 6) pe_int (fun _ _ => rfl)) pe_str (nomark _)))) (fun _ _ _ _ _ => (pe_callTy call_int_str (by rfl) Y.b.int (by decide +kernel) (pa_cons (pe_ix (ix_listK K rfl) (pv 6) pe_int (fun _ _ => rfl)) pa_nil))))
      (pss_cons (ps_setLc (i := 3) (own := [("words", 6)]) (g := gName 6) rfl sc__day_of.nd rfl rfl (sw_true rfl rfl rfl (by decide +kernel)) (pi_listK K rfl (pv 0)) (blkOk_by (N := ["rows", "hours", "stores", "dishes", "sights", "asks", "words", "word"]) (sc := defScope s__day_of) (by decide +kernel)) (fun _ _ _ _ _ => (pg_name (i := 6) sc__day_of.nd rfl (by first | exact Or.inl rfl | exact Or.inr rfl))) (fun _ _ _ _ _ => (pts_one (pt_cmpR op_eq (pe_ix (ix_listK K rfl) (pv 6) pe_int (fun _ _ => rfl)) pe_str (nomark _)))) (fun _ _ _ _ _ => (pv 6)))
      (pss_cons (ps_setLc (i := 4) (own := [("words", 6)]) (g := gName 6) (tt := tYes) rfl sc__day_of.nd rfl rfl (sw_true rfl rfl rfl (by decide +kernel)) (pi_listK K rfl (pv 3)) (blkOk_by (N := ["rows", "hours", "stores", "dishes", "sights", "asks", "words", "word"]) (sc := defScope s__day_of) (by decide +kernel)) (fun _ _ _ _ _ => (pg_name (i := 6) sc__day_of.nd rfl (by first | exact Or.inl rfl | exact Or.inr rfl))) (fun _ _ _ _ _ => pts_nil) (fun _ _ _ _ _ => (pe_lc (own := [("word", 7)]) (g := gName 7) (tt := tYes) rfl sc__day_of.nd (pi_listK K rfl (pe_slice (sl_listK K rfl) (pv 6) (po_some pe_int) po_none)) (blkOk_any (N := ["rows", "hours", "stores", "dishes", "sights", "asks", "words", "word"]) (by decide +kernel)) (fun _ _ _ _ _ => (pg_name (i := 7) sc__day_of.nd rfl (by first | exact Or.inl rfl | exact Or.inr rfl))) (fun _ _ _ _ _ => pts_nil) (fun _ _ _ _ _ => (pe_call (ok__heard_of Y) (hr.mono (by decide)) (by rfl) Y.d__heard_of.g Y.d__heard_of.kp Y.d__heard_of.b .nil pass0 (pa_cons (pv 7) pa_nil))))))
      (pss_cons (ps_setLc (i := 5) (own := [("words", 6)]) (g := gName 6) (tt := tYes) rfl sc__day_of.nd rfl rfl (sw_true rfl rfl rfl (by decide +kernel)) (pi_listK K rfl (pv 3)) (blkOk_by (N := ["rows", "hours", "stores", "dishes", "sights", "asks", "words", "word"]) (sc := defScope s__day_of) (by decide +kernel)) (fun _ _ _ _ _ => (pg_name (i := 6) sc__day_of.nd rfl (by first | exact Or.inl rfl | exact Or.inr rfl))) (fun _ _ _ _ _ => pts_nil) (fun _ _ _ _ _ => (pe_call (ok__number_of Y) (hr.mono (by decide)) (by rfl) Y.d__number_of.g Y.d__number_of.kp Y.d__number_of.b .nil pass0 (pa_cons (pe_ix (ix_listK K rfl) (pv 6) pe_int (fun _ _ => rfl)) (pa_cons pe_str pa_nil)))))
      (pss_one (ps_ret (pe_tup (pa_cons (pv 1) (pa_cons (pv 2) (pa_cons (pv 4) (pa_cons (pv 5) (pa_cons (pe_lc (own := [("words", 6)]) (g := gName 6) rfl sc__day_of.nd (pi_listK K rfl (pv 0)) (blkOk_by (N := ["rows", "hours", "stores", "dishes", "sights", "asks", "words", "word"]) (sc := defScope s__day_of) (by decide +kernel)) (fun _ _ _ _ _ => (pg_name (i := 6) sc__day_of.nd rfl (by first | exact Or.inl rfl | exact Or.inr rfl))) (fun _ _ _ _ _ => (pts_one (pt_cmpR op_eq (pe_ix (ix_listK K rfl) (pv 6) pe_int (fun _ _ => rfl)) pe_str (nomark _)))) (fun _ _ _ _ _ => (pe_call (ok__block_of Y) (hr.mono (by decide)) (by rfl) Y.d__block_of.g Y.d__block_of.kp Y.d__block_of.b .nil pass0 (pa_cons (pv 6) pa_nil)))) pa_nil))))))))))))), ?_⟩
    obtain ⟨xs, eR, tx⟩ := t.items
    have lx := tx.length
    rw [List.length_map] at lx
    have few := W.few
    have hm : ∀ {i : Nat}, i < wss.length → wss.getD i [] ∈ wss := fun {i} hi => by rw [getD_at wss _ hi]; exact List.getElem_mem hi
    have row : ∀ {H' : Hp} {i : Nat}, Kx [] H H' → i < wss.length → ∃ a, xs.getD i .non = .ref a ∧ H' a = some (.lst ((wss.getD i []).map V.str)) ∧ atI ((wss.getD i []).map V.str) 0 = some (.str ((wss.getD i []).getD 0 "")) := fun {H' i} k hi => by
      obtain ⟨a, e1, e2⟩ := row_turn (tx.up k) hi
      exact ⟨a, e1, e2, strs_ix (xs := wss.getD i []) (i := 0) (W.wd _ (hm hi))⟩
    have ix1 : ∀ {ws : List Str} {x : Str}, ws[1]? = some x → atI (ws.map V.str) 1 = some (.str x) := fun {ws x} e => at_of (j := 1) (by simp) (by rw [List.getElem?_map, e]; rfl)
    -- the hours
    obtain ⟨a0, e0, ea0, -⟩ := row (Kx.refl H) W.ne
    obtain ⟨x0, ex0, ex0', hf0⟩ := form_one (W.fm _ (hm W.ne)) (.inl W.h0)
    obtain ⟨r0, l0⟩ := figB_reads hf0
    have at0 : atI xs 0 = some (.ref a0) := by
      have := atI_nat (xs := xs) (j := 0) (v := .ref a0) (by
        rw [List.getD_eq_getElem?_getD, List.getElem?_eq_getElem (by have := W.ne; omega)] at e0
        rw [List.getElem?_eq_getElem (by have := W.ne; omega)]
        exact congrArg some e0)
      exact this
    refine st_set ⟨.ref R, rfl, R, xs, 0, .ref a0, rfl, rfl, SqL.of eR, at0, a0, _, 1, _, rfl, rfl, SqL.of ea0, ix1 ex0', x0, _, rfl, r0, by omega, ?_⟩
    -- the stores
    refine st_set (lc_use ?_)
    refine ⟨.ref R, rfl, R, rfl, ⟨_, SqL.of eR⟩, ?_⟩
    refine lc_sep (itl_at (B := []) eR (by simp)) (by rw [lx]; unfold sizeLine; omega) (fun i => storeF (wss.getD i [])) (fun i H1 hi k1 Z Z0 hZ hZ0 => ?_) fun aS asS H1 k1 sS nS => ?_
    · have hi' : i < wss.length := by omega
      obtain ⟨a, ea, eaa, ek⟩ := row k1 hi'
      rw [ea]
      refine ⟨rfl, .ref a, rfl, a, _, 0, _, rfl, rfl, SqL.of eaa, ek, rfl, _, rfl, ?_⟩
      rw [eqS]
      cases c : decide ((wss.getD i []).getD 0 "" = ("store" : Str)) with
      | false => exact iteF (hZ0 (by unfold storeF isK; rw [c]; rfl) H1 (Kx.refl _))
      | true =>
        obtain ⟨x1, e1, e1', hf1⟩ := form_one (W.fm _ (hm hi')) (.inr (of_decide_eq_true c))
        obtain ⟨r1, l1⟩ := figB_reads hf1
        exact iteT ⟨.ref a, rfl, a, _, 1, _, rfl, rfl, SqL.of eaa, ix1 e1', x1, _, rfl, r1, by omega, hZ _ _ [] H1 (by unfold storeF isK; rw [c, if_pos rfl, e1]) (Kx.refl _) (.int _) (New.nil _)⟩
    rw [lx, range_fm storeF wss []] at sS
    have ne1 : ∀ a ∈ aS :: asS, H1 a ≠ none := fun a ha => by
      obtain ⟨ys, e⟩ := sS.there a ha
      rw [e]; simp
    have eR1 := k1.lst (by simp) eR
    -- the rows of dishes
    refine st_set (lc_use ?_)
    refine ⟨.ref R, rfl, R, rfl, ⟨_, SqL.of eR1⟩, ?_⟩
    refine lc_filter pdish eR1 (tx.up k1) (by rw [List.length_map]; unfold sizeLine; omega) (fun x d H2 hd t2 k2 Z Z0 hZ hZ0 => ?_) fun aD ys H2 k2 hD2 eD2 tD2 => ?_
    · obtain ⟨ws, hws, rfl⟩ := List.mem_map.mp hd
      obtain ⟨a, rfl, ea⟩ := words_at t2
      have hw0 := W.wd ws hws
      have i0 := strs_ix (xs := ws) (i := 0) hw0
      rw [pdish_eq hw0] at hZ hZ0
      refine ⟨rfl, .ref a, rfl, a, _, 0, _, rfl, rfl, SqL.of ea, i0, rfl, _, rfl, ?_⟩
      rw [eqS]
      exact ite2 (fun c => ⟨.ref a, rfl, hZ c H2 (Kx.refl _)⟩) (fun c => hZ0 (by unfold isK; simpa using c) H2 (Kx.refl _))
    rw [pdish_filter W.wd] at tD2
    have hdss : ∀ ws ∈ wss.filter (isK "dish"), ws ∈ wss ∧ ws.getD 0 "" = ("dish" : Str) := fun ws h => by
      obtain ⟨h1, h2⟩ := List.mem_filter.mp h
      exact ⟨h1, of_decide_eq_true h2⟩
    have ldss : (wss.filter (isK "dish")).length ≤ wss.length := List.length_filter_le _ _
    have ly := tD2.length
    rw [List.length_map] at ly
    have dHm : ∀ {i : Nat}, i < (wss.filter (isK "dish")).length → (wss.filter (isK "dish")).getD i [] ∈ wss ∧ ((wss.filter (isK "dish")).getD i []).getD 0 "" = ("dish" : Str) := fun {i} hi => hdss _ (by rw [getD_at _ _ hi]; exact List.getElem_mem hi)
    have e6 : dataOf wss = .tuple [.int (numOf x0), .list (wss.filterMap storeF), .list ((wss.filter (isK "dish")).map sightG), .list ((wss.filter (isK "dish")).map askG), .list (wss.filterMap blockG)] := by
      unfold dataOf
      rw [ex0]
    rw [e6] at q
    generalize wss.filter (isK "dish") = dss at tD2 hdss ldss ly dHm q
    have k02 := k1.trans k2
    -- the sights
    refine st_set (lc_use ?_)
    refine ⟨.ref aD, rfl, aD, rfl, ⟨_, SqL.of eD2⟩, ?_⟩
    refine lc_sep (itl_at (B := []) eD2 (by simp)) (by rw [ly]; unfold sizeLine; omega) (fun i => some (sightG (dss.getD i []))) (fun i H3 hi k3 Z Z0 hZ hZ0 => ?_) fun aI asI H3 k3 sI nI => ?_
    · have hi' : i < dss.length := by omega
      obtain ⟨hws, hk⟩ := dHm hi'
      obtain ⟨a, ea, eaa⟩ := row_turn (tD2.up k3) hi'
      obtain ⟨f1, f2, f3⟩ := form_dish (W.fm _ hws) hk
      have fl := W.ln _ hws
      have fd2 := W.wl _ hws
      rw [ea]
      refine ⟨rfl, st_yes (lc_use (st_ilist ⟨.ref a, rfl, 2, rfl, a, _, rfl, SqL.of eaa, fun p hp => ?_⟩))⟩
      have hZ := fun y as H'' => hZ y (sightG (dss.getD i [])) as H'' rfl
      unfold sightG at hZ
      generalize dss.getD i [] = ws at eaa f3 fl hZ fd2 ⊢
      rw [show cutV (ws.map V.str) (some 2) none = (ws.map V.str).drop 2 from cut_lo _ 2, ← List.map_drop]
      have k4 : Kx [] H3 (upd H3 p (.lst ((ws.drop 2).map V.str))) := Kx.new hp
      have e4 : upd H3 p (.lst ((ws.drop 2).map V.str)) p = some (.lst ((ws.drop 2).map V.str)) := upd_same
      generalize upd H3 p (.lst ((ws.drop 2).map V.str)) = H4 at k4 e4 ⊢
      have fl2 : ∀ x ∈ ws.drop 2, x.length + 2 ≤ sizeLine := fun x hx => fl x (List.mem_of_mem_drop hx)
      generalize ws.drop 2 = ps at e4 f3 fl2 hZ fd2 ⊢
      refine ⟨p, rfl, ⟨_, SqL.of e4⟩, ?_⟩
      refine lc_sep (itl_at (B := []) e4 (by simp)) (by rw [List.length_map]; exact fd2) (fun j => some (rowD (heardN (ps.getD j "")))) (fun j H5 hj k5 Y5 Y50 hY hY0 => ?_) fun D5 as5 H5 k5 s5 n5 => ?_
      · have hj' : j < ps.length := by rw [List.length_map] at hj; exact hj
        have e : (ps.map V.str).getD j .non = .str (ps.getD j "") := by
          rw [getD_at _ _ (by rw [List.length_map]; exact hj'), getD_at ps _ hj', List.getElem_map]
        rw [e]
        have hmj : ps.getD j "" ∈ ps := by rw [getD_at ps _ hj']; exact List.getElem_mem hj'
        exact ⟨rfl, st_yes ⟨_, rfl, _, rfl, f3 _ hmj, fl2 _ hmj, fun L H6 k6 s6 n6 => hY _ _ [L] H6 rfl k6 s6 n6⟩⟩
      · rw [List.length_map, range_fm (fun x => some (rowD (heardN x))) ps "", fm_some] at s5
        exact hZ _ _ H5 (k4.trans k5) s5 (n5.back k4)
    rw [ly, range_fm (fun ws => some (sightG ws)) dss [], fm_some] at sI
    have k03 := k02.trans k3
    have n13 := nS.append nI k02 fun a ha => Kx.ne k2 (ne1 a ha)
    have sS3 := sS.up (k2.trans k3)
    have ne3 : ∀ a ∈ (aS :: asS) ++ (aI :: asI), H3 a ≠ none := fun a ha => by
      rcases List.mem_append.mp ha with h | h
      · obtain ⟨ys, e⟩ := sS3.there a h
        rw [e]; simp
      · obtain ⟨ys, e⟩ := sI.there a h
        rw [e]; simp
    -- what is asked
    have eD3 := k3.lst (by simp) eD2
    refine st_set (lc_use ?_)
    refine ⟨.ref aD, rfl, aD, rfl, ⟨_, SqL.of eD3⟩, ?_⟩
    refine lc_sep (itl_at (B := []) eD3 (by simp)) (by rw [ly]; unfold sizeLine; omega) (fun i => some (askG (dss.getD i []))) (fun i H4 hi k4 Z Z0 hZ hZ0 => ?_) fun aA asA H4 k4 sA nA => ?_
    · have hi' : i < dss.length := by omega
      obtain ⟨hws, hk⟩ := dHm hi'
      obtain ⟨a, ea, eaa⟩ := row_turn (tD2.up (k3.trans k4)) hi'
      obtain ⟨f1, f2, f3⟩ := form_dish (W.fm _ hws) hk
      rw [ea]
      exact ⟨rfl, st_yes ⟨.ref a, rfl, a, _, 1, _, rfl, rfl, SqL.of eaa, strs_ix (xs := dss.getD i []) (i := 1) f1, _, _, rfl, f2, hZ _ _ [] H4 rfl (Kx.refl _) (optV_sep _) (New.nil _)⟩⟩
    rw [ly, range_fm (fun ws => some (askG ws)) dss [], fm_some] at sA
    have k04 := k03.trans k4
    have n14 := n13.append nA k03 ne3
    have sS4 := sS3.up k4
    have sI4 := sI.up k4
    have ne4 : ∀ a ∈ ((aS :: asS) ++ (aI :: asI)) ++ (aA :: asA), H4 a ≠ none := fun a ha => by
      rcases List.mem_append.mp ha with h | h
      · exact Kx.ne k4 (ne3 a h)
      · obtain ⟨ys, e⟩ := sA.there a h
        rw [e]; simp
    -- the blocks
    have eR4 := k04.lst (by simp) eR
    refine st_ret (st_tup ⟨_, rfl, _, rfl, _, rfl, _, rfl, st_cons (lc_use ?_)⟩)
    refine ⟨.ref R, rfl, R, rfl, ⟨_, SqL.of eR4⟩, ?_⟩
    refine lc_sep (itl_at (B := []) eR4 (by simp)) (by rw [lx]; unfold sizeLine; omega) (fun i => blockG (wss.getD i [])) (fun i H5 hi k5 Z Z0 hZ hZ0 => ?_) fun aB asB H5 k5 sB nB => ?_
    · have hi' : i < wss.length := by omega
      obtain ⟨a, ea, eaa, ek⟩ := row (k04.trans k5) hi'
      rw [ea]
      refine ⟨rfl, .ref a, rfl, a, _, 0, _, rfl, rfl, SqL.of eaa, ek, rfl, _, rfl, ?_⟩
      rw [eqS]
      cases c : decide ((wss.getD i []).getD 0 "" = ("block" : Str)) with
      | false => exact iteF (hZ0 (by unfold blockG isK; rw [c]; rfl) H5 (Kx.refl _))
      | true =>
        have fb := form_block (W.fm _ (hm hi')) (of_decide_eq_true c)
        exact iteT ⟨.ref a, rfl, a, _, rfl, eaa, fb, fun T H6 k6 s6 => hZ _ _ [] H6 (by unfold blockG isK; rw [c, if_pos rfl]) k6 s6 (New.nil _)⟩
    rw [lx, range_fm blockG wss []] at sB
    refine ⟨len_ok, fun T hT => ?_⟩
    have k6 : Kx [] H5 (upd H5 T (.tup [.int (numOf x0), .ref aS, .ref aI, .ref aA, .ref aB])) := Kx.new hT
    have n15 := n14.append nB k04 ne4
    refine q T (((aS :: asS) ++ (aI :: asI)) ++ (aA :: asA) ++ (aB :: asB)) _ (k04.trans (k5.trans k6)) (.tup upd_same ?_) n15
    have k56 := k5.trans k6
    have r := SepAll.cons (as := []) (.int (numOf x0)) (.cons (sS4.up k56) (.cons (sI4.up k56) (.cons (sA.up k56) (.cons (sB.up k6) .nil))))
    rw [List.append_nil, List.nil_append] at r
    simp only [List.append_assoc] at r ⊢
    exact r
end
end Law

set_option Elab.async false
set_option linter.all false
set_option maxRecDepth 100000
set_option maxHeartbeats 1000000
namespace Law
open PySem PySem.Spec PyProof.Rows L2 GxR GX Tree Kit Data Loops Loops2 Comps Purse Day SetG SetL Loops3 Obj Enum Wipe Txts Lit Ib Sep Raised
def wssOf (x : Str) : List (List Str) := (Txt.split x "\n").map fun r => Txt.split r " "
theorem kit_str {K : PySem.W.Frag} : PySem.W.kitOne K (.type "str") (.type "str") = some true := kit_ty (by decide +kernel)
def fWords : PyData → PyData
  | .str r => wordsT (Txt.split r " ")
  | d => d
/-! ### a text that cannot stand: where -/
/-- a number by the law: -1 where the word is none -/
def numL (x : Str) : Int := if figB x = true then numOf x else -1
theorem numOf_pos {x : Str} (h : figB x = true) : 0 ≤ numOf x := by
  obtain ⟨h1, h2⟩ := figB_reads h
  unfold figB at h
  simp only [Bool.and_eq_true, decide_eq_true_eq] at h
  obtain ⟨⟨g1, g2⟩, h3, -⟩ := h
  have hd : PySem.NumText.AllDigits x.cps.toList := fun c hc => by
    have := List.all_eq_true.mp h3 c hc
    rw [figs_tl] at this
    have := of_decide_eq_true this
    simp only [List.mem_cons, List.not_mem_nil, or_false] at this
    omega
  have hne : x.cps.toList ≠ [] := fun e => by
    have : x.length = 0 := by rw [TL.len_tl]; show x.cps.toList.length = 0; rw [e]; rfl
    omega
  have := PySem.intText_digits hd hne (by omega)
  unfold numOf
  rw [this]
  exact Int.natCast_nonneg _
theorem numL_ok (x : Str) : decide (0 ≤ numL x) = figB x ∧ decide (numL x = -1) = !figB x := by
  unfold numL
  cases h : figB x with
  | true =>
    have := numOf_pos h
    rw [if_pos rfl]
    exact ⟨decide_eq_true this, decide_eq_false (by omega)⟩
  | false =>
    rw [if_neg (by decide)]
    exact ⟨by decide, by decide⟩
theorem kix_zero {k : Str} (h : k ∈ KS) : (kix k = 0) ↔ k = ("hours" : Str) := by
  unfold KS at h
  simp only [List.mem_cons, List.not_mem_nil, or_false] at h
  rcases h with rfl | rfl | rfl | rfl <;> decide +kernel
/-- the kind by the law; 9 where the row is none -/
def kindL (wss : List (List Str)) (i : Nat) : Int := if formB (wss.getD i []) = true then (kix (kindAt wss i) : Int) else 9
def badL (wss : List (List Str)) (i : Nat) : Bool := !formB (wss.getD i []) || (decide (kindL wss i < (if i = 0 then -1 else kindL wss (i - 1))) || (decide (kindL wss i = 0) != decide (i = 0)))
def badP (wss : List (List Str)) (i : Nat) : Bool := !formB (wss.getD i []) || !placeB wss i
theorem bad_eq {wss : List (List Str)} {i : Nat} (h : ∀ j, j < i → formB (wss.getD j []) = true) : badL wss i = badP wss i := by
  unfold badL badP
  cases f : formB (wss.getD i []) with
  | false => rfl
  | true =>
    have kf := form_kind f
    have e1 : kindL wss i = (kix (kindAt wss i) : Int) := if_pos f
    have z := kix_zero kf
    rw [e1, Bool.not_true, Bool.false_or, Bool.false_or]
    unfold placeB
    by_cases h0 : i = 0
    · subst h0
      have e0 : kindAt wss 0 = (wss.getD 0 []).getD 0 "" := rfl
      rw [if_pos rfl, if_pos rfl, decide_eq_true rfl, decide_eq_false (by omega), Bool.false_or, e0]
      by_cases c : (wss.getD 0 []).getD 0 "" = ("hours" : Str)
      · rw [decide_eq_true (by have := z.mpr c; omega), decide_eq_true c]; rfl
      · rw [decide_eq_false (fun y => c (z.mp (by omega))), decide_eq_false c]; rfl
    · have e2 : kindL wss (i - 1) = (kix (kindAt wss (i - 1)) : Int) := if_pos (h (i - 1) (by omega))
      have ei : kindAt wss i = (wss.getD i []).getD 0 "" := rfl
      rw [if_neg h0, if_neg h0, decide_eq_false h0, e2]
      by_cases c : (wss.getD i []).getD 0 "" = ("hours" : Str)
      · have := z.mpr c
        rw [ei, decide_eq_true c, decide_eq_true (show ((kix ((wss.getD i []).getD 0 "") : Nat) : Int) = 0 by omega)]
        simp
      · have nz : ¬ ((kix ((wss.getD i []).getD 0 "") : Nat) : Int) = 0 := fun y => c (z.mp (by omega))
        rw [ei, decide_eq_false c, decide_eq_false nz]
        simp only [bne_self_eq_false, Bool.or_false, Bool.not_false, Bool.true_and]
        by_cases l : ((kix ((wss.getD i []).getD 0 "") : Nat) : Int) < (kix (kindAt wss (i - 1)) : Int)
        · rw [decide_eq_true l, decide_eq_false (by omega)]; rfl
        · rw [decide_eq_false l, decide_eq_true (by omega)]; rfl
/-- the first row that cannot stand -/
def firstBad (bad : List (List Str) → Nat → Bool) (wss : List (List Str)) : Option Nat := (List.range wss.length).find? (bad wss)
theorem first_eq (wss : List (List Str)) : firstBad badL wss = firstBad badP wss := by
  have key : ∀ n, n ≤ wss.length → ((List.range n).find? (badP wss) = none → ∀ j, j < n → formB (wss.getD j []) = true) ∧ (List.range n).find? (badL wss) = (List.range n).find? (badP wss) := by
    intro n
    induction n with
    | zero => intro _; exact ⟨fun _ j hj => absurd hj (Nat.not_lt_zero j), rfl⟩
    | succ n ih =>
      intro hn
      obtain ⟨i1, i2⟩ := ih (by omega)
      rw [List.range_succ, List.find?_append, List.find?_append, i2]
      cases c : (List.range n).find? (badP wss) with
      | some k => exact ⟨fun z => (nomatch z), rfl⟩
      | none =>
        have hf := i1 c
        have e := bad_eq hf
        refine ⟨fun z j hj => ?_, by simp only [List.find?_cons, List.find?_nil, Option.none_or, e]⟩
        by_cases y : j < n
        · exact hf j y
        · obtain rfl : j = n := by omega
          have z : badP wss j = false := by
            cases b : badP wss j with
            | false => rfl
            | true => simp [b] at z
          unfold badP at z
          simp only [Bool.or_eq_false_iff, Bool.not_eq_false'] at z
          exact z.1
  exact (key wss.length (Nat.le_refl _)).2
theorem first_at {bad : List (List Str) → Nat → Bool} {wss : List (List Str)} {i : Nat} (hi : i < wss.length) (hb : ∀ j, j < i → bad wss j = false) (h : bad wss i = true) : firstBad bad wss = some i := by
  unfold firstBad
  have e : List.range wss.length = List.range i ++ (i :: (List.range (wss.length - i - 1)).map (i + 1 + ·)) := by
    rw [show wss.length = i + (1 + (wss.length - i - 1)) by omega, List.range_add, show i + (1 + (wss.length - i - 1)) - i - 1 = wss.length - i - 1 by omega, Nat.add_comm 1, List.range_succ_eq_map]
    simp only [List.map_cons, List.map_map, Nat.add_zero]
    congr 2
    refine List.map_congr_left fun k _ => ?_
    show i + (k + 1) = i + 1 + k
    omega
  rw [e, List.find?_append, List.find?_eq_none.mpr (fun j hj => by rw [hb j (List.mem_range.mp hj)]; decide), Option.none_or, List.find?_cons, h]
theorem first_none {bad : List (List Str) → Nat → Bool} {wss : List (List Str)} (hb : ∀ j, j < wss.length → bad wss j = false) : firstBad bad wss = none := by
  unfold firstBad
  exact List.find?_eq_none.mpr fun j hj => by rw [hb j (List.mem_range.mp hj)]; decide
/-- where a text cannot stand -/
def stopAt (x : Str) : Option Nat := match firstBad badP (wssOf x) with
  | some i => some i
  | none => if isDayB (dataOf (wssOf x)) = true then none else some (wssOf x).length
section
variable {P : Program} {w : World} {K : PySem.W.Frag} {mg : Str → Option Value} {base : Heap} {fa : String → Addr} {fd : String → FuncData} {ca ta : String → Addr} {cs : String → Addr} {fm : String → String → Addr} {fdm : String → String → FuncData}
/-! ### a refusal that tells where -/
def sp_NoText___init__ (C : Addr) : Sp := fun vs H Q _ => ∃ (a : Addr) (y : V), vs = [.ref a, y] ∧ H a = some (exo a C none) ∧
  ∀ dx, H dx = none → dx ≠ a → Q .non (upd (upd H dx (exd dx [("at", y)])) a (exo a C (some dx)))
theorem ok_NoText___init__ (Y : Facts K mg base fa fd ca ta) (Z : CFacts K mg cs fm fdm) : FnOk P w K mg base CX0 1 (fm "NoText" "__init__") (fdm "NoText" "__init__") ["self", "at"] (sp_NoText___init__ (cs "NoText")) := by
  refine Z.d_NoText___init__.ok sc_NoText___init__ (fun vs H Q E h => ?_) (fun cdv A outer s H vs Q E hcd hr h => ?_)
  · obtain ⟨a, y, rfl, _⟩ := h; rfl
  · obtain ⟨a, y, rfl, ea, q⟩ := h
    refine ⟨_, (pss_one (ps_ost (pv 0) (pv 1))), ?_⟩
    exact ⟨y, rfl, .ref a, rfl, a, cs "NoText", rfl, Z.ox_NoText.ox, Z.na_NoText_at, .inl ⟨ea, fun dx n ne => q dx n ne⟩⟩
theorem raise_no {C : Addr} {y : V} {H : Hp} {E : XK} (h : ∀ (d : Addr) (H' : Hp), Kx [] H H' → H d = none → H' d = some (.xd [("at", y)]) → E (.ref C) (some d) H') :
    ([y] : List V).length ≤ 1000 ∧ ∀ a, H a = none → sp_NoText___init__ C (.ref a :: ([y] ++ [])) (upd H a (exo a C none))
      (fun v H2 => v = .non ∧ ∃ (d : Addr) (fs : List (Str × V)), H2 a = some (exo a C (some d)) ∧ H2 d = some (exd d fs) ∧ H d = none ∧ E (.ref C) (some d) (upd (del H2 a) d (.xd fs))) (fun _ _ _ => False) := by
  refine ⟨by simp, fun a ha => ⟨a, y, rfl, upd_same, fun dx n ne => ⟨rfl, dx, [("at", y)], upd_same, by rw [upd_ne ne, upd_same], by rw [upd_ne ne] at n; exact n, ?_⟩⟩⟩
  rw [upd_ne ne] at n
  refine h dx _ (fun b o _ hb => .inl ?_) n upd_same
  have n1 : b ≠ dx := fun z => by rw [z, n] at hb; cases hb
  have n2 : b ≠ a := fun z => by rw [z, ha] at hb; cases hb
  rw [upd_ne n1, del_ne n2, upd_ne n2, upd_ne n1, upd_ne n2]
  exact hb
/-- it refuses by this, or hands out that -/
def sp_read_day (K : PySem.W.Frag) (cs : String → Addr) (ta : String → Addr) : Sp := fun vs H Q E => (∃ (v : V) (T : String), vs = [v] ∧ TyX K H v (.type T) ∧ PySem.W.kitOne K (.type T) (.type "str") = some false ∧
    ∀ (d : Addr) (H' : Hp), Kx [] H H' → H d = none → H' d = some (.xd [("at", .non)]) → E (.ref (cs "NoText")) (some d) H') ∨ ∃ x : Str, vs = [.str x] ∧ x.length ≤ 9000 ∧ (firstBad badP (wssOf x) = none → sz (dataOf (wssOf x)) ≤ 100000) ∧ Tb (Ts ta) H ∧
  (stopAt x = none → ∀ (T : Addr) (as : List Addr) (H' : Hp), Kx [] H H' → SepT H' (.ref T) (dataOf (wssOf x)) as → New H as → Q (.ref T) H') ∧
  ∀ i : Nat, stopAt x = some i → ∀ (d : Addr) (H' : Hp), Kx [] H H' → H d = none → H' d = some (.xd [("at", .int i)]) → E (.ref (cs "NoText")) (some d) H'
theorem ok_read_day (Y : Facts K mg base fa fd ca ta) (Z : CFacts K mg cs fm fdm) : FnOk P w K mg base (L2.CX P w) 10 (fa "read_day") (fd "read_day") ["text"] (sp_read_day K cs ta) := by
  refine Y.d_read_day.okX sc_read_day (fun vs H Q E h => ?_) (fun cdv A outer s H vs Q E hcd hr h => ?_)
  · rcases h with ⟨v, T, rfl, _⟩ | ⟨x, rfl, _⟩ <;> rfl
  · rcases h with ⟨v, T, rfl, hty, hk, qx⟩ | ⟨x, rfl, hl, hz, hT, q, qx⟩
    · refine ⟨_, (pss_cons (ps_if (pt_not (pt_val (pe_callB (call_isiK' K rfl) (by rfl) Y.b.isinstance (by decide +kernel) (pa_cons (pv 0) (pa_cons (pe_bltn (v := .ty "str") (by rfl) Y.b.str (by decide +kernel) rfl) pa_nil))))) (pss_one (ps_raise rfl (takes_of rfl rfl rfl rfl) (pmk_oex Z.ox_NoText.ox Z.ox_NoText.ini Z.ox_NoText.ti (ok_NoText___init__ Y Z) (hr.mono (by decide)) Z.d_NoText___init__.b .nil pass0 (by rfl) Z.g_NoText (pa_cons pe_non pa_nil)))) pss_nil)
      (pss_cons (ps_setLc (i := 1) (own := [("row", 4)]) (g := gName 4) (tt := tYes) rfl sc_read_day.nd rfl rfl (sw_true rfl rfl rfl (by decide +kernel)) (pi_listK K rfl (pe_split (pv 0) pe_str)) (blkOk_by (N := ["text", "rows", "at", "day", "row"]) (sc := defScope s_read_day) (by decide +kernel)) (fun _ _ _ _ _ => (pg_name (i := 4) sc_read_day.nd rfl (by first | exact Or.inl rfl | exact Or.inr rfl))) (fun _ _ _ _ _ => pts_nil) (fun _ _ _ _ _ => (pe_split (pv 4) pe_str)))
      (pss_cons (ps_for (passes_of rfl) rfl (pi_range1 (by rfl) Y.b.range (pa_cons (pe_callB (call_lenK K rfl) (by rfl) Y.b.len (by decide +kernel) (pa_cons (pv 1) pa_nil)) pa_nil)) (pg_name (i := 2) sc_read_day.nd rfl (by first | exact Or.inl rfl | exact Or.inr rfl)) (pss_one (ps_if ((pw_or (pt_not (pt_val (pe_call (ok__has_form Y) (hr.mono (by decide)) (by rfl) Y.d__has_form.g Y.d__has_form.kp Y.d__has_form.b .nil pass0 (pa_cons (pe_ix (ix_listK K rfl) (pv 1) (pv 2) (fun _ _ => rfl)) pa_nil)))) (pw_or1 (pt_not (pt_val (pe_call (ok__is_at_its_place Y) (hr.mono (by decide)) (by rfl) Y.d__is_at_its_place.g Y.d__is_at_its_place.kp Y.d__is_at_its_place.b .nil pass0 (pa_cons (pv 1) (pa_cons (pv 2) pa_nil)))))))).pt (pss_one (ps_raise rfl (takes_of rfl rfl rfl rfl) (pmk_oex Z.ox_NoText.ox Z.ox_NoText.ini Z.ox_NoText.ti (ok_NoText___init__ Y Z) (hr.mono (by decide)) Z.d_NoText___init__.b .nil pass0 (by rfl) Z.g_NoText (pa_cons (pv 2) pa_nil)))) pss_nil)))
      (pss_cons (ps_set (i := 3) sc_read_day.nd rfl (by first | exact Or.inl rfl | exact Or.inr rfl) (pe_call (ok__day_of Y) (hr.mono (by decide)) (by rfl) Y.d__day_of.g Y.d__day_of.kp Y.d__day_of.b .nil pass0 (pa_cons (pv 1) pa_nil)))
      (pss_cons (ps_if (pt_not (pt_val (pe_call (ok_is_day Y) (hr.mono (by decide)) (by rfl) Y.d_is_day.g Y.d_is_day.kp Y.d_is_day.b .nil pass0 (pa_cons (pv 3) pa_nil)))) (pss_one (ps_raise rfl (takes_of rfl rfl rfl rfl) (pmk_oex Z.ox_NoText.ox Z.ox_NoText.ini Z.ox_NoText.ti (ok_NoText___init__ Y Z) (hr.mono (by decide)) Z.d_NoText___init__.b .nil pass0 (by rfl) Z.g_NoText (pa_cons (pe_callB (call_lenK K rfl) (by rfl) Y.b.len (by decide +kernel) (pa_cons (pv 1) pa_nil)) pa_nil)))) pss_nil)
      (PSs.nox (pss_one (ps_ret (pv 3))))))))), ?_⟩
      refine st_seq (st_ifs ⟨v, rfl, v, .ty "str", _, _, _, rfl, .ty _, hty, hk, _, rfl, iteT ?_⟩)
      exact raise_no fun d H' k n e => qx d H' k n e
    refine ⟨_, (pss_cons (ps_if (pt_not (pt_val (pe_callB (call_isiK' K rfl) (by rfl) Y.b.isinstance (by decide +kernel) (pa_cons (pv 0) (pa_cons (pe_bltn (v := .ty "str") (by rfl) Y.b.str (by decide +kernel) rfl) pa_nil))))) (pss_one (ps_raise rfl (takes_of rfl rfl rfl rfl) (pmk_oex Z.ox_NoText.ox Z.ox_NoText.ini Z.ox_NoText.ti (ok_NoText___init__ Y Z) (hr.mono (by decide)) Z.d_NoText___init__.b .nil pass0 (by rfl) Z.g_NoText (pa_cons pe_non pa_nil)))) pss_nil)
      (pss_cons (ps_setLc (i := 1) (own := [("row", 4)]) (g := gName 4) (tt := tYes) rfl sc_read_day.nd rfl rfl (sw_true rfl rfl rfl (by decide +kernel)) (pi_listK K rfl (pe_split (pv 0) pe_str)) (blkOk_by (N := ["text", "rows", "at", "day", "row"]) (sc := defScope s_read_day) (by decide +kernel)) (fun _ _ _ _ _ => (pg_name (i := 4) sc_read_day.nd rfl (by first | exact Or.inl rfl | exact Or.inr rfl))) (fun _ _ _ _ _ => pts_nil) (fun _ _ _ _ _ => (pe_split (pv 4) pe_str)))
      (pss_cons (ps_for (passes_of rfl) rfl (pi_range1 (by rfl) Y.b.range (pa_cons (pe_callB (call_lenK K rfl) (by rfl) Y.b.len (by decide +kernel) (pa_cons (pv 1) pa_nil)) pa_nil)) (pg_name (i := 2) sc_read_day.nd rfl (by first | exact Or.inl rfl | exact Or.inr rfl)) (pss_one (ps_if ((pw_or (pt_not (pt_val (pe_call (ok__has_form Y) (hr.mono (by decide)) (by rfl) Y.d__has_form.g Y.d__has_form.kp Y.d__has_form.b .nil pass0 (pa_cons (pe_ix (ix_listK K rfl) (pv 1) (pv 2) (fun _ _ => rfl)) pa_nil)))) (pw_or1 (pt_not (pt_val (pe_call (ok__is_at_its_place Y) (hr.mono (by decide)) (by rfl) Y.d__is_at_its_place.g Y.d__is_at_its_place.kp Y.d__is_at_its_place.b .nil pass0 (pa_cons (pv 1) (pa_cons (pv 2) pa_nil)))))))).pt (pss_one (ps_raise rfl (takes_of rfl rfl rfl rfl) (pmk_oex Z.ox_NoText.ox Z.ox_NoText.ini Z.ox_NoText.ti (ok_NoText___init__ Y Z) (hr.mono (by decide)) Z.d_NoText___init__.b .nil pass0 (by rfl) Z.g_NoText (pa_cons (pv 2) pa_nil)))) pss_nil)))
      (pss_cons (ps_set (i := 3) sc_read_day.nd rfl (by first | exact Or.inl rfl | exact Or.inr rfl) (pe_call (ok__day_of Y) (hr.mono (by decide)) (by rfl) Y.d__day_of.g Y.d__day_of.kp Y.d__day_of.b .nil pass0 (pa_cons (pv 1) pa_nil)))
      (pss_cons (ps_if (pt_not (pt_val (pe_call (ok_is_day Y) (hr.mono (by decide)) (by rfl) Y.d_is_day.g Y.d_is_day.kp Y.d_is_day.b .nil pass0 (pa_cons (pv 3) pa_nil)))) (pss_one (ps_raise rfl (takes_of rfl rfl rfl rfl) (pmk_oex Z.ox_NoText.ox Z.ox_NoText.ini Z.ox_NoText.ti (ok_NoText___init__ Y Z) (hr.mono (by decide)) Z.d_NoText___init__.b .nil pass0 (by rfl) Z.g_NoText (pa_cons (pe_callB (call_lenK K rfl) (by rfl) Y.b.len (by decide +kernel) (pa_cons (pv 1) pa_nil)) pa_nil)))) pss_nil)
      (PSs.nox (pss_one (ps_ret (pv 3))))))))), ?_⟩
    refine st_seq (st_ifs ⟨_, rfl, .str x, .ty "str", _, _, _, rfl, .ty _, (Tr.str (B := []) (H := H) x).ty, kit_str, _, rfl, iteF (st_next ?_)⟩)
    dsimp only
    -- the rows
    refine st_set (lc_use (st_ilist ⟨_, rfl, ⟨_, rfl⟩, x, "\n", rfl, rfl, by decide +kernel, by unfold sizeLine; omega, fun p hp => ?_⟩))
    have k1 : Kx [] H (upd H p (.lst ((Txt.split x "\n").map V.str))) := Kx.new hp
    have e1 : upd H p (.lst ((Txt.split x "\n").map V.str)) p = some (.lst ((Txt.split x "\n").map V.str)) := upd_same
    generalize upd H p (.lst ((Txt.split x "\n").map V.str)) = H1 at k1 e1 ⊢
    have rl := split_len x "\n"
    have rc := split_count x "\n" (by decide +kernel)
    have ew : wssOf x = (Txt.split x "\n").map fun r => Txt.split r " " := rfl
    have wsl : ∀ ws ∈ wssOf x, 0 < ws.length ∧ (∀ y ∈ ws, y.length + 2 ≤ sizeLine) ∧ (ws.drop 2).length < sizeLine := fun ws hws => by
      obtain ⟨r, hr', rfl⟩ := List.mem_map.mp hws
      have l1 := rl r hr'
      have l2 := split_count r " " (by decide +kernel)
      refine ⟨split_pos r " ", fun y hy => ?_, by rw [List.length_drop]; unfold sizeLine; omega⟩
      have := split_len r " " y hy
      unfold sizeLine
      omega
    have wne : 0 < (wssOf x).length := by rw [ew, List.length_map]; exact split_pos x "\n"
    have few : (wssOf x).length < 10000 := by rw [ew, List.length_map]; omega
    generalize Txt.split x "\n" = rows at e1 rl ew rc
    have lr : rows.length = (wssOf x).length := by rw [ew, List.length_map]
    refine ⟨p, rfl, ⟨_, SqL.of e1⟩, ?_⟩
    have al0 : ∀ {H : Hp}, ∀ c ∈ ([] : List Addr), H c ≠ none := fun c hc => nomatch hc
    refine lc_mapC (C := []) fWords al0 e1 (strs_tr rows) (by rw [List.length_map]; unfold sizeLine; omega) (fun D1 v d H2 hD1 al2 hd2 tv k2 Z0 hZ => ?_) fun R H2 k2 hR t2 => ?_
    · obtain ⟨r, hr', rfl⟩ := List.mem_map.mp hd2
      cases tv
      have := rl r hr'
      refine ⟨rfl, _, rfl, ⟨_, rfl⟩, r, " ", rfl, rfl, by decide +kernel, by unfold sizeLine; omega, fun p2 hp2 => ?_⟩
      exact hZ _ _ (Kx.new hp2) (.lst (fun z => al2 _ z hp2) upd_same ((strs_tr _).up (Kx.new hp2)))
    rw [List.map_map, show (rows.map (fWords ∘ PyData.str)) = (wssOf x).map wordsT by rw [ew, List.map_map]; rfl] at t2
    have k02 := k1.trans k2
    obtain ⟨xs, eR, tx⟩ := t2.items
    have lx := tx.length
    rw [List.length_map] at lx
    have hs : ∀ i, firstBad badP (wssOf x) = some i → stopAt x = some i := fun i e => by unfold stopAt; rw [e]
    have hs2 : firstBad badP (wssOf x) = none → stopAt x = if isDayB (dataOf (wssOf x)) = true then none else some (wssOf x).length := fun e => by unfold stopAt; rw [e]
    generalize stopAt x = stop at q qx hs hs2
    generalize wssOf x = wss at q hz few lr t2 tx lx wne wsl hs hs2 ⊢
    clear ew
    have hm : ∀ {i : Nat}, i < wss.length → wss.getD i [] ∈ wss := fun {i} hi => by rw [getD_at wss _ hi]; exact List.getElem_mem hi
    refine st_seq (st_for ⟨.ref R, rfl, R, xs, rfl, .inl (SqL.of eR), (wss.length : Int), by rw [lx], by omega, by omega, ?_⟩)
    rw [Int.toNat_natCast]
    refine for_gen (itr_at wss.length) (B := []) (Iv := fun i σ' H' => (∃ z2 z3, σ' = [some (.str x), some (.ref R), z2, z3, none]) ∧ ∀ j, j < i → badP wss j = false) ⟨⟨_, _, rfl⟩, fun j hj => absurd hj (Nat.not_lt_zero j)⟩ (fun i σ' H3 hi k3 ⟨⟨z2, z3, e⟩, hb⟩ Nn hN => ?_) fun σ' H3 k3 ⟨⟨z2, z3, e⟩, hb⟩ => ?_
    · subst e
      refine st_name ?_
      dsimp only
      have k03 := k02.trans k3
      obtain ⟨w1, w2, w3⟩ := wsl _ (hm hi)
      have stop_here : badP wss i = true → stop = some i := fun b => hs i (first_at hi hb b)
      obtain ⟨xs', a, f1, f2, f3⟩ := row_ix' (t2.up k3) hi
      refine st_ifs ⟨.ref R, rfl, .int i, rfl, R, xs', i, .ref a, rfl, rfl, SqL.of f1, f2, a, wss.getD i [], rfl, f3, w1, w2, hT.kx k03, fun H4 k4 => ⟨_, rfl, ?_⟩⟩
      cases c1 : formB (wss.getD i []) with
      | false =>
        refine iteT ⟨.int i, rfl, raise_no fun d H' k n e => ?_⟩
        have hb1 : badP wss i = true := by unfold badP; rw [c1]; rfl
        exact qx i (stop_here hb1) d H' (k03.trans (k4.trans k)) ((k03.trans k4).free (by simp) n) e
      | true =>
      have fmb : ∀ j, j < i → formB (wss.getD j []) = true := fun j hj => by
        have := hb j hj
        unfold badP at this
        simp only [Bool.or_eq_false_iff, Bool.not_eq_false'] at this
        exact this.1
      refine iteF ⟨.ref R, rfl, .int i, rfl, R, wss, i, rfl, t2.up (k3.trans k4), hi, (fun ws h => (wsl ws h).1), form_kind c1, (fun h0 => form_kind (fmb _ (by omega))), _, rfl, ?_⟩
      cases c2 : placeB wss i with
      | false =>
        refine iteT ⟨.int i, rfl, raise_no fun d H' k n e => ?_⟩
        have hb1 : badP wss i = true := by unfold badP; rw [c1, c2]; rfl
        exact qx i (stop_here hb1) d H' (k03.trans (k4.trans k)) ((k03.trans k4).free (by simp) n) e
      | true =>
        refine iteF (hN _ _ (k3.trans k4) ⟨⟨_, _, rfl⟩, fun j hj => ?_⟩)
        by_cases z : j < i
        · exact hb j z
        · obtain rfl : j = i := by omega
          unfold badP
          rw [c1, c2]
          rfl
    subst e
    dsimp only
    have none_ : firstBad badP wss = none := first_none hb
    have hs2 := hs2 none_
    have hz := hz none_
    have fmb : ∀ j, j < wss.length → formB (wss.getD j []) = true ∧ placeB wss j = true := fun j hj => by
      have := hb j hj
      unfold badP at this
      simp only [Bool.or_eq_false_iff, Bool.not_eq_false'] at this
      exact this
    have W : RowsOk wss := ⟨wne, few, fun ws h => (wsl ws h).1, fun ws h => by
      obtain ⟨j, hj, rfl⟩ := List.getElem_of_mem h
      have := (fmb j hj).1
      rwa [getD_at wss _ hj] at this, fun ws h => (wsl ws h).2.1, fun ws h => (wsl ws h).2.2, by
      have := (fmb 0 wne).2
      unfold placeB at this
      rw [if_pos rfl] at this
      exact of_decide_eq_true this⟩
    have k03 := k02.trans k3
    refine st_set ⟨.ref R, rfl, R, wss, rfl, t2.up k3, W, fun T as H4 k4 s4 n4 => ?_⟩
    have k04 := k03.trans k4
    refine st_seq (st_ifs ⟨.ref T, rfl, .ref T, _, rfl, s4.tr, hz, hT.kx k04, fun H5 k5 => ⟨_, rfl, ?_⟩⟩)
    cases c : isDayB (dataOf wss) with
    | true =>
      rw [c, if_pos rfl] at hs2
      refine iteF (st_next ?_)
      dsimp only
      exact ⟨.ref T, rfl, q hs2 T as H5 (k04.trans k5) (s4.up k5) (n4.back k03)⟩
    | false =>
      rw [c, if_neg (by decide)] at hs2
      refine iteT ⟨.ref R, rfl, R, xs, rfl, .inl (SqL.of ((k3.trans (k4.trans k5)).lst (by simp) eR)), raise_no fun d H' k n e => ?_⟩
      rw [lx] at e
      exact qx _ hs2 d H' (k04.trans (k5.trans k)) ((k04.trans k5).free (by simp) n) e
end
end Law

set_option Elab.async false
set_option linter.all false
set_option maxRecDepth 100000
set_option maxHeartbeats 4000000
namespace Law
open PySem PySem.Spec PyProof.Rows L2 GxR GX Tree Kit Data Loops Loops2 Comps Purse Day SetG SetL Loops3 Obj Enum Wipe Txts Lit Ib Sep
/-! ### what is written is read back -/
theorem tail_mem {s : Str} {c : Nat} : ∀ {r : List Str}, c ∈ TL.tl (tailJ s r) → c ∈ TL.tl s ∨ ∃ p ∈ r, c ∈ TL.tl p
  | [], h => by cases h
  | a :: r, h => by
    have h : c ∈ TL.tl (s ++ a ++ tailJ s r) := h
    rw [tl_append, tl_append] at h
    rcases List.mem_append.mp h with h | h
    · rcases List.mem_append.mp h with h | h
      · exact .inl h
      · exact .inr ⟨a, by simp, h⟩
    · rcases tail_mem h with h | ⟨p, hp, h⟩
      · exact .inl h
      · exact .inr ⟨p, by simp [hp], h⟩
theorem join_mem {s : Str} {c : Nat} {r : List Str} (h : c ∈ TL.tl (Txt.join s r)) : c ∈ TL.tl s ∨ ∃ p ∈ r, c ∈ TL.tl p := by
  cases r with
  | nil => rw [TL.join_eq] at h; cases h
  | cons a r =>
    rw [join_tail, tl_append] at h
    rcases List.mem_append.mp h with h | h
    · exact .inr ⟨a, by simp, h⟩
    · rcases tail_mem h with h | ⟨p, hp, h⟩
      · exact .inl h
      · exact .inr ⟨p, by simp [hp], h⟩
theorem lit_tl : TL.tl ("hours" : Str) = [104, 111, 117, 114, 115] ∧ TL.tl ("store" : Str) = [115, 116, 111, 114, 101] ∧ TL.tl ("dish" : Str) = [100, 105, 115, 104] ∧ TL.tl ("block" : Str) = [98, 108, 111, 99, 107] ∧ TL.tl ("own" : Str) = [111, 119, 110] ∧ TL.tl ("-" : Str) = [45] ∧ TL.tl ("," : Str) = [44] ∧ TL.tl (" " : Str) = [32] ∧ TL.tl ("\n" : Str) = [10] := by decide +kernel
/-- signs of words -/
def Cl (x : Str) : Prop := 32 ∉ TL.tl x ∧ 10 ∉ TL.tl x
theorem cl_nT {i : Int} (h : 0 ≤ i) : Cl (nT i) := ⟨nT_free h (by decide), nT_free h (by decide)⟩
theorem cl_hours : Cl "hours" := by unfold Cl; rw [lit_tl.1]; decide
theorem cl_store : Cl "store" := by unfold Cl; rw [lit_tl.2.1]; decide
theorem cl_dish : Cl "dish" := by unfold Cl; rw [lit_tl.2.2.1]; decide
theorem cl_block : Cl "block" := by unfold Cl; rw [lit_tl.2.2.2.1]; decide
theorem cl_own : Cl "own" := by unfold Cl; rw [lit_tl.2.2.2.2.1]; decide
theorem cl_none : Cl "-" := by unfold Cl; rw [lit_tl.2.2.2.2.2.1]; decide
theorem cl_opt {o : Option Int} (h : ∀ i, o = some i → 0 ≤ i) : Cl (askW o) ∧ Cl (dueW o) := by
  cases o with
  | none => exact ⟨cl_own, cl_none⟩
  | some i => exact ⟨cl_nT (h i rfl), cl_nT (h i rfl)⟩
theorem cl_heard {c : Nat} {r : List Int} (o : RowOk c r) : Cl (heardW r) := by
  unfold heardW
  split
  · exact cl_none
  · refine ⟨fun h => ?_, fun h => ?_⟩ <;>
    · rcases join_mem h with h | ⟨p, hp, h⟩
      · rw [lit_tl.2.2.2.2.2.2.1] at h; simp at h
      · obtain ⟨i, hi, rfl⟩ := List.mem_map.mp hp
        exact nT_free (o.bd i hi).1 (by decide) h
structure WordsOk (D : Dy) (ws : List Str) : Prop where
  cl : ∀ x ∈ ws, Cl x
  ne : 0 < ws.length
theorem words_cl {D : Dy} (hD : DyOk D) : ∀ ws ∈ wordsOf D, (∀ x ∈ ws, Cl x) ∧ 0 < ws.length ∧ (ws.length ≤ 12) ∧ ∀ x ∈ ws, x.length ≤ 20 := fun ws h => by
  have t0 := hD.t0
  have t1 := hD.t1
  unfold wordsOf at h
  rcases List.mem_cons.mp h with rfl | h
  · refine ⟨fun x hx => ?_, by simp, by simp, fun x hx => ?_⟩ <;>
    · simp only [List.mem_cons, List.not_mem_nil, or_false] at hx
      rcases hx with rfl | rfl
      · first | exact cl_hours | (rw [one_len.2.2.2.2.2.2.2.1]; decide)
      · first | exact cl_nT (by omega) | exact Nat.le_trans (nT_len (i := D.hours) (by omega) (by omega)).2 (by decide)
  rcases List.mem_append.mp h with h | h
  · obtain ⟨s, hs, rfl⟩ := List.mem_map.mp h
    have hb := hD.sb s hs
    refine ⟨fun x hx => ?_, by simp, by simp, fun x hx => ?_⟩ <;>
    · simp only [List.mem_cons, List.not_mem_nil, or_false] at hx
      rcases hx with rfl | rfl
      · first | exact cl_store | (rw [one_len.2.2.2.2.2.2.2.2]; decide)
      · first | exact cl_nT (by omega) | exact Nat.le_trans (nT_len (i := s) (by omega) (by omega)).2 (by decide)
  rcases List.mem_append.mp h with h | h
  · unfold dishesOf at h
    obtain ⟨d, hd, rfl⟩ := List.mem_map.mp h
    have hd := List.mem_range.mp hd
    have sm : D.sights.getD d [] ∈ D.sights := by rw [getD_at _ _ hd]; exact List.getElem_mem hd
    have gl := hD.gl _ sm
    have ha := ask_ok hD d
    refine ⟨fun x hx => ?_, ?_, ?_, dishWs_len (c := D.stores.length) ha (hD.gr _ sm) hD.s1⟩
    · unfold dishWs at hx
      rcases List.mem_cons.mp hx with rfl | hx
      · exact cl_dish
      rcases List.mem_cons.mp hx with rfl | hx
      · exact (cl_opt fun i e => (ha i e).1).1
      · obtain ⟨r, hr, rfl⟩ := List.mem_map.mp hx
        exact cl_heard (hD.gr _ sm r hr)
    · unfold dishWs; simp
    · unfold dishWs; simp only [List.length_cons, List.length_map]; omega
  · obtain ⟨b, hb, rfl⟩ := List.mem_map.mp h
    have o := hD.bb b hb
    have r0 := o.r0
    have r1 := o.r1
    have c0 := o.c0
    have c1 := o.c1
    have h0 := o.h0
    have h1 := o.h1
    have w0 := o.w0
    have w1 := o.w1
    have s1 := hD.s1
    have du := dueW_len o t1
    have cd : Cl (dueW b.due) := (cl_opt fun i e => by have := o.du i e; omega).2
    unfold blockWs
    refine ⟨fun x hx => ?_, by simp, by simp, fun x hx => ?_⟩ <;>
    · simp only [List.mem_cons, List.not_mem_nil, or_false] at hx
      rcases hx with rfl | rfl | rfl | rfl | rfl | rfl
      · first | exact cl_block | (rw [one_len.2.2.2.2.2.2.1]; decide)
      · first | exact cl_nT (by omega) | exact Nat.le_trans (nT_len (i := b.house) (by omega) (by omega)).2 (by decide)
      · first | exact cl_nT (by omega) | exact Nat.le_trans (nT_len (i := b.craft) (by omega) (by omega)).2 (by decide)
      · first | exact cl_nT (by omega) | exact Nat.le_trans (nT_len (i := b.ready) (by omega) (by omega)).2 (by decide)
      · first | exact cd | omega
      · first | exact cl_nT (by omega) | exact Nat.le_trans (nT_len (i := b.worth) (by omega) (by omega)).2 (by decide)
theorem row_split {ws : List Str} (h : ∀ x ∈ ws, Cl x) (ne : 0 < ws.length) : Txt.split (rowOf ws) " " = ws :=
  TL.split_join (s := 32) (S := []) lit_tl.2.2.2.2.2.2.2.1 (by decide +kernel) (fun e => by rw [e] at ne; exact absurd ne (by decide)) fun p hp => (h p hp).1
theorem text_split {D : Dy} (hD : DyOk D) : wssOf (textD D) = wordsOf D := by
  have hs : Txt.split (textD D) "\n" = rowsOf D := TL.split_join (s := 10) (S := []) lit_tl.2.2.2.2.2.2.2.2 (by decide +kernel) (fun e => by unfold rowsOf wordsOf at e; cases e) fun p hp => by
    obtain ⟨ws, hws, rfl⟩ := List.mem_map.mp hp
    intro z
    rcases join_mem z with z | ⟨x, hx, z⟩
    · rw [lit_tl.2.2.2.2.2.2.2.1] at z; simp at z
    · exact ((words_cl hD ws hws).1 x hx).2 z
  unfold wssOf
  rw [hs]
  unfold rowsOf
  rw [List.map_map]
  conv => rhs; rw [← List.map_id (wordsOf D)]
  refine List.map_congr_left fun ws hws => ?_
  obtain ⟨h1, h2, -⟩ := words_cl hD ws hws
  exact row_split h1 h2
theorem numOf_nT {i : Int} (h : 0 ≤ i) (h2 : i ≤ 9999) : numOf (nT i) = i := by
  unfold numOf
  rw [nT_reads h h2]
  rfl
theorem nT_ne {i : Int} (h : 0 ≤ i) {x : Str} {c : Nat} {r : List Nat} (e : TL.tl x = c :: r) (hc : c < 48 ∨ 57 < c) : nT i ≠ x := fun z => by
  have : c ∈ TL.tl (nT i) := by rw [z, e]; simp
  have := nT_digit h this
  omega
theorem heard_back {c : Nat} (hc : c ≤ 4) {r : List Int} (o : RowOk c r) : heardF (heardW r) = true ∧ heardN (heardW r) = r := by
  unfold heardW
  cases r with
  | nil =>
    refine ⟨?_, ?_⟩
    · show (decide (("-" : Str) = "-") || _) = true
      rw [decide_eq_true rfl]; rfl
    · show (if ("-" : Str) = "-" then [] else _) = _
      rw [if_pos rfl]
  | cons a l =>
    rw [if_neg (by simp)]
    have bd : ∀ i ∈ a :: l, 0 ≤ i ∧ i ≤ 9999 := fun i hi => by have := o.bd i hi; omega
    have hs : Txt.split (Txt.join "," ((a :: l).map nT)) "," = (a :: l).map nT := TL.split_join (s := 44) (S := []) lit_tl.2.2.2.2.2.2.1 (by decide +kernel) (fun e => by cases e) fun p hp => by
      obtain ⟨i, hi, rfl⟩ := List.mem_map.mp hp
      exact nT_free (bd i hi).1 (by decide)
    refine ⟨?_, ?_⟩
    · unfold heardF
      rw [hs, Bool.or_eq_true]
      refine .inr (List.all_eq_true.mpr fun p hp => ?_)
      obtain ⟨i, hi, rfl⟩ := List.mem_map.mp hp
      exact figB_num (bd i hi).1 (bd i hi).2
    · have ne : Txt.join "," ((a :: l).map nT) ≠ "-" := fun z => by
        have : 45 ∈ TL.tl (Txt.join "," ((a :: l).map nT)) := by rw [z, lit_tl.2.2.2.2.2.1]; decide
        rcases join_mem this with h | ⟨p, hp, h⟩
        · rw [lit_tl.2.2.2.2.2.2.1] at h; simp at h
        · obtain ⟨i, hi, rfl⟩ := List.mem_map.mp hp
          have := nT_digit (bd i hi).1 h
          omega
      unfold heardN
      rw [if_neg ne, hs, List.map_map]
      conv => rhs; rw [← List.map_id (a :: l)]
      exact List.map_congr_left fun i hi => numOf_nT (bd i hi).1 (bd i hi).2
theorem opt_back {o : Option Int} (h : ∀ i, o = some i → 0 ≤ i ∧ i ≤ 999) : optN (askW o) "own" = o ∧ (askW o = ("own" : Str) ∨ figB (askW o) = true) ∧ optN (dueW o) "-" = o ∧ (dueW o = ("-" : Str) ∨ figB (dueW o) = true) := by
  unfold optN
  cases o with
  | none => exact ⟨if_pos rfl, .inl rfl, if_pos rfl, .inl rfl⟩
  | some i =>
    obtain ⟨h0, h1⟩ := h i rfl
    have f := figB_num (i := i) h0 (by omega)
    have n := numOf_nT (i := i) h0 (by omega)
    refine ⟨?_, .inr f, ?_, .inr f⟩
    · show (if nT i = "own" then none else some (numOf (nT i))) = _
      rw [if_neg (nT_ne h0 lit_tl.2.2.2.2.1 (by decide)), n]
    · show (if nT i = "-" then none else some (numOf (nT i))) = _
      rw [if_neg (nT_ne h0 lit_tl.2.2.2.2.2.1 (by decide)), n]
end Law

set_option Elab.async false
set_option linter.all false
set_option maxRecDepth 100000
set_option maxHeartbeats 4000000
namespace Law
open PySem PySem.Spec PyProof.Rows L2 GxR GX Tree Kit Data Loops Loops2 Comps Purse Day SetG SetL Loops3 Obj Enum Wipe Txts Lit Ib Sep
theorem kinds_lit : kix "hours" = 0 ∧ kix "store" = 1 ∧ kix "dish" = 2 ∧ kix "block" = 3 ∧ ("store" : Str) ≠ "hours" ∧ ("dish" : Str) ≠ "hours" ∧ ("block" : Str) ≠ "hours" ∧ ("dish" : Str) ≠ "store" ∧ ("block" : Str) ≠ "store" ∧ ("block" : Str) ≠ "dish" ∧ ("hours" : Str) ≠ "store" ∧ ("hours" : Str) ≠ "dish" ∧ ("hours" : Str) ≠ "block" ∧ ("store" : Str) ≠ "dish" ∧ ("store" : Str) ≠ "block" ∧ ("dish" : Str) ≠ "block" := by decide +kernel
theorem form_num {k : Str} {i : Int} (hk : inV (.str k) [.str "hours", .str "store"] = true) (h0 : 0 ≤ i) (h1 : i ≤ 9999) : formB [k, nT i] = true := by
  unfold formB
  show (if inV (.str k) [.str "hours", .str "store"] = true then decide ((([nT i] : List Str).length : Int) = 1) && figB (nT i) else _) = true
  rw [if_pos hk, figB_num h0 h1]
  rfl
theorem rows_form {D : Dy} (hD : DyOk D) : ∀ ws ∈ wordsOf D, formB ws = true := fun ws h => by
  have t0 := hD.t0
  have t1 := hD.t1
  unfold wordsOf at h
  rcases List.mem_cons.mp h with rfl | h
  · exact form_num (by decide +kernel) (by omega) (by omega)
  rcases List.mem_append.mp h with h | h
  · obtain ⟨s, hs, rfl⟩ := List.mem_map.mp h
    have hb := hD.sb s hs
    exact form_num (by decide +kernel) (by omega) (by omega)
  rcases List.mem_append.mp h with h | h
  · unfold dishesOf at h
    obtain ⟨d, hd, rfl⟩ := List.mem_map.mp h
    have hd := List.mem_range.mp hd
    have sm : D.sights.getD d [] ∈ D.sights := by rw [getD_at _ _ hd]; exact List.getElem_mem hd
    have ha := ask_ok hD d
    have ob := (opt_back ha).2.1
    unfold formB dishWs
    show (if inV (.str "dish") [.str "hours", .str "store"] = true then _ else if decide (("dish" : Str) = "dish") = true then dishF (askW (D.asks.getD d none) :: (D.sights.getD d []).map heardW) else _) = true
    rw [if_neg (by decide +kernel), if_pos (by decide +kernel)]
    unfold dishF
    show (decide (1 ≤ (((askW (D.asks.getD d none) :: (D.sights.getD d []).map heardW).length : Nat) : Int)) && ((decide (askW (D.asks.getD d none) = ("own" : Str)) || figB (askW (D.asks.getD d none))) && ((D.sights.getD d []).map heardW).all heardF)) = true
    rw [Bool.and_eq_true, Bool.and_eq_true]
    refine ⟨decide_eq_true (by simp only [List.length_cons]; omega), ?_, List.all_eq_true.mpr fun x hx => ?_⟩
    · rcases ob with e | e
      · rw [decide_eq_true e]; rfl
      · rw [e, Bool.or_true]
    · obtain ⟨r, hr, rfl⟩ := List.mem_map.mp hx
      exact (heard_back hD.s1 (hD.gr _ sm r hr)).1
  · obtain ⟨b, hb, rfl⟩ := List.mem_map.mp h
    have o := hD.bb b hb
    have r0 := o.r0
    have r1 := o.r1
    have c0 := o.c0
    have c1 := o.c1
    have h0 := o.h0
    have h1 := o.h1
    have w0 := o.w0
    have w1 := o.w1
    have s1 := hD.s1
    have ob := (opt_back (o := b.due) fun i e => by have := o.du i e; omega).2.2.2
    unfold formB blockWs
    show (if inV (.str "block") [.str "hours", .str "store"] = true then _ else if decide (("block" : Str) = "dish") = true then _ else decide (("block" : Str) = "block") && ([nT b.house, nT b.craft, nT b.ready, nT b.worth].all figB && (decide (dueW b.due = ("-" : Str)) || figB (dueW b.due)))) = true
    rw [if_neg (by decide +kernel), if_neg (by decide +kernel), decide_eq_true rfl]
    have ha : [nT b.house, nT b.craft, nT b.ready, nT b.worth].all figB = true := by
      simp only [List.all_cons, List.all_nil, Bool.and_true]
      rw [figB_num (i := b.house) (by omega) (by omega), figB_num (i := b.craft) (by omega) (by omega), figB_num (i := b.ready) (by omega) (by omega), figB_num (i := b.worth) (by omega) (by omega)]
      rfl
    rw [ha]
    rcases ob with e | e
    · rw [decide_eq_true e]; rfl
    · rw [e, Bool.or_true]; rfl
theorem rows_ok {D : Dy} (hD : DyOk D) : RowsOk (wordsOf D) := by
  have sz : (400 : Nat) ≤ sizeLine := by unfold sizeLine; omega
  refine ⟨by unfold wordsOf; simp, ?_, fun ws h => (words_cl hD ws h).2.1, rows_form hD, fun ws h x hx => by have := (words_cl hD ws h).2.2.2 x hx; omega, fun ws h => ?_, rfl⟩
  · have := (rowsOf_len hD).2
    unfold rowsOf at this
    rw [List.length_map] at this
    omega
  · have := (words_cl hD ws h).2.2.1
    rw [List.length_drop]
    omega
/-- the kinds rise, and none behind the first is hours -/
theorem kinds_rise (D : Dy) : (wordsOf D).Pairwise fun a b => kix (a.getD 0 "") ≤ kix (b.getD 0 "") ∧ b.getD 0 "" ≠ ("hours" : Str) := by
  obtain ⟨k0, k1, k2, k3, n1, n2, n3, -⟩ := kinds_lit
  have hS : ∀ ws ∈ D.stores.map (fun s => ([("store" : Str), nT s] : List Str)), ws.getD 0 "" = ("store" : Str) := fun ws h => by
    obtain ⟨s, hs, rfl⟩ := List.mem_map.mp h; rfl
  have hDi : ∀ ws ∈ dishesOf D, ws.getD 0 "" = ("dish" : Str) := fun ws h => by
    obtain ⟨s, hs, rfl⟩ := List.mem_map.mp h; rfl
  have hB : ∀ ws ∈ D.blocks.map blockWs, ws.getD 0 "" = ("block" : Str) := fun ws h => by
    obtain ⟨s, hs, rfl⟩ := List.mem_map.mp h; rfl
  have same : ∀ {l : List (List Str)} {k : Str}, (∀ ws ∈ l, ws.getD 0 "" = k) → k ≠ ("hours" : Str) → l.Pairwise fun a b => kix (a.getD 0 "") ≤ kix (b.getD 0 "") ∧ b.getD 0 "" ≠ ("hours" : Str) := fun {l k} h n =>
    (List.pairwise_of_forall (R := fun _ _ => True) fun _ _ => trivial).imp_of_mem fun {a b} ha hb _ => by rw [h a ha, h b hb]; exact ⟨Nat.le_refl _, n⟩
  unfold wordsOf
  refine List.pairwise_cons.mpr ⟨fun b hb => ?_, List.pairwise_append.mpr ⟨same hS n1, List.pairwise_append.mpr ⟨same hDi n2, same hB n3, fun a ha b hb => ?_⟩, fun a ha b hb => ?_⟩⟩
  · show kix "hours" ≤ _ ∧ _
    rw [k0]
    refine ⟨Nat.zero_le _, ?_⟩
    rcases List.mem_append.mp hb with h | h
    · rw [hS b h]; exact n1
    rcases List.mem_append.mp h with h | h
    · rw [hDi b h]; exact n2
    · rw [hB b h]; exact n3
  · rw [hDi a ha, hB b hb, k2, k3]; exact ⟨by decide, n3⟩
  · rw [hS a ha, k1]
    rcases List.mem_append.mp hb with h | h
    · rw [hDi b h, k2]; exact ⟨by decide, n2⟩
    · rw [hB b h, k3]; exact ⟨by decide, n3⟩
theorem rows_place {D : Dy} : ∀ i, i < (wordsOf D).length → placeB (wordsOf D) i = true := fun i hi => by
  unfold placeB kindAt
  by_cases h0 : i = 0
  · rw [if_pos h0]
    exact decide_eq_true rfl
  · rw [if_neg h0]
    have := List.pairwise_iff_getElem.mp (kinds_rise D) (i - 1) i (by omega) hi (by omega)
    rw [getD_at (wordsOf D) [] hi, getD_at (wordsOf D) [] (show i - 1 < _ by omega)]
    rw [decide_eq_false this.2, Bool.not_false, Bool.true_and]
    exact decide_eq_true (by have := this.1; omega)
theorem fm_congr {α β : Type} {F G : α → Option β} : ∀ {l : List α}, (∀ a ∈ l, F a = G a) → l.filterMap F = l.filterMap G
  | [], _ => rfl
  | a :: r, h => by
    have ih := fm_congr (l := r) fun b hb => h b (by simp [hb])
    rw [List.filterMap_cons, List.filterMap_cons, h a (by simp), ih]
theorem data_back {D : Dy} (hD : DyOk D) : dataOf (wordsOf D) = dayD D := by
  obtain ⟨-, -, -, -, n1, n2, n3, n4, n5, n6, n7, n8, n9, n10, n11, n12⟩ := kinds_lit
  have t0 := hD.t0
  have t1 := hD.t1
  have s1 := hD.s1
  have al := hD.al
  have noK : ∀ {l : List (List Str)} {k k' : Str}, (∀ ws ∈ l, ws.getD 0 "" = k') → k' ≠ k → ∀ ws ∈ l, isK k ws = false := fun {l k k'} h n ws hw => by unfold isK; rw [h ws hw]; exact decide_eq_false n
  have hS : ∀ ws ∈ D.stores.map (fun s => ([("store" : Str), nT s] : List Str)), ws.getD 0 "" = ("store" : Str) := fun ws h => by
    obtain ⟨s, hs, rfl⟩ := List.mem_map.mp h; rfl
  have hDi : ∀ ws ∈ dishesOf D, ws.getD 0 "" = ("dish" : Str) := fun ws h => by
    obtain ⟨s, hs, rfl⟩ := List.mem_map.mp h; rfl
  have hB : ∀ ws ∈ D.blocks.map blockWs, ws.getD 0 "" = ("block" : Str) := fun ws h => by
    obtain ⟨s, hs, rfl⟩ := List.mem_map.mp h; rfl
  have fmNo : ∀ {l : List (List Str)} {F : List Str → Option PyData}, (∀ ws ∈ l, F ws = none) → l.filterMap F = [] := fun {l F} h => List.filterMap_eq_nil_iff.mpr h
  have h0S : storeF ([("hours" : Str), nT D.hours] : List Str) = none := by unfold storeF isK; rw [show decide (([("hours" : Str), nT D.hours] : List Str).getD 0 "" = "store") = false from decide_eq_false n7]; rfl
  have h0B : blockG ([("hours" : Str), nT D.hours] : List Str) = none := by unfold blockG isK; rw [show decide (([("hours" : Str), nT D.hours] : List Str).getD 0 "" = "block") = false from decide_eq_false n9]; rfl
  have dS : (dishesOf D).filterMap storeF = [] := fmNo fun ws hw => by unfold storeF; rw [noK hDi n4 ws hw]; rfl
  have bS : (D.blocks.map blockWs).filterMap storeF = [] := fmNo fun ws hw => by unfold storeF; rw [noK hB n5 ws hw]; rfl
  have sB : (D.stores.map (fun s => ([("store" : Str), nT s] : List Str))).filterMap blockG = [] := fmNo fun ws hw => by unfold blockG; rw [noK hS n11 ws hw]; rfl
  have dB : (dishesOf D).filterMap blockG = [] := fmNo fun ws hw => by unfold blockG; rw [noK hDi n12 ws hw]; rfl
  have e1 : (wordsOf D).filterMap storeF = D.stores.map PyData.int := by
    unfold wordsOf
    rw [List.filterMap_cons_none h0S, List.filterMap_append, List.filterMap_append, dS, bS, List.append_nil, List.append_nil, List.filterMap_map, ← fm_some]
    refine fm_congr fun s hs => ?_
    have hb := hD.sb s hs
    show storeF [("store" : Str), nT s] = _
    unfold storeF isK
    rw [show decide (([("store" : Str), nT s] : List Str).getD 0 "" = "store") = true from decide_eq_true rfl, if_pos rfl]
    show some (PyData.int (numOf (nT s))) = _
    rw [numOf_nT (by omega) (by omega)]
  have e2 : (wordsOf D).filterMap blockG = D.blocks.map blkD := by
    unfold wordsOf
    rw [List.filterMap_cons_none h0B, List.filterMap_append, List.filterMap_append, sB, dB, List.nil_append, List.nil_append, List.filterMap_map, ← fm_some]
    refine fm_congr fun b hb => ?_
    have o := hD.bb b hb
    have r0 := o.r0
    have r1 := o.r1
    have c0 := o.c0
    have c1 := o.c1
    have h0 := o.h0
    have h1 := o.h1
    have w0 := o.w0
    have w1 := o.w1
    show blockG (blockWs b) = _
    unfold blockG isK
    rw [show decide ((blockWs b).getD 0 "" = "block") = true from decide_eq_true rfl, if_pos rfl]
    show some (blkD ⟨numOf (nT b.house), numOf (nT b.craft), numOf (nT b.ready), optN (dueW b.due) "-", numOf (nT b.worth)⟩) = _
    rw [numOf_nT (i := b.house) (by omega) (by omega), numOf_nT (i := b.craft) (by omega) (by omega), numOf_nT (i := b.ready) (by omega) (by omega), numOf_nT (i := b.worth) (by omega) (by omega), (opt_back (o := b.due) fun i e => by have := o.du i e; omega).2.2.1]
  have e3 : (wordsOf D).filter (isK "dish") = dishesOf D := by
    unfold wordsOf
    rw [List.filter_cons, if_neg (by unfold isK; rw [show decide (([("hours" : Str), nT D.hours] : List Str).getD 0 "" = "dish") = false from decide_eq_false n8]; decide)]
    have f1 : (D.stores.map (fun s => ([("store" : Str), nT s] : List Str))).filter (isK "dish") = [] := List.filter_eq_nil_iff.mpr fun ws hw => by rw [noK hS n10 ws hw]; decide
    have f2 : (D.blocks.map blockWs).filter (isK "dish") = [] := List.filter_eq_nil_iff.mpr fun ws hw => by rw [noK hB n6 ws hw]; decide
    rw [List.filter_append, List.filter_append, f1, f2, List.nil_append, List.append_nil]
    exact List.filter_eq_self.mpr fun ws hw => (by unfold isK; rw [hDi ws hw]; exact decide_eq_true rfl)
  have e4 : (dishesOf D).map sightG = D.sights.map sightD := by
    unfold dishesOf
    rw [List.map_map, ← range_map sightD D.sights []]
    refine List.map_congr_left fun d hd => ?_
    have hd := List.mem_range.mp hd
    have sm : D.sights.getD d [] ∈ D.sights := by rw [getD_at _ _ hd]; exact List.getElem_mem hd
    show PyData.list (((D.sights.getD d []).map heardW).map fun x => rowD (heardN x)) = .list ((D.sights.getD d []).map rowD)
    rw [List.map_map]
    congr 1
    exact List.map_congr_left fun r hr => congrArg rowD (heard_back s1 (hD.gr _ sm r hr)).2
  have e5 : (dishesOf D).map askG = D.asks.map optD := by
    unfold dishesOf
    rw [List.map_map, ← range_map optD D.asks none, al]
    refine List.map_congr_left fun d hd => ?_
    show optD (optN (askW (D.asks.getD d none)) "own") = _
    rw [(opt_back (ask_ok hD d)).1]
  unfold dataOf
  rw [e1, e2, e3, e4, e5]
  show PyData.tuple [.int (numOf (nT D.hours)), _, _, _, _] = _
  rw [numOf_nT (by omega) (by omega)]
  rfl
theorem text_len {D : Dy} (hD : DyOk D) : (textD D).length ≤ 7000 := by
  obtain ⟨h1, h2⟩ := rowsOf_len hD
  have h3 := join_len (s := "\n") h1
  rw [one_len.2.2.1] at h3
  have h4 := Nat.mul_le_mul_right (300 + 1) h2
  unfold textD
  omega
end Law

set_option Elab.async false
set_option linter.all false
set_option maxRecDepth 100000
set_option maxHeartbeats 4000000
namespace Law
open PySem PySem.Spec PyProof.Rows L2 GxR GX Tree Kit Data Loops Comps Purse Sets
section
variable {P : Program} {w : World} {K : PySem.W.Frag} {mg : Str → Option Value} {base : Heap} {fa : String → Addr} {fd : String → FuncData} {ca ta : String → Addr}
/-! ### the purse -/
def sp_purse (K : PySem.W.Frag) : Sp := fun vs H Q _ => ∃ (a : Addr) (ns : List Int) (k : Nat), vs = [.ref a, .int k] ∧ SqL K H a (ns.map V.int) ∧ k < 8 ∧ ns.length ≤ 63 ∧ ∀ p H', Kx [] H H' → H p = none → PurseAt H' p 0 → Q (.ref p) H'
theorem purse_ok (cell : Int) (k : Nat) (hk : k < 8) : 0 ≤ (if cell - 10 ^ 18 > 0 then cell - 10 ^ 18 else 0) ∧ 0 ≤ cell % (10 ^ 41 + 9) * 128 + 5 * (k : Int) + 2 ∧ cell % (10 ^ 41 + 9) * 128 + 5 * (k : Int) + 2 < 2 ^ 150 := by
  refine ⟨?_, ?_, ?_⟩
  · split <;> omega
  · have := Int.emod_nonneg cell (show (10 ^ 41 + 9 : Int) ≠ 0 by decide)
    omega
  · have := Int.emod_lt_of_pos cell (show (0 : Int) < 10 ^ 41 + 9 by decide)
    omega
theorem ok__law_purse (Y : Facts K mg base fa fd ca ta) : FnOk P w K mg base CX0 1 (fa "_law_purse") (fd "_law_purse") ["script", "k"] (sp_purse K) := by
  refine Y.d__law_purse.ok sc__law_purse (fun vs H Q E h => ?_) (fun cdv A outer s H vs Q E hcd hr h => ?_)
  · obtain ⟨a, ns, k, rfl, _⟩ := h; rfl
  · obtain ⟨a, ns, k, rfl, ha, hk, hl, q⟩ := h
    refine ⟨_, (pss_cons (ps_set (i := 2) sc__law_purse.nd rfl (by first | exact Or.inl rfl | exact Or.inr rfl) pe_int)
      (pss_cons (ps_if (pt_cmpR op_lt (pv 1) (pe_callB (call_lenK K rfl) (by rfl) Y.b.len (by decide +kernel) (pa_cons (pv 0) pa_nil)) (nomark _)) (pss_one (ps_set (i := 2) sc__law_purse.nd rfl (by first | exact Or.inl rfl | exact Or.inr rfl) (pe_ix (ix_listK K rfl) (pv 0) (pv 1) (fun _ _ => rfl)))) pss_nil)
      (pss_one (ps_ret (pe_lst (pa_cons (pe_callB (call_max2 rfl) (by rfl) Y.b.max (by decide +kernel) (pa_cons pe_int (pa_cons (pe_op op_sub (pv 2) (pe_op op_powW pe_int pe_int)) pa_nil))) (pa_cons (pe_op op_add (pe_op op_add (pe_op op_mulW (pe_op op_mod (pv 2) (pe_op op_add (pe_op op_powW pe_int pe_int) pe_int)) pe_int) (pe_op op_mulW pe_int (pv 1))) pe_int) (pa_cons pe_int pa_nil)))))))), ?_⟩
    have hN : CPowW 10 18 := powW_ok (b := 4) (by decide) (by decide) (by decide) (by decide)
    have hM : CPowW 10 41 := powW_ok (b := 4) (by decide) (by decide) (by decide) (by decide)
    refine ⟨_, rfl, _, rfl, a, _, rfl, .inl ha, _, _, rfl, rfl, _, rfl, ?_⟩
    refine ite2 (fun c => ?_) (fun c => ?_)
    · have c := of_decide_eq_true c
      rw [List.length_map] at c
      have hk2 : k < ns.length := by omega
      refine ⟨_, rfl, _, rfl, a, _, _, .int ns[k], rfl, rfl, ha, atI_nat (by rw [List.getElem?_map, List.getElem?_eq_getElem hk2]; rfl), ?_⟩
      generalize ns[k] = cell
      obtain ⟨g1, g2, g3⟩ := purse_ok cell k hk
      refine ⟨_, rfl, _, _, rfl, rfl, hN, _, _, rfl, rfl, _, _, rfl, ?_⟩
      have hm := Int.emod_nonneg cell (show (10 ^ 41 + 9 : Int) ≠ 0 by decide)
      have hm2 := Int.emod_lt_of_pos cell (show (0 : Int) < 10 ^ 41 + 9 by decide)
      refine ⟨_, rfl, _, _, rfl, rfl, hM, _, _, rfl, rfl, _, _, rfl, rfl, ?_, _, _, rfl, rfl, ?_, _, rfl, _, _, rfl, rfl, ?_, _, _, rfl, rfl, _, _, rfl, rfl, ?_⟩
      · exact (by decide : (0 : Int) < 10 ^ (41 : Int).toNat + 9)
      · exact wide_mul (a := 150) (b := 8) (wide_of hm (by exact (show cell % (10 ^ 41 + 9) < 2 ^ 150 by omega))) (by decide) (by decide) (by decide) (by decide)
      · exact wide_mul (a := 8) (b := 8) (by decide) (by omega) (by decide) (by decide) (by decide)
      · refine ⟨len_ok, fun p hp => ?_⟩
        exact q p _ (Kx.new hp) hp ⟨_, _, 0, upd_same, g1, g2, g3, Int.le_refl _, Int.le_refl _⟩
    · obtain ⟨g1, g2, g3⟩ := purse_ok (0 : Int) k hk
      refine ⟨_, rfl, _, _, rfl, rfl, hN, _, _, rfl, rfl, _, _, rfl, ?_⟩
      have hm := Int.emod_nonneg (0 : Int) (show (10 ^ 41 + 9 : Int) ≠ 0 by decide)
      have hm2 := Int.emod_lt_of_pos (0 : Int) (show (0 : Int) < 10 ^ 41 + 9 by decide)
      refine ⟨_, rfl, _, _, rfl, rfl, hM, _, _, rfl, rfl, _, _, rfl, rfl, ?_, _, _, rfl, rfl, ?_, _, rfl, _, _, rfl, rfl, ?_, _, _, rfl, rfl, _, _, rfl, rfl, ?_⟩
      · exact (by decide : (0 : Int) < 10 ^ (41 : Int).toNat + 9)
      · exact wide_mul (a := 150) (b := 8) (wide_of hm (by exact (show (0 : Int) % (10 ^ 41 + 9) < 2 ^ 150 by omega))) (by decide) (by decide) (by decide) (by decide)
      · exact wide_mul (a := 8) (b := 8) (by decide) (by omega) (by decide) (by decide) (by decide)
      · refine ⟨len_ok, fun p hp => ?_⟩
        exact q p _ (Kx.new hp) hp ⟨_, _, 0, upd_same, g1, g2, g3, Int.le_refl _, Int.le_refl _⟩
theorem coin_mod {i j many : Int} : 0 < many → 0 ≤ i % many ∧ i % many < many := fun h => ⟨Int.emod_nonneg _ (by omega), Int.emod_lt_of_pos _ h⟩
theorem ok__law_coin (Y : Facts K mg base fa fd ca ta) : FnOk P w K mg base CX0 1 (fa "_law_coin") (fd "_law_coin") ["purse", "many"] (sp_coin (Ts ta)) := by
  refine Y.d__law_coin.ok sc__law_coin (fun vs H Q E h => ?_) (fun cdv A outer s H vs Q E hcd hr h => ?_)
  · obtain ⟨p, n, many, C, rfl, _⟩ := h; rfl
  · obtain ⟨p, n, many, C, rfl, h0, h1, hn, hA, q⟩ := h
    obtain ⟨a, b, c, hp, ha, hb, hb2, hc, hc2⟩ := hA.pu
    refine ⟨_, (pss_cons (ps_if (pt_cmpR op_gt (pe_ix (ix_listK K rfl) (pv 0) pe_int (fun _ _ => rfl)) pe_int (nomark _)) (pss_cons (ps_set (i := 2) sc__law_coin.nd rfl (by first | exact Or.inl rfl | exact Or.inr rfl) (pe_op op_mod (pe_ix (ix_listK K rfl) (pv 0) pe_int (fun _ _ => rfl)) (pv 1)))
      (pss_cons (ps_asg (pe_op op_fdivW (pe_ix (ix_listK K rfl) (pv 0) pe_int (fun _ _ => rfl)) (pv 1)) (pg_sub (pv 0) pe_int set_list))
      (pss_one (ps_ret (pv 2))))) pss_nil)
      (pss_cons (ps_asg (pe_op op_add (pe_ix (ix_listK K rfl) (pv 0) pe_int (fun _ _ => rfl)) pe_int) (pg_sub (pv 0) pe_int set_list))
      (pss_cons (ps_set (i := 3) sc__law_coin.nd rfl (by first | exact Or.inl rfl | exact Or.inr rfl) (pe_op op_mod (pe_op op_powW (pe_op op_add (pe_ix (ix_listK K rfl) (pv 0) pe_int (fun _ _ => rfl)) (pe_op op_mulW pe_int (pe_ix (ix_listK K rfl) (pv 0) pe_int (fun _ _ => rfl)))) pe_int) (pe_op op_add (pe_op op_powW pe_int pe_int) pe_int)))
      (pss_cons (ps_set (i := 3) sc__law_coin.nd rfl (by first | exact Or.inl rfl | exact Or.inr rfl) (pe_op op_mod (pe_op op_powW (pe_op op_add (pv 3) (pe_op op_mulW pe_int (pe_ix (ix_listK K rfl) (pv 0) pe_int (fun _ _ => rfl)))) pe_int) (pe_op op_add (pe_op op_powW pe_int pe_int) pe_int)))
      (pss_one (ps_ret (pe_op op_mod (pe_op op_fdivW (pv 3) pe_int) (pv 1)))))))), ?_⟩
    have put : ∀ x y z, 0 ≤ x → 0 ≤ y → y < 2 ^ 150 → 0 ≤ z → z ≤ ((n + 1 : Nat) : Int) → Kx [p] H (upd H p (.lst [.int x, .int y, .int z])) ∧ At (Ts ta) C p (n + 1) (upd H p (.lst [.int x, .int y, .int z])) := fun x y z hx hy hy2 hz hz2 =>
      ⟨Kx.put (by simp), hA.put (Kx.put (by simp)) ⟨x, y, z, upd_same, hx, hy, hy2, hz, hz2⟩ hA.tne⟩
    have hmod : ∀ i : Int, 0 ≤ i % many ∧ i % many < many := fun i => ⟨Int.emod_nonneg _ (by omega), Int.emod_lt_of_pos _ h0⟩
    refine ⟨_, rfl, p, _, 0, _, rfl, rfl, SqL.of hp, rfl, _, _, rfl, rfl, _, rfl, ?_⟩
    refine ite2 (fun c1 => ?_) (fun c1 => ?_)
    · obtain ⟨k1, A1⟩ := put (a / many) b c (Int.ediv_nonneg ha (by omega)) hb hb2 hc (by omega)
      exact ⟨.ref p, rfl, p, _, 0, _, rfl, rfl, SqL.of hp, rfl, _, rfl, _, _, rfl, rfl, h0, .ref p, rfl, p, _, 0, _, rfl, rfl, SqL.of hp, rfl, _, rfl, _, _, rfl, rfl, wide_div (b := 30) h0 (by omega) (by decide) (by decide), .ref p, rfl, p, _, 0, 0, rfl, rfl, hp, rfl, _, rfl, q _ _ (hmod a).1 (hmod a).2 k1 A1⟩
    · obtain ⟨k1, A1⟩ := put a b (c + 1) ha hb hb2 (by omega) (by omega)
      refine ⟨.ref p, rfl, p, _, 2, _, rfl, rfl, SqL.of hp, rfl, _, _, rfl, rfl, .ref p, rfl, p, _, 2, 2, rfl, rfl, hp, rfl, ?_⟩
      have hp1 : (upd H p (.lst [.int a, .int b, .int (c + 1)])) p = some (.lst [.int a, .int b, .int (c + 1)]) := upd_same
      refine ⟨.ref p, rfl, p, _, 1, _, rfl, rfl, SqL.of hp1, rfl, .ref p, rfl, p, _, 2, _, rfl, rfl, SqL.of hp1, rfl, _, _, rfl, rfl, ?_, _, _, rfl, rfl, _, _, rfl, rfl, ?_, _, _, rfl, rfl, powW_ok (b := 4) (by decide) (by decide) (by decide) (by decide), _, _, rfl, rfl, _, _, rfl, rfl, ?_, ?_⟩
      · exact wide_mul (a := 17) (b := 60) (by decide) (by omega) (by decide) (by decide) (by decide)
      · exact powW_ok (b := 152) (by decide) (by omega) (by decide) (by decide)
      · exact (by decide : (0 : Int) < 10 ^ (35 : Int).toNat + 69)
      · have m0 := Int.emod_nonneg ((b + 104729 * (c + 1)) ^ (3 : Int).toNat) (show (10 ^ (35 : Int).toNat + 69 : Int) ≠ 0 by decide)
        have m1 := Int.lt_of_lt_of_le (Int.emod_lt_of_pos ((b + 104729 * (c + 1)) ^ (3 : Int).toNat) (show (0 : Int) < 10 ^ (35 : Int).toNat + 69 by decide)) (show (10 ^ (35 : Int).toNat + 69 : Int) ≤ 2 ^ 120 by decide)
        refine ⟨_, rfl, .ref p, rfl, p, _, 2, _, rfl, rfl, SqL.of hp1, rfl, _, _, rfl, rfl, ?_, _, _, rfl, rfl, _, _, rfl, rfl, ?_, _, _, rfl, rfl, powW_ok (b := 4) (by decide) (by decide) (by decide) (by decide), _, _, rfl, rfl, _, _, rfl, rfl, ?_, ?_⟩
        · exact wide_mul (a := 17) (b := 60) (by decide) (by omega) (by decide) (by decide) (by decide)
        · exact powW_ok (b := 130) (by decide) (by omega) (by decide) (by decide)
        · exact (by decide : (0 : Int) < 10 ^ (33 : Int).toNat + 61)
        · exact ⟨_, rfl, _, _, rfl, rfl, wide_div (b := 30) (by decide) (by decide) (by decide) (by decide), _, rfl, _, _, rfl, rfl, h0, q _ _ (hmod _).1 (hmod _).2 k1 A1⟩
end
end Law

set_option Elab.async false
set_option linter.all false
set_option maxRecDepth 100000
set_option maxHeartbeats 4000000
namespace Law
open PySem PySem.Spec PyProof.Rows L2 GxR GX Tree Kit Data Loops Comps Purse Sets Small
section
variable {P : Program} {w : World} {K : PySem.W.Frag} {mg : Str → Option Value} {base : Heap} {fa : String → Addr} {fd : String → FuncData} {ca ta : String → Addr}
/-! ### drawn days -/
/-- a def that draws: it takes the purse and other arguments; it hands on a tree that is G, k coins at most -/
def Draws (Ts : List Addr) (C : List Addr) (p : Addr) (n k : Nat) (G : PyData → Prop) (H : Hp) (Q : VK) : Prop := ∀ v d H', Kx [p] H H' → At Ts C p (n + k) H' → Tr C H' v d → G d → Q v H'
theorem intsD_map : ∀ ns : List Int, intsD (ns.map PyData.int) = ns
  | [] => rfl
  | n :: ns => congrArg (n :: ·) (intsD_map ns)
theorem heard_ok {c : Int} {ns : List Int} (h1 : ns.Pairwise (· < ·)) (h2 : ∀ n ∈ ns, 0 ≤ n ∧ n < c) : heardB c (.list (ns.map .int)) = true := by
  show ((ns.map PyData.int).all (isWh 0 (c - 1)) && risesB (intsD (ns.map .int))) = true
  rw [intsD_map, Bool.and_eq_true]
  refine ⟨List.all_eq_true.mpr fun d hd => ?_, decide_eq_true h1⟩
  obtain ⟨n, hn, rfl⟩ := List.mem_map.mp hd
  have := h2 n hn
  show (decide (0 ≤ n) && decide (n ≤ c - 1)) = true
  simp only [Bool.and_eq_true, decide_eq_true_eq]
  omega
theorem nodup_le {js : List Nat} {n : Nat} (h1 : ∀ j ∈ js, j < n) (h2 : js.Nodup) : js.length ≤ n := by
  have := List.Nodup.length_le_of_subset (l₁ := js) (l₂ := List.range n) h2 (fun j hj => List.mem_range.mpr (h1 j hj))
  simpa using this
theorem ints_js (js : List Nat) : (js.map fun j : Nat => PyData.int (j : Int)) = (js.map fun j : Nat => (j : Int)).map PyData.int := by
  rw [List.map_map]; rfl
theorem rising_js {js : List Nat} (h : js.Pairwise (· < ·)) : (js.map fun j : Nat => (j : Int)).Pairwise (· < ·) := List.pairwise_map.mpr (h.imp fun h => by omega)
def sp_law_sight (Ts : List Addr) : Sp := fun vs H Q _ => ∃ (p : Addr) (n : Nat) (C : List Addr) (h c : Int), vs = [.ref p, .int h, .int c] ∧ 1 ≤ h ∧ h ≤ 10 ∧ 1 ≤ c ∧ c ≤ 4 ∧ n ≤ 900000000000 ∧ At Ts C p n H ∧ Draws Ts C p n 1000 (fun d => Sm 20 1000000 51 2 d ∧ sightB h c d = true) H Q
theorem ok__law_sight (Y : Facts K mg base fa fd ca ta) : FnOk P w K mg base CX0 2 (fa "_law_sight") (fd "_law_sight") ["purse", "hours", "craft"] (sp_law_sight (Ts ta)) := by
  refine Y.d__law_sight.ok sc__law_sight (fun vs H Q E h => ?_) (fun cdv A outer s H vs Q E hcd hr h => ?_)
  · obtain ⟨p, n, C, h, c, rfl, _⟩ := h; rfl
  · obtain ⟨p, n, C, h, c, rfl, h1, h2, c1, c2, hn, hA, q⟩ := h
    refine ⟨_, (pss_cons (ps_set (i := 3) sc__law_sight.nd rfl (by first | exact Or.inl rfl | exact Or.inr rfl) (pe_lst pa_nil))
      (pss_cons (ps_for PassesOwn.never rfl (pi_range1 (by rfl) Y.b.range (pa_cons (pv 1) pa_nil)) (pg_name (i := 4) sc__law_sight.nd rfl (by first | exact Or.inl rfl | exact Or.inr rfl)) (pss_cons (ps_setLc (i := 5) (own := [("one", 6)]) (g := gName 6) rfl sc__law_sight.nd rfl rfl (sw_true rfl rfl rfl (by decide +kernel)) (pi_range1 (by rfl) Y.b.range (pa_cons (pv 2) pa_nil)) (blkOk_by (N := ["purse", "hours", "craft", "found", "hour", "some", "one"]) (sc := defScope s__law_sight) (by decide +kernel)) (fun _ _ _ _ _ => (pg_name (i := 6) sc__law_sight.nd rfl (by first | exact Or.inl rfl | exact Or.inr rfl))) (fun _ _ _ _ _ => (pts_one (pt_cmpR op_gt (pe_call (ok__law_coin Y) (hr.mono (by decide)) (by rfl) Y.d__law_coin.g Y.d__law_coin.kp Y.d__law_coin.b .nil pass0 (pa_cons (pv 0) (pa_cons pe_int pa_nil))) pe_int (nomark _)))) (fun _ _ _ _ _ => (pv 6)))
      (pss_one (ps_expr (pe_bm PySem.F.plainAttrs_list PySem.F.slot_list_append PySem.F.type_list_append mt_append (pv 3) (pa_cons (pe_ix (ix_listK K rfl) (pe_lst (pa_cons (pv 5) (pa_cons (pv 5) (pa_cons (pe_listRg rfl (by rfl) Y.b.list (prg_1 (by rfl) Y.b.range (pv 2))) (pa_cons (pe_lst (pa_cons (pe_call (ok__law_coin Y) (hr.mono (by decide)) (by rfl) Y.d__law_coin.g Y.d__law_coin.kp Y.d__law_coin.b .nil pass0 (pa_cons (pv 0) (pa_cons (pv 2) pa_nil))) pa_nil)) (pa_cons (pe_lst pa_nil) pa_nil)))))) (pe_call (ok__law_coin Y) (hr.mono (by decide)) (by rfl) Y.d__law_coin.g Y.d__law_coin.kp Y.d__law_coin.b .nil pass0 (pa_cons (pv 0) (pa_cons pe_int pa_nil))) (fun _ _ => rfl)) pa_nil))))))
      (pss_one (ps_ret (pv 3))))), ?_⟩
    refine st_set ⟨len_ok, fun F hF => ?_⟩
    have kF : Kx [] H (upd H F (.lst [])) := Kx.new hF
    have nF : F ∉ C := hA.not hF
    have A0 : At (Ts ta) (F :: C) p n (upd H F (.lst [])) := (hA.kx kF).cons (by rw [upd_same]; simp)
    refine ⟨_, rfl, h, rfl, by omega, by omega, ?_⟩
    refine for_gen (itr_at h.toNat) (B := [p, F]) (Iv := fun i σ' H' => (∃ y4 y5, σ' = [some (.ref p), some (.int h), some (.int c), some (.ref F), y4, y5, none]) ∧ At (Ts ta) (F :: C) p (n + i * 10) H' ∧ ∃ xs ds, H' F = some (.lst xs) ∧ TrAll (F :: C) H' xs ds ∧ ds.length = i ∧ ∀ d ∈ ds, Sm 20 1000000 5 1 d ∧ heardB c d = true)
      ⟨⟨none, none, rfl⟩, A0, [], [], upd_same, .nil, rfl, fun d h => (nomatch h)⟩ (fun i σ' H1 hi k ⟨⟨y4, y5, e⟩, A1, xs, ds, hx, tx, lx, gx⟩ Nn hN => ?_) fun σ' H1 k ⟨⟨y4, y5, e⟩, A1, xs, ds, hx, tx, lx, gx⟩ => ?_
    · subst e
      have hi' : i < 10 := by omega
      refine st_name (st_set (lc_use ⟨_, rfl, c, rfl, by omega, by omega, ?_⟩))
      refine lc_puX (C := F :: C) (itr_at c.toNat) (by omega) 1 (fun j d => d = .int (j : Int)) A1 (fun D j H2 hD hj k2 A2 R R0 hR hR0 => ?_) fun D js es H2 k2 A2 tD hm hjs => ?_
      · refine ⟨rfl, .ref p, rfl, p, _, 3, _, rfl, by decide, by decide, by omega, A2, fun r H3 r0 r1 k3 A3 => ⟨_, _, rfl, rfl, _, rfl, ite2 (fun _ => ?_) fun _ => hR0 H3 k3 (A3.mono (by omega))⟩⟩
        exact ⟨_, rfl, hR _ _ H3 k3 (A3.mono (by omega)) (.int _) rfl⟩
      · have f2 : H2 F = some (.lst xs) := k2.lst (fun e => nF (by rw [List.mem_singleton.mp e]; exact hA.mem)) hx
        have c5 : c.toNat ≤ 4 := by omega
        refine ⟨.ref F, rfl, .inl ⟨rfl, xs, SqL.of f2⟩, .ref D, rfl, .ref D, rfl, .int c, rfl, c, rfl, RgOk.of_le (by decide) (by omega) (by decide) (by omega), fun R1 hR1 => ?_⟩
        have tR : TrAll (F :: C) H2 (rgV 0 c) (((List.range (c - 0).toNat).map fun i => ((0 : Int) + (i : Nat))).map PyData.int) := by
          have := TrAll.ints (B := F :: C) (H := H2) ((List.range (c - 0).toNat).map fun i => ((0 : Int) + (i : Nat)))
          rwa [List.map_map] at this
        obtain ⟨k3, e3, t3⟩ := mk_lst A2.al tR hR1
        have A3 := A2.kx k3
        generalize upd H2 R1 (.lst (rgV 0 c)) = H3 at k3 e3 t3 A3 ⊢
        refine ⟨.ref p, rfl, .int c, rfl, p, _, c, _, rfl, by omega, by omega, by omega, A3, fun r H4 r0 r1 k4 A4 => ⟨len_ok, fun L hL => ?_⟩⟩
        obtain ⟨k5, e5, t5⟩ := mk_lst A4.al (.cons (.int r) .nil) hL
        have A5 := A4.kx k5
        generalize upd H4 L (.lst [V.int r]) = H5 at k5 e5 t5 A5 ⊢
        refine ⟨len_ok, fun M hM => ?_⟩
        obtain ⟨k6, e6, t6⟩ := mk_lst A5.al .nil hM
        have A6 := A5.kx k6
        generalize upd H5 M (.lst []) = H6 at k6 e6 t6 A6 ⊢
        have tD6 : Tr (F :: C) H6 (.ref D) (.list es) := ((A3.tr (tD.up k3) k4).up k5).up k6
        have tR6 := ((A3.tr t3 k4).up k5).up k6
        refine ⟨len_ok, fun O hO => ?_⟩
        obtain ⟨k7, e7, t7⟩ := mk_lst A6.al (.cons tD6 (.cons tD6 (.cons tR6 (.cons (t5.up k6) (.cons t6 .nil))))) hO
        have A7 := A6.kx k7
        generalize upd H6 O (.lst [V.ref D, V.ref D, V.ref R1, V.ref L, V.ref M]) = H7 at k7 e7 t7 A7 ⊢
        refine ⟨.ref p, rfl, p, _, 5, _, rfl, by decide, by decide, by omega, A7, fun r2 H8 s0 s1 k8 A8 => ?_⟩
        have kk : Kx [p] H1 H8 := k2.trans (k3.of.trans (k4.trans ((k5.trans (k6.trans k7)).of.trans k8)))
        obtain ⟨ys, ey, ty⟩ := (A7.tr t7 k8).items
        obtain ⟨v, d, a1, a2, a3⟩ := pick ty s0 (by have := ty.length; simp at this; omega)
        have nFp : F ≠ p := fun e => nF (e ▸ hA.mem)
        have f8 : H8 F = some (.lst xs) := kk.lst (by simpa using nFp) hx
        have les := hm.length
        have ees := hm.eq
        have ljs : js.length ≤ c.toNat := by
          have h1 := hm.rising
          have h2 : js.Nodup := h1.imp fun h => Nat.ne_of_lt h
          exact nodup_le hjs h2
        have gd : Sm 20 1000000 5 1 d ∧ heardB c d = true := by
          have g1 : Sm 20 1000000 5 1 (.list es) ∧ heardB c (.list es) = true := by
            refine ⟨Sm.list (N := 4) (S := 1) (D := 0) (fun d hd => ?_) (by omega) (by decide), ?_⟩
            · rw [ees] at hd
              obtain ⟨j, hj, rfl⟩ := List.mem_map.mp hd
              have := hjs j hj
              exact Sm.int (by omega)
            · rw [ees, ints_js]
              refine heard_ok (rising_js hm.rising) fun n hn => ?_
              obtain ⟨j, hj, rfl⟩ := List.mem_map.mp hn
              have := hjs j hj
              omega
          simp only [List.mem_cons, List.mem_singleton, List.not_mem_nil, or_false] at a3
          rcases a3 with rfl | rfl | rfl | rfl | rfl
          · exact g1
          · exact g1
          · refine ⟨Sm.list (N := 4) (S := 1) (D := 0) (fun d hd => ?_) (by simp; omega) (by decide), heard_ok ?_ fun n hn => ?_⟩
            · simp only [List.mem_map, List.mem_range] at hd
              obtain ⟨j, ⟨m, hm, rfl⟩, rfl⟩ := hd
              exact Sm.int (by omega)
            · exact List.pairwise_map.mpr (List.pairwise_lt_range.imp fun h => by omega)
            · simp only [List.mem_map, List.mem_range] at hn
              obtain ⟨m, hm, rfl⟩ := hn
              omega
          · refine ⟨Sm.list (N := 4) (S := 1) (D := 0) (fun d hd => ?_) (by simp) (by decide), heard_ok (ns := [r]) (List.pairwise_singleton _ _) fun n hn => ?_⟩
            · rw [List.mem_singleton.mp hd]
              exact Sm.int (by omega)
            · rw [List.mem_singleton.mp hn]
              omega
          · exact ⟨Sm.list (N := 4) (S := 1) (D := 0) (fun d hd => by simp at hd) (by simp) (by decide), heard_ok (ns := []) .nil fun n hn => by simp at hn⟩
        refine ⟨O, ys, r2, v, rfl, rfl, SqL.of ey, a1, F, xs, v, rfl, rfl, f8, ?_, hN _ _ ?_ ⟨⟨_, _, rfl⟩, (A8.mono (by omega)).set f8 nFp, xs ++ [v], ds ++ [d], upd_same, ?_, ?_, ?_⟩⟩
        · have := tx.length
          unfold sizeLine
          omega
        · exact (k.trans (kk.sub (by simp))).trans (Kx.put (by simp))
        · have t9 := TrAll.kx kk (fun b hb => by rw [List.mem_singleton.mp hb]; exact A1.mem) _ _ tx
          exact TrAll.kx (Kx.put (B := [F]) (by simp)) (fun b hb => by simp_all) _ _ (t9.snoc a2)
        · rw [List.length_append, lx]; rfl
        · intro d' hd'
          rcases List.mem_append.mp hd' with z | z
          · exact gx d' z
          · rw [List.mem_singleton.mp z]; exact gd
    · subst e
      refine ⟨_, rfl, q _ (.list ds) H1 (Kx.weak (kF.of.trans k) fun b hb => ?_) ((A1.mono (by omega)).less (fun c hc => List.mem_cons_of_mem _ hc) hA.mem) (.lst nF hx (TrAll.less (fun b hb => List.mem_cons_of_mem _ hb) _ _ tx)) ⟨Sm.list (N := 10) (fun d hd => (gx d hd).1) (by omega) (by decide), ?_⟩⟩
      · simp only [List.mem_cons, List.not_mem_nil, or_false] at hb
        rcases hb with rfl | rfl
        · exact .inl (by simp)
        · exact .inr hF
      · show (isLs h h (.list ds) && ds.all (heardB c)) = true
        rw [Bool.and_eq_true]
        refine ⟨?_, List.all_eq_true.mpr fun d hd => (gx d hd).2⟩
        show (decide (h ≤ (ds.length : Int)) && decide ((ds.length : Int) ≤ h)) = true
        simp only [Bool.and_eq_true, decide_eq_true_eq]
        omega
theorem isWh_ok {lo hi i : Int} (h1 : lo ≤ i) (h2 : i ≤ hi) : isWh lo hi (.int i) = true := by
  show (decide (lo ≤ i) && decide (i ≤ hi)) = true
  simp only [Bool.and_eq_true, decide_eq_true_eq]
  exact ⟨h1, h2⟩
theorem isLs_ok {lo hi : Int} {ds : List PyData} (h1 : lo ≤ (ds.length : Int)) (h2 : (ds.length : Int) ≤ hi) : isLs lo hi (.list ds) = true := by
  show (decide (lo ≤ (ds.length : Int)) && decide ((ds.length : Int) ≤ hi)) = true
  simp only [Bool.and_eq_true, decide_eq_true_eq]
  exact ⟨h1, h2⟩
theorem block_ok {h c ho nu re : Int} {dd d : PyData} (a1 : 0 ≤ ho) (a2 : ho < 6) (b1 : 0 ≤ nu) (b2 : nu < c) (c1 : 0 ≤ re) (c2 : re < h) (vd : (isNone dd || isWh re (h - 1) dd) = true) (vw : isWh 1 9999 d = true) : blockB h c (.tuple [.int ho, .int nu, .int re, dd, d]) = true := by
  show (isWh 0 5 (.int ho) && (isWh 0 (c - 1) (.int nu) && (isWh 0 (h - 1) (.int re) && ((isNone dd || isWh re (h - 1) dd) && isWh 1 9999 d)))) = true
  rw [isWh_ok a1 (by omega), isWh_ok b1 (by omega), isWh_ok c1 (by omega), vd, vw]
  rfl
def sp_law_block (Ts : List Addr) : Sp := fun vs H Q _ => ∃ (p : Addr) (n : Nat) (C : List Addr) (h c : Int), vs = [.ref p, .int h, .int c] ∧ 1 ≤ h ∧ h ≤ 10 ∧ 1 ≤ c ∧ c ≤ 4 ∧ n ≤ 900000000000 ∧ At Ts C p n H ∧ Draws Ts C p n 20 (fun d => Sm 20 1000000 6 1 d ∧ blockB h c d = true) H Q
theorem ok__law_block (Y : Facts K mg base fa fd ca ta) : FnOk P w K mg base CX0 2 (fa "_law_block") (fd "_law_block") ["purse", "hours", "craft"] (sp_law_block (Ts ta)) := by
  refine Y.d__law_block.ok sc__law_block (fun vs H Q E h => ?_) (fun cdv A outer s H vs Q E hcd hr h => ?_)
  · obtain ⟨p, n, C, h, c, rfl, _⟩ := h; rfl
  · obtain ⟨p, n, C, h, c, rfl, h1, h2, c1, c2, hn, hA, q⟩ := h
    refine ⟨_, (pss_cons (ps_set (i := 3) sc__law_block.nd rfl (by first | exact Or.inl rfl | exact Or.inr rfl) (pe_ix (ix_listK K rfl) (pe_lst (pa_cons (pe_call (ok__law_coin Y) (hr.mono (by decide)) (by rfl) Y.d__law_coin.g Y.d__law_coin.kp Y.d__law_coin.b .nil pass0 (pa_cons (pv 0) (pa_cons (pv 1) pa_nil))) (pa_cons pe_int pa_nil))) (pe_callTy call_int1 (by rfl) Y.b.int (by decide +kernel) (pa_cons (pe_cmpR op_eq (pe_call (ok__law_coin Y) (hr.mono (by decide)) (by rfl) Y.d__law_coin.g Y.d__law_coin.kp Y.d__law_coin.b .nil pass0 (pa_cons (pv 0) (pa_cons pe_int pa_nil))) pe_int (nomark _)) pa_nil)) (fun _ _ => rfl)))
      (pss_cons (ps_set (i := 4) sc__law_block.nd rfl (by first | exact Or.inl rfl | exact Or.inr rfl) pe_non)
      (pss_cons (ps_if (pt_cmpR op_eq (pe_call (ok__law_coin Y) (hr.mono (by decide)) (by rfl) Y.d__law_coin.g Y.d__law_coin.kp Y.d__law_coin.b .nil pass0 (pa_cons (pv 0) (pa_cons pe_int pa_nil))) pe_int (nomark _)) (pss_one (ps_set (i := 4) sc__law_block.nd rfl (by first | exact Or.inl rfl | exact Or.inr rfl) (pe_op op_add (pv 3) (pe_call (ok__law_coin Y) (hr.mono (by decide)) (by rfl) Y.d__law_coin.g Y.d__law_coin.kp Y.d__law_coin.b .nil pass0 (pa_cons (pv 0) (pa_cons (pe_op op_sub (pv 1) (pv 3)) pa_nil)))))) pss_nil)
      (pss_cons (ps_set (i := 5) sc__law_block.nd rfl (by first | exact Or.inl rfl | exact Or.inr rfl) (pe_lst (pa_cons (pe_op op_add pe_int (pe_call (ok__law_coin Y) (hr.mono (by decide)) (by rfl) Y.d__law_coin.g Y.d__law_coin.kp Y.d__law_coin.b .nil pass0 (pa_cons (pv 0) (pa_cons pe_int pa_nil)))) (pa_cons (pe_op op_add pe_int (pe_call (ok__law_coin Y) (hr.mono (by decide)) (by rfl) Y.d__law_coin.g Y.d__law_coin.kp Y.d__law_coin.b .nil pass0 (pa_cons (pv 0) (pa_cons pe_int pa_nil)))) (pa_cons (pe_op op_add pe_int (pe_call (ok__law_coin Y) (hr.mono (by decide)) (by rfl) Y.d__law_coin.g Y.d__law_coin.kp Y.d__law_coin.b .nil pass0 (pa_cons (pv 0) (pa_cons pe_int pa_nil)))) (pa_cons pe_int pa_nil))))))
      (pss_one (ps_ret (pe_tup (pa_cons (pe_call (ok__law_coin Y) (hr.mono (by decide)) (by rfl) Y.d__law_coin.g Y.d__law_coin.kp Y.d__law_coin.b .nil pass0 (pa_cons (pv 0) (pa_cons pe_int pa_nil))) (pa_cons (pe_call (ok__law_coin Y) (hr.mono (by decide)) (by rfl) Y.d__law_coin.g Y.d__law_coin.kp Y.d__law_coin.b .nil pass0 (pa_cons (pv 0) (pa_cons (pv 2) pa_nil))) (pa_cons (pv 3) (pa_cons (pv 4) (pa_cons (pe_ix (ix_listK K rfl) (pv 5) (pe_call (ok__law_coin Y) (hr.mono (by decide)) (by rfl) Y.d__law_coin.g Y.d__law_coin.kp Y.d__law_coin.b .nil pass0 (pa_cons (pv 0) (pa_cons pe_int pa_nil))) (fun _ _ => rfl)) pa_nil)))))))))))), ?_⟩
    refine ⟨.ref p, rfl, .int h, rfl, p, _, h, _, rfl, by omega, by omega, by omega, hA, fun r1 H1 r10 r11 k1 A1 => ⟨len_ok, fun L hL => ?_⟩⟩
    obtain ⟨k2, e2, t2⟩ := mk_lst A1.al (.cons (.int r1) (.cons (.int 0) .nil)) hL
    have A2 := A1.kx k2
    generalize upd H1 L (.lst [V.int r1, V.int 0]) = H2 at k2 e2 t2 A2 ⊢
    refine ⟨.ref p, rfl, p, _, 4, _, rfl, by decide, by decide, by omega, A2, fun z H3 z0 z1 k3 A3 => ⟨rfl, .inr ⟨_, rfl, ?_⟩⟩⟩
    obtain ⟨ys, ey, ty⟩ := (A2.tr t2 k3).items
    obtain ⟨re, are, re0, re1⟩ : ∃ re, atI ys (if decide (V.int z = V.int 0) then 1 else 0) = some (.int re) ∧ 0 ≤ re ∧ re < h := by
      have hl := ty.length
      obtain ⟨v, d, a1, a2, a3⟩ := pick ty (r := if decide (V.int z = V.int 0) = true then 1 else 0) (by split <;> omega) (by simp at hl; split <;> omega)
      simp only [List.mem_cons, List.mem_singleton, List.not_mem_nil, or_false] at a3
      rcases a3 with rfl | rfl
      · rw [Tree.Tr.intV a2] at a1
        exact ⟨_, a1, r10, r11⟩
      · rw [Tree.Tr.intV a2] at a1
        exact ⟨_, a1, by omega, by omega⟩
    refine ⟨L, ys, _, _, rfl, rfl, SqL.of ey, are, ?_⟩
    have k03 : Kx [p] H H3 := k1.trans (k2.of.trans k3)
    refine ⟨.ref p, rfl, p, _, 3, _, rfl, by decide, by decide, by omega, A3, fun y H4 y0 y1 k4 A4 => ⟨rfl, _, rfl, ?_⟩⟩
    have k04 := k03.trans k4
    refine ite2 (fun cc => ?_) (fun cc => ?_)
    · refine ⟨_, rfl, .ref p, rfl, .int h, rfl, _, rfl, _, _, rfl, rfl, p, _, h - re, _, rfl, by omega, by omega, by omega, A4, fun du H5 du0 du1 k5 A5 => ⟨_, _, rfl, rfl, ?_⟩⟩
      have kd := k04.trans k5
      have td : Tr C H5 (V.int (re + du)) (.int (re + du)) := .int _
      have sd : Sm 20 1000000 1 0 (.int (re + du)) := Sm.int (by omega)
      have vd : (isNone (.int (re + du)) || isWh re (h - 1) (.int (re + du))) = true := isWh_ok (by omega) (by omega)
      refine ⟨.ref p, rfl, p, _, 4, _, rfl, by decide, by decide, by omega, A5, fun w1 H6 w10 w11 k6 A6 => ⟨_, _, rfl, rfl, ?_⟩⟩
      refine ⟨.ref p, rfl, p, _, 30, _, rfl, by decide, by decide, by omega, A6, fun w2 H7 w20 w21 k7 A7 => ⟨_, _, rfl, rfl, ?_⟩⟩
      refine ⟨.ref p, rfl, p, _, 9999, _, rfl, by decide, by decide, by omega, A7, fun w3 H8 w30 w31 k8 A8 => ⟨_, _, rfl, rfl, len_ok, fun L hL => ?_⟩⟩
      obtain ⟨k9, e9, t9⟩ := mk_lst A8.al (.cons (.int (1 + w1)) (.cons (.int (1 + w2)) (.cons (.int (1 + w3)) (.cons (.int 9999) .nil)))) hL
      have A9 := A8.kx k9
      generalize upd H8 L (.lst [V.int (1 + w1), V.int (1 + w2), V.int (1 + w3), V.int 9999]) = H9 at k9 e9 t9 A9 ⊢
      refine ⟨.ref p, rfl, p, _, 6, _, rfl, by decide, by decide, by omega, A9, fun ho HA ho0 ho1 kA AA => ?_⟩
      refine ⟨.ref p, rfl, .int c, rfl, p, _, c, _, rfl, by omega, by omega, by omega, AA, fun cr HB cr0 cr1 kB AB => ?_⟩
      refine ⟨_, rfl, _, rfl, .ref L, rfl, .ref p, rfl, p, _, 4, _, rfl, by decide, by decide, by omega, AB, fun wi HC wi0 wi1 kC AC => ?_⟩
      have kk := (kA.trans kB).trans kC
      obtain ⟨ys, ey, ty⟩ := (A9.tr t9 kk).items
      obtain ⟨v, d, a1, a2, a3⟩ := pick ty wi0 (by have := ty.length; simp at this; omega)
      have gd : Sm 20 1000000 1 0 d ∧ isWh 1 9999 d = true := by
        simp only [List.mem_cons, List.mem_singleton, List.not_mem_nil, or_false] at a3
        rcases a3 with rfl | rfl | rfl | rfl <;> exact ⟨Sm.int (by omega), isWh_ok (by omega) (by omega)⟩
      have k5C : Kx [p] H5 HC := k6.trans (k7.trans (k8.trans (k9.of.trans kk)))
      refine ⟨L, ys, wi, v, rfl, rfl, SqL.of ey, a1, len_ok, fun T hT => ?_⟩
      obtain ⟨kT, eT, tT⟩ := mk_tup AC.al (.cons (.int ho) (.cons (.int cr) (.cons (.int re) (.cons (A5.tr td k5C) (.cons a2 .nil))))) hT
      have AT := AC.kx kT
      refine q _ _ _ (kd.trans (k5C.trans kT.of)) (AT.mono (by omega)) tT ⟨Sm.tuple (N := 5) (S := 1) (D := 0) (fun d hd => ?_) (by simp) (by decide), block_ok ho0 ho1 cr0 cr1 re0 re1 vd gd.2⟩
      simp only [List.mem_cons, List.mem_singleton, List.not_mem_nil, or_false] at hd
      rcases hd with rfl | rfl | rfl | rfl | rfl
      · exact Sm.int (by omega)
      · exact Sm.int (by omega)
      · exact Sm.int (by omega)
      · exact sd
      · exact gd.1
    · have td : Tr C H4 V.non .none := .non
      have sd : Sm 20 1000000 1 0 .none := Sm.none
      have vd : (isNone .none || isWh re (h - 1) .none) = true := rfl
      have kd := k04
      have A5 := A4
      have h5 : ∃ H5, H5 = H4 := ⟨_, rfl⟩
      obtain ⟨H5, e5⟩ := h5
      rw [← e5] at kd A5 td ⊢
      refine ⟨.ref p, rfl, p, _, 4, _, rfl, by decide, by decide, by omega, A5, fun w1 H6 w10 w11 k6 A6 => ⟨_, _, rfl, rfl, ?_⟩⟩
      refine ⟨.ref p, rfl, p, _, 30, _, rfl, by decide, by decide, by omega, A6, fun w2 H7 w20 w21 k7 A7 => ⟨_, _, rfl, rfl, ?_⟩⟩
      refine ⟨.ref p, rfl, p, _, 9999, _, rfl, by decide, by decide, by omega, A7, fun w3 H8 w30 w31 k8 A8 => ⟨_, _, rfl, rfl, len_ok, fun L hL => ?_⟩⟩
      obtain ⟨k9, e9, t9⟩ := mk_lst A8.al (.cons (.int (1 + w1)) (.cons (.int (1 + w2)) (.cons (.int (1 + w3)) (.cons (.int 9999) .nil)))) hL
      have A9 := A8.kx k9
      generalize upd H8 L (.lst [V.int (1 + w1), V.int (1 + w2), V.int (1 + w3), V.int 9999]) = H9 at k9 e9 t9 A9 ⊢
      refine ⟨.ref p, rfl, p, _, 6, _, rfl, by decide, by decide, by omega, A9, fun ho HA ho0 ho1 kA AA => ?_⟩
      refine ⟨.ref p, rfl, .int c, rfl, p, _, c, _, rfl, by omega, by omega, by omega, AA, fun cr HB cr0 cr1 kB AB => ?_⟩
      refine ⟨_, rfl, _, rfl, .ref L, rfl, .ref p, rfl, p, _, 4, _, rfl, by decide, by decide, by omega, AB, fun wi HC wi0 wi1 kC AC => ?_⟩
      have kk := (kA.trans kB).trans kC
      obtain ⟨ys, ey, ty⟩ := (A9.tr t9 kk).items
      obtain ⟨v, d, a1, a2, a3⟩ := pick ty wi0 (by have := ty.length; simp at this; omega)
      have gd : Sm 20 1000000 1 0 d ∧ isWh 1 9999 d = true := by
        simp only [List.mem_cons, List.mem_singleton, List.not_mem_nil, or_false] at a3
        rcases a3 with rfl | rfl | rfl | rfl <;> exact ⟨Sm.int (by omega), isWh_ok (by omega) (by omega)⟩
      have k5C : Kx [p] H5 HC := k6.trans (k7.trans (k8.trans (k9.of.trans kk)))
      refine ⟨L, ys, wi, v, rfl, rfl, SqL.of ey, a1, len_ok, fun T hT => ?_⟩
      obtain ⟨kT, eT, tT⟩ := mk_tup AC.al (.cons (.int ho) (.cons (.int cr) (.cons (.int re) (.cons (A5.tr td k5C) (.cons a2 .nil))))) hT
      have AT := AC.kx kT
      refine q _ _ _ (kd.trans (k5C.trans kT.of)) (AT.mono (by omega)) tT ⟨Sm.tuple (N := 5) (S := 1) (D := 0) (fun d hd => ?_) (by simp) (by decide), block_ok ho0 ho1 cr0 cr1 re0 re1 vd gd.2⟩
      simp only [List.mem_cons, List.mem_singleton, List.not_mem_nil, or_false] at hd
      rcases hd with rfl | rfl | rfl | rfl | rfl
      · exact Sm.int (by omega)
      · exact Sm.int (by omega)
      · exact Sm.int (by omega)
      · exact sd
      · exact gd.1
/-- a drawn day -/
structure DayG (most blocks : Int) (d : PyData) : Prop where
  ex : ∃ (h : Int) (sts sis ask bls : List PyData), d = .tuple [.int h, .list sts, .list sis, .list ask, .list bls] ∧ 1 ≤ h ∧ h ≤ most ∧ 1 ≤ sts.length ∧ sts.length ≤ 4 ∧ 1 ≤ sis.length ∧ sis.length ≤ 3 ∧ ask.length = sis.length ∧ (bls.length : Int) ≤ blocks ∧
    (∀ d ∈ sts, Sm 20 1000000 1 0 d) ∧ (∀ d ∈ sis, Sm 20 1000000 51 2 d) ∧ (∀ d ∈ ask, Sm 20 1000000 1 0 d) ∧ (∀ d ∈ bls, Sm 20 1000000 6 1 d) ∧ isDayB d = true
def sp_law_day (Ts : List Addr) : Sp := fun vs H Q _ => ∃ (p : Addr) (n : Nat) (C : List Addr) (most blocks : Int), vs = [.ref p, .int most, .int blocks] ∧ 1 ≤ most ∧ most ≤ 10 ∧ 0 ≤ blocks ∧ blocks ≤ 14 ∧ n ≤ 800000000000 ∧ At Ts C p n H ∧ Draws Ts C p n 10000 (DayG most blocks) H Q
theorem ok__law_day (Y : Facts K mg base fa fd ca ta) : FnOk P w K mg base CX0 3 (fa "_law_day") (fd "_law_day") ["purse", "most", "blocks"] (sp_law_day (Ts ta)) := by
  refine Y.d__law_day.ok sc__law_day (fun vs H Q E h => ?_) (fun cdv A outer s H vs Q E hcd hr h => ?_)
  · obtain ⟨p, n, C, h, c, rfl, _⟩ := h; rfl
  · obtain ⟨p, n, C, most, blocks, rfl, m1, m2, b1, b2, hn, hA, q⟩ := h
    refine ⟨_, (pss_cons (ps_set (i := 3) sc__law_day.nd rfl (by first | exact Or.inl rfl | exact Or.inr rfl) (pe_callTy call_int1 (by rfl) Y.b.int (by decide +kernel) (pa_cons (pe_cmpR op_eq (pe_call (ok__law_coin Y) (hr.mono (by decide)) (by rfl) Y.d__law_coin.g Y.d__law_coin.kp Y.d__law_coin.b .nil pass0 (pa_cons (pv 0) (pa_cons pe_int pa_nil))) pe_int (nomark _)) pa_nil)))
      (pss_cons (ps_set (i := 4) sc__law_day.nd rfl (by first | exact Or.inl rfl | exact Or.inr rfl) (pe_ix (ix_listK K rfl) (pe_lst (pa_cons (pe_op op_add pe_int (pe_call (ok__law_coin Y) (hr.mono (by decide)) (by rfl) Y.d__law_coin.g Y.d__law_coin.kp Y.d__law_coin.b .nil pass0 (pa_cons (pv 0) (pa_cons (pv 1) pa_nil)))) (pa_cons (pv 1) pa_nil))) (pv 3) (fun _ _ => rfl)))
      (pss_cons (ps_set (i := 5) sc__law_day.nd rfl (by first | exact Or.inl rfl | exact Or.inr rfl) (pe_ix (ix_listK K rfl) (pe_lst (pa_cons (pe_op op_add pe_int (pe_call (ok__law_coin Y) (hr.mono (by decide)) (by rfl) Y.d__law_coin.g Y.d__law_coin.kp Y.d__law_coin.b .nil pass0 (pa_cons (pv 0) (pa_cons pe_int pa_nil)))) (pa_cons (pe_op op_add pe_int (pe_call (ok__law_coin Y) (hr.mono (by decide)) (by rfl) Y.d__law_coin.g Y.d__law_coin.kp Y.d__law_coin.b .nil pass0 (pa_cons (pv 0) (pa_cons pe_int pa_nil)))) pa_nil))) (pe_call (ok__law_coin Y) (hr.mono (by decide)) (by rfl) Y.d__law_coin.g Y.d__law_coin.kp Y.d__law_coin.b .nil pass0 (pa_cons (pv 0) (pa_cons pe_int pa_nil))) (fun _ _ => rfl)))
      (pss_cons (ps_setLc (i := 6) (own := [("one", 11)]) (g := gName 11) (tt := tYes) rfl sc__law_day.nd rfl rfl (sw_true rfl rfl rfl (by decide +kernel)) (pi_range1 (by rfl) Y.b.range (pa_cons (pv 5) pa_nil)) (blkOk_by (N := ["purse", "most", "blocks", "full", "hours", "craft", "stores", "dishes", "sights", "asks", "many", "one", "dish"]) (sc := defScope s__law_day) (by decide +kernel)) (fun _ _ _ _ _ => (pg_name (i := 11) sc__law_day.nd rfl (by first | exact Or.inl rfl | exact Or.inr rfl))) (fun _ _ _ _ _ => pts_nil) (fun _ _ _ _ _ => (pe_ix (ix_listK K rfl) (pe_lst (pa_cons pe_int (pa_cons pe_int (pa_cons pe_int (pa_cons pe_int (pa_cons (pe_call (ok__law_coin Y) (hr.mono (by decide)) (by rfl) Y.d__law_coin.g Y.d__law_coin.kp Y.d__law_coin.b .nil pass0 (pa_cons (pv 0) (pa_cons pe_int pa_nil))) (pa_cons pe_int pa_nil))))))) (pe_call (ok__law_coin Y) (hr.mono (by decide)) (by rfl) Y.d__law_coin.g Y.d__law_coin.kp Y.d__law_coin.b .nil pass0 (pa_cons (pv 0) (pa_cons pe_int pa_nil))) (fun _ _ => rfl))))
      (pss_cons (ps_set (i := 7) sc__law_day.nd rfl (by first | exact Or.inl rfl | exact Or.inr rfl) (pe_ix (ix_listK K rfl) (pe_lst (pa_cons pe_int (pa_cons pe_int (pa_cons (pe_op op_add pe_int (pe_call (ok__law_coin Y) (hr.mono (by decide)) (by rfl) Y.d__law_coin.g Y.d__law_coin.kp Y.d__law_coin.b .nil pass0 (pa_cons (pv 0) (pa_cons pe_int pa_nil)))) pa_nil)))) (pe_call (ok__law_coin Y) (hr.mono (by decide)) (by rfl) Y.d__law_coin.g Y.d__law_coin.kp Y.d__law_coin.b .nil pass0 (pa_cons (pv 0) (pa_cons pe_int pa_nil))) (fun _ _ => rfl)))
      (pss_cons (ps_setLc (i := 8) (own := [("dish", 12)]) (g := gName 12) (tt := tYes) rfl sc__law_day.nd rfl rfl (sw_true rfl rfl rfl (by decide +kernel)) (pi_range1 (by rfl) Y.b.range (pa_cons (pv 7) pa_nil)) (blkOk_by (N := ["purse", "most", "blocks", "full", "hours", "craft", "stores", "dishes", "sights", "asks", "many", "one", "dish"]) (sc := defScope s__law_day) (by decide +kernel)) (fun _ _ _ _ _ => (pg_name (i := 12) sc__law_day.nd rfl (by first | exact Or.inl rfl | exact Or.inr rfl))) (fun _ _ _ _ _ => pts_nil) (fun _ _ _ _ _ => (pe_call (ok__law_sight Y) (hr.mono (by decide)) (by rfl) Y.d__law_sight.g Y.d__law_sight.kp Y.d__law_sight.b .nil pass0 (pa_cons (pv 0) (pa_cons (pv 4) (pa_cons (pv 5) pa_nil))))))
      (pss_cons (ps_setLc (i := 9) (own := [("dish", 12)]) (g := gName 12) (tt := tYes) rfl sc__law_day.nd rfl rfl (sw_true rfl rfl rfl (by decide +kernel)) (pi_listK K rfl (pv 8)) (blkOk_by (N := ["purse", "most", "blocks", "full", "hours", "craft", "stores", "dishes", "sights", "asks", "many", "one", "dish"]) (sc := defScope s__law_day) (by decide +kernel)) (fun _ _ _ _ _ => (pg_name (i := 12) sc__law_day.nd rfl (by first | exact Or.inl rfl | exact Or.inr rfl))) (fun _ _ _ _ _ => pts_nil) (fun _ _ _ _ _ => (pe_ix (ix_listK K rfl) (pe_lst (pa_cons pe_non (pa_cons pe_non (pa_cons (pe_call (ok__law_coin Y) (hr.mono (by decide)) (by rfl) Y.d__law_coin.g Y.d__law_coin.kp Y.d__law_coin.b .nil pass0 (pa_cons (pv 0) (pa_cons pe_int pa_nil))) (pa_cons (pe_call (ok__law_coin Y) (hr.mono (by decide)) (by rfl) Y.d__law_coin.g Y.d__law_coin.kp Y.d__law_coin.b .nil pass0 (pa_cons (pv 0) (pa_cons pe_int pa_nil))) (pa_cons pe_int pa_nil)))))) (pe_call (ok__law_coin Y) (hr.mono (by decide)) (by rfl) Y.d__law_coin.g Y.d__law_coin.kp Y.d__law_coin.b .nil pass0 (pa_cons (pv 0) (pa_cons pe_int pa_nil))) (fun _ _ => rfl))))
      (pss_cons (ps_set (i := 10) sc__law_day.nd rfl (by first | exact Or.inl rfl | exact Or.inr rfl) (pe_ix (ix_listK K rfl) (pe_lst (pa_cons (pe_call (ok__law_coin Y) (hr.mono (by decide)) (by rfl) Y.d__law_coin.g Y.d__law_coin.kp Y.d__law_coin.b .nil pass0 (pa_cons (pv 0) (pa_cons (pe_op op_add (pv 2) pe_int) pa_nil))) (pa_cons (pv 2) pa_nil))) (pv 3) (fun _ _ => rfl)))
      (pss_one (ps_ret (pe_tup (pa_cons (pv 4) (pa_cons (pv 6) (pa_cons (pv 8) (pa_cons (pv 9) (pa_cons (pe_lc (own := [("one", 11)]) (g := gName 11) (tt := tYes) rfl sc__law_day.nd (pi_range1 (by rfl) Y.b.range (pa_cons (pv 10) pa_nil)) (blkOk_by (N := ["purse", "most", "blocks", "full", "hours", "craft", "stores", "dishes", "sights", "asks", "many", "one", "dish"]) (sc := defScope s__law_day) (by decide +kernel)) (fun _ _ _ _ _ => (pg_name (i := 11) sc__law_day.nd rfl (by first | exact Or.inl rfl | exact Or.inr rfl))) (fun _ _ _ _ _ => pts_nil) (fun _ _ _ _ _ => (pe_call (ok__law_block Y) (hr.mono (by decide)) (by rfl) Y.d__law_block.g Y.d__law_block.kp Y.d__law_block.b .nil pass0 (pa_cons (pv 0) (pa_cons (pv 4) (pa_cons (pv 5) pa_nil)))))) pa_nil)))))))))))))))), ?_⟩
    -- full
    refine ⟨.ref p, rfl, p, _, 8, _, rfl, by decide, by decide, by omega, hA, fun z H1 z0 z1 k1 A1 => ⟨rfl, .inr ⟨_, rfl, ?_⟩⟩⟩
    have ff : 0 ≤ (if decide (V.int z = V.int 0) = true then (1 : Int) else 0) ∧ (if decide (V.int z = V.int 0) = true then (1 : Int) else 0) < 2 := by split <;> omega
    generalize (if decide (V.int z = V.int 0) = true then (1 : Int) else 0) = f at ff ⊢
    -- hours
    refine ⟨.ref p, rfl, .int most, rfl, p, _, most, _, rfl, by omega, by omega, by omega, A1, fun r H2 r0 r1 k2 A2 => ⟨_, _, rfl, rfl, _, rfl, len_ok, fun L hL => ?_⟩⟩
    generalize hq3 : upd H2 L _ = H3
    obtain ⟨k3, e3⟩ := new_at hL hq3
    clear hq3
    have A3 := A2.kx k3
    obtain ⟨hh, a3, i3⟩ := pickI (ns := [1 + r, most]) ff.1 (by simpa using ff.2)
    have h1 : 1 ≤ hh ∧ hh ≤ most := by
      simp only [List.mem_cons, List.mem_singleton, List.not_mem_nil, or_false] at i3
      omega
    refine ⟨_, rfl, L, _, f, _, rfl, rfl, SqL.of e3, a3, ?_⟩
    -- craft
    refine ⟨.ref p, rfl, p, _, 2, _, rfl, by decide, by decide, by omega, A3, fun x1 H4 x10 x11 k4 A4 => ⟨_, _, rfl, rfl, .ref p, rfl, p, _, 4, _, rfl, by decide, by decide, by omega, A4, fun x2 H5 x20 x21 k5 A5 => ⟨_, _, rfl, rfl, len_ok, fun L2 hL2 => ?_⟩⟩⟩
    generalize hq6 : upd H5 L2 _ = H6
    obtain ⟨k6, e6⟩ := new_at hL2 hq6
    clear hq6
    have A6 := A5.kx k6
    refine ⟨.ref p, rfl, p, _, 2, _, rfl, by decide, by decide, by omega, A6, fun ci H7 i0 i1 k7 A7 => ?_⟩
    obtain ⟨cr, a7, i7⟩ := pickI (ns := [1 + x1, 1 + x2]) i0 (by simpa using i1)
    have c1 : 1 ≤ cr ∧ cr ≤ 4 := by
      simp only [List.mem_cons, List.mem_singleton, List.not_mem_nil, or_false] at i7
      omega
    refine ⟨L2, _, ci, _, rfl, rfl, SqL.of (k7.lst (A5.nep hL2) e6), a7, ?_⟩
    have k07 : Kx [p] H H7 := k1.trans (k2.trans (k3.of.trans (k4.trans (k5.trans (k6.of.trans k7)))))
    -- stores
    refine st_name ?_
    dsimp only
    refine st_set (lc_use ?_)
    refine ⟨_, rfl, cr, rfl, by omega, by omega, ?_⟩
    refine lc_pu (itr_at cr.toNat) (by omega) 2 (fun d => Sm 20 1000000 1 0 d ∧ isWh 0 5 d = true) true A7 (fun D i Hs hD hi ks As R R0 hR hR0 => ?_) fun DS sts H8 k8 A8 tS _ xS gS => ?_
    · refine ⟨rfl, st_yes ⟨.ref p, rfl, p, _, 6, _, rfl, by decide, by decide, by omega, As, fun x Ht x0 x1 kt At => ⟨len_ok, fun L3 hL3 => ?_⟩⟩⟩
      generalize hqu : upd Ht L3 _ = Hu
      obtain ⟨ku, eu⟩ := new_at hL3 hqu
      clear hqu
      refine ⟨.ref p, rfl, p, _, 6, _, rfl, by decide, by decide, by omega, At.kx ku, fun y Hv y0 y1 kv Av => ?_⟩
      obtain ⟨st, av, iv⟩ := pickI (ns := [0, 1, 1, 2, x, 5]) y0 (by simpa using y1)
      have s1 : 0 ≤ st ∧ st ≤ 5 := by
        simp only [List.mem_cons, List.mem_singleton, List.not_mem_nil, or_false] at iv
        omega
      exact ⟨L3, _, y, _, rfl, rfl, SqL.of (kv.lst (At.nep hL3) eu), av, hR _ _ Hv (kt.trans (ku.of.trans kv)) (Av.mono (by omega)) (.int _) ⟨Sm.int (by omega), isWh_ok s1.1 s1.2⟩⟩
    have lS := xS rfl
    clear xS
    -- dishes
    refine ⟨.ref p, rfl, p, _, 3, _, rfl, by decide, by decide, by omega, A8, fun x3 H9 x30 x31 k9 A9 => ⟨_, _, rfl, rfl, len_ok, fun L4 hL4 => ?_⟩⟩
    generalize hqa : upd H9 L4 _ = Ha
    obtain ⟨ka, ea⟩ := new_at hL4 hqa
    clear hqa
    refine ⟨.ref p, rfl, p, _, 3, _, rfl, by decide, by decide, by omega, A9.kx ka, fun di Hb i0' i1' kb Ab => ?_⟩
    obtain ⟨ds, ab, ib⟩ := pickI (ns := [1, 2, 1 + x3]) i0' (by simpa using i1')
    have d1 : 1 ≤ ds ∧ ds ≤ 3 := by
      simp only [List.mem_cons, List.mem_singleton, List.not_mem_nil, or_false] at ib
      omega
    refine ⟨L4, _, di, _, rfl, rfl, SqL.of (kb.lst (A9.nep hL4) ea), ab, ?_⟩
    have k8b : Kx [p] H8 Hb := k9.trans (ka.of.trans kb)
    -- sights
    refine st_name ?_
    dsimp only
    refine st_set (lc_use ?_)
    refine ⟨_, rfl, ds, rfl, by omega, by omega, ?_⟩
    refine lc_pu (itr_at ds.toNat) (by omega) 1000 (fun d => Sm 20 1000000 51 2 d ∧ sightB hh cr d = true) true Ab (fun D i Hs hD hi ks As R R0 hR hR0 => ?_) fun DI sis Hc kc Ac tI _ xI gI => ?_
    · exact ⟨rfl, st_yes ⟨.ref p, rfl, .int hh, rfl, .int cr, rfl, p, _, _, hh, cr, rfl, h1.1, by omega, c1.1, c1.2, by omega, As, fun v d H' k A t g => hR v d H' k (A.mono (by omega)) t g⟩⟩
    have lI := xI rfl
    clear xI
    -- asks
    obtain ⟨xs, eI, tI2⟩ := tI.items
    have lx := tI2.length
    refine st_set (lc_use ⟨_, rfl, DI, rfl, ⟨xs, SqL.of eI⟩, ?_⟩)
    have nDI := Ac.nepT tI
    refine lc_pu (itl_at eI nDI) (by omega) 3 (fun d => Sm 20 1000000 1 0 d ∧ (isNone d || isWh 0 999 d) = true) true Ac (fun D i Hs hD hi ks As R R0 hR hR0 => ?_) fun DA ask Hd kd Ad tA _ xA gA => ?_
    · refine ⟨rfl, st_yes ⟨.ref p, rfl, p, _, 6, _, rfl, by decide, by decide, by omega, As, fun x Ht x0 x1 kt At => ?_⟩⟩
      refine ⟨.ref p, rfl, p, _, 1000, _, rfl, by decide, by decide, by omega, At, fun x' Hu x0' x1' ku Au => ⟨len_ok, fun L3 hL3 => ?_⟩⟩
      generalize hqv : upd Hu L3 _ = Hv
      obtain ⟨kv, ev⟩ := new_at hL3 hqv
      clear hqv
      have Av := Au.kx kv
      refine ⟨.ref p, rfl, p, _, 5, _, rfl, by decide, by decide, by omega, Av, fun y Hw y0 y1 kw Aw => ?_⟩
      obtain ⟨v, d, a1, a2, a3⟩ := pick (C := D :: C) (H := Hw) (xs := [.non, .non, .int x, .int x', .int 999]) (.cons .non (.cons .non (.cons (.int x) (.cons (.int x') (.cons (.int 999) .nil))))) y0 (by simpa using y1)
      have gd : Sm 20 1000000 1 0 d ∧ (isNone d || isWh 0 999 d) = true := by
        simp only [List.mem_cons, List.mem_singleton, List.not_mem_nil, or_false] at a3
        rcases a3 with rfl | rfl | rfl | rfl | rfl
        · exact ⟨Sm.none, rfl⟩
        · exact ⟨Sm.none, rfl⟩
        · exact ⟨Sm.int (by omega), isWh_ok (by omega) (by omega)⟩
        · exact ⟨Sm.int (by omega), isWh_ok (by omega) (by omega)⟩
        · exact ⟨Sm.int (by decide), by decide⟩
      exact ⟨L3, _, y, v, rfl, rfl, SqL.of (kw.lst (Au.nep hL3) ev), a1, hR _ _ Hw (kt.trans (ku.trans (kv.of.trans kw))) (Aw.mono (by omega)) a2 gd⟩
    have lA := xA rfl
    clear xA
    -- many
    refine ⟨.ref p, rfl, .int blocks, rfl, _, _, rfl, rfl, p, _, blocks + 1, _, rfl, by omega, by omega, by omega, Ad, fun x4 He x40 x41 ke Ae => ⟨_, rfl, len_ok, fun L5 hL5 => ?_⟩⟩
    generalize hqf : upd He L5 _ = Hf
    obtain ⟨kf, ef⟩ := new_at hL5 hqf
    clear hqf
    have Af := Ae.kx kf
    obtain ⟨my, af, jf⟩ := pickI (ns := [x4, blocks]) ff.1 (by simpa using ff.2)
    have m1' : 0 ≤ my ∧ my ≤ blocks := by
      simp only [List.mem_cons, List.mem_singleton, List.not_mem_nil, or_false] at jf
      omega
    refine ⟨_, rfl, L5, _, f, _, rfl, rfl, SqL.of ef, af, ?_⟩
    -- the tuple
    refine ⟨_, rfl, _, rfl, _, rfl, _, rfl, lc_use ⟨_, rfl, my, rfl, by omega, by omega, ?_⟩⟩
    refine lc_pu (itr_at my.toNat) (by omega) 20 (fun d => Sm 20 1000000 6 1 d ∧ blockB hh cr d = true) true Af (fun D i Hs hD hi ks As R R0 hR hR0 => ?_) fun DB bls Hg kg Ag tB _ xB gB => ?_
    · exact ⟨rfl, st_yes ⟨.ref p, rfl, .int hh, rfl, .int cr, rfl, p, _, _, hh, cr, rfl, h1.1, by omega, c1.1, c1.2, by omega, As, fun v d H' k A t g => hR v d H' k (A.mono (by omega)) t g⟩⟩
    have lB := xB rfl
    refine ⟨len_ok, fun T hT => ?_⟩
    have kcg : Kx [p] Hc Hg := kd.trans (ke.trans (kf.of.trans kg))
    have kdg : Kx [p] Hd Hg := ke.trans (kf.of.trans kg)
    have k8g : Kx [p] H8 Hg := k8b.trans (kc.trans kcg)
    obtain ⟨kT, eT, tT⟩ := mk_tup Ag.al (.cons (.int hh) (.cons (A8.tr tS k8g) (.cons (Ac.tr tI kcg) (.cons (Ad.tr tA kdg) (.cons tB .nil))))) hT
    refine q _ _ _ (k07.trans (k8.trans (k8g.trans kT.of))) ((Ag.kx kT).mono (by omega)) tT ⟨hh, sts, sis, ask, bls, rfl, h1.1, h1.2, by omega, by omega, by omega, by omega, by omega, by omega, fun d hd => (gS d hd).1, fun d hd => (gI d hd).1, fun d hd => (gA d hd).1, fun d hd => (gB d hd).1, ?_⟩
    have lcr : (sts.length : Int) = cr := by omega
    have lai : (ask.length : Int) = (sis.length : Int) := by omega
    show (isWh 1 10 (.int hh) && ((isLs 1 4 (.list sts) && sts.all (isWh 0 5)) && ((isLs 1 3 (.list sis) && sis.all (sightB hh (sts.length : Int))) && ((isLs (sis.length : Int) (sis.length : Int) (.list ask) && ask.all (fun a => isNone a || isWh 0 999 a)) && (isLs 0 14 (.list bls) && bls.all (blockB hh (sts.length : Int))))))) = true
    rw [lcr, isWh_ok (by omega) (by omega), isLs_ok (by omega) (by omega), isLs_ok (by omega) (by omega), isLs_ok (by omega) (by omega), isLs_ok (by omega) (by omega), List.all_eq_true.mpr fun d hd => (gS d hd).2, List.all_eq_true.mpr fun d hd => (gI d hd).2, List.all_eq_true.mpr fun d hd => (gA d hd).2, List.all_eq_true.mpr fun d hd => (gB d hd).2]
    rfl
end
end Law

set_option Elab.async false
set_option linter.all false
set_option maxRecDepth 100000
set_option maxHeartbeats 4000000
namespace Law
open PySem PySem.Spec PyProof.Rows L2 GxR GX Tree Kit Data Loops Loops2 Comps Purse Day SetG SetL Lit Sets Ib Small
/-! ### sizes -/
theorem day_sm {d : PyData} {most blocks : Int} (hm : most ≤ 10) (hb : blocks ≤ 14) (g : DayG most blocks d) : Sm 20 1000000 400 4 d := by
  obtain ⟨hh, sts, sis, ask, bls, rfl, h1, h2, s1, s2, i1, i2, a1, b1, g1, g2, g3, g4, -⟩ := g
  have l1 := Sm.list g1 (show sts.length ≤ 5 by omega) (by decide)
  have l2 := Sm.list g2 (show sis.length ≤ 4 by omega) (by decide)
  have l3 := Sm.list g3 (show ask.length ≤ 4 by omega) (by decide)
  have l4 := Sm.list g4 (show bls.length ≤ 15 by omega) (by decide)
  have l0 : Sm 20 1000000 1 0 (.int hh) := Sm.int (by omega)
  refine Sm.mkTuple (by simp) ?_ (fun d hd => ?_) (by decide)
  · have := l1.sz
    have := l2.sz
    have := l3.sz
    have := l4.sz
    have := l0.sz
    simp only [szAll]
    omega
  · simp only [List.mem_cons, List.mem_singleton, List.not_mem_nil, or_false] at hd
    rcases hd with rfl | rfl | rfl | rfl | rfl
    · exact ⟨l0.bd, by have := l0.dp; omega⟩
    · exact ⟨l1.bd, by have := l1.dp; omega⟩
    · exact ⟨l2.bd, by have := l2.dp; omega⟩
    · exact ⟨l3.bd, by have := l3.dp; omega⟩
    · exact ⟨l4.bd, by have := l4.dp; omega⟩
theorem day_typedT {d : PyData} {most blocks : Int} (hm : most ≤ 10) (hb : blocks ≤ 14) (g : DayG most blocks d) : ∃ D, d = dayD D ∧ DyOk D ∧ isDayB (dayD D) = true ∧ sz (dayD D) ≤ 100000 ∧ Sm 20 1000000 400 4 (dayD D) := by
  have hs := day_sm hm hb g
  obtain ⟨hh, sts, sis, ask, bls, e, h1, h2, s1, s2, i1, i2, a1, b1, g1, g2, g3, g4, gd⟩ := g
  obtain ⟨D, eD, hD⟩ := day_of gd
  rw [eD] at hs gd
  exact ⟨D, eD, hD, gd, Nat.le_trans hs.sz (by decide), hs⟩
end Law

set_option Elab.async false
set_option linter.all false
set_option maxRecDepth 100000
set_option maxHeartbeats 4000000
namespace Law
open PySem PySem.Spec PyProof.Rows L2 GxR GX Tree Kit Data Loops Loops2 Comps Purse Day SetG SetL Loops3 Obj Enum Wipe Txts Lit Ib Sep Sets Small Shown
/-! ### a typed day is a day -/
theorem and_mk {a b : Bool} (h1 : a = true) (h2 : b = true) : (a && b) = true := by rw [h1, h2]; rfl
theorem all_map_ok {α : Type} {f : α → PyData} {g : PyData → Bool} {l : List α} (h : ∀ a ∈ l, g (f a) = true) : (l.map f).all g = true := by
  rw [List.all_map]
  exact List.all_eq_true.mpr h
theorem isLs_mk {lo hi : Int} {xs : List PyData} (h1 : lo ≤ (xs.length : Int)) (h2 : (xs.length : Int) ≤ hi) : isLs lo hi (.list xs) = true := and_mk (decide_eq_true h1) (decide_eq_true h2)
theorem isDayB_ok {D : Dy} (h : DyOk D) : isDayB (dayD D) = true := by
  have s0 := h.s0
  have s1 := h.s1
  have g0 := h.g0
  have g1 := h.g1
  have bl := h.bl
  have al := h.al
  have lS : lenD (.list (D.stores.map PyData.int)) = (D.stores.length : Int) := by show (((D.stores.map PyData.int).length : Nat) : Int) = _; rw [List.length_map]
  have lI : lenD (.list (D.sights.map sightD)) = (D.sights.length : Int) := by show (((D.sights.map sightD).length : Nat) : Int) = _; rw [List.length_map]
  show (isWh 1 10 (.int D.hours) && (storesB (.list (D.stores.map .int)) && (sightsB D.hours (lenD (.list (D.stores.map .int))) (.list (D.sights.map sightD)) && (asksB (lenD (.list (D.sights.map sightD))) (.list (D.asks.map optD)) && blocksB D.hours (lenD (.list (D.stores.map .int))) (.list (D.blocks.map blkD)))))) = true
  rw [lS, lI]
  refine and_mk (isWh_mk h.t0 h.t1) (and_mk ?_ (and_mk ?_ (and_mk ?_ ?_)))
  · exact and_mk (isLs_mk (by rw [List.length_map]; omega) (by rw [List.length_map]; omega)) (all_map_ok fun n hn => isWh_mk (h.sb n hn).1 (h.sb n hn).2)
  · refine and_mk (isLs_mk (by rw [List.length_map]; omega) (by rw [List.length_map]; omega)) (all_map_ok fun s hs => ?_)
    refine and_mk (isLs_mk (by rw [List.length_map, h.gl s hs]; omega) (by rw [List.length_map, h.gl s hs]; omega)) (all_map_ok fun r hr => ?_)
    have o := h.gr s hs r hr
    refine and_mk (all_map_ok fun n hn => isWh_mk (o.bd n hn).1 (by have := (o.bd n hn).2; omega)) ?_
    rw [ints_back]
    exact decide_eq_true o.up
  · refine and_mk (isLs_mk (by rw [List.length_map]; omega) (by rw [List.length_map]; omega)) (all_map_ok fun a ha => ?_)
    cases a with
    | none => rfl
    | some i =>
      have := h.ab i ha
      show (false || isWh 0 999 (.int i)) = true
      rw [isWh_mk this.1 this.2]
      rfl
  · refine and_mk (isLs_mk (by rw [List.length_map]; omega) (by rw [List.length_map]; omega)) (all_map_ok fun b hb => ?_)
    have o := h.bb b hb
    have w0 := o.w0
    refine (blk5 (.int b.house) (.int b.craft) (.int b.ready) (optD b.due) (.int b.worth)).trans ?_
    refine and_mk (isWh_mk o.h0 o.h1) (and_mk (isWh_mk o.c0 (by have := o.c1; omega)) (and_mk (isWh_mk o.r0 (by have := o.r1; omega)) (and_mk ?_ (isWh_mk o.w0 o.w1))))
    cases hd : b.due with
    | none => rfl
    | some u =>
      have := o.du u hd
      show (false || (true && isWh b.ready (D.hours - 1) (.int u))) = true
      rw [isWh_mk this.1 (by omega)]
      rfl
theorem dy_sm {D : Dy} (h : DyOk D) : Sm 20 1000000 400 4 (dayD D) := by
  have t0 := h.t0
  have t1 := h.t1
  have s1 := h.s1
  have g1 := h.g1
  have a1 := h.al
  have b1 := h.bl
  have iS : ∀ {i : Int}, 0 ≤ i → i ≤ 9999 → Sm 20 1000000 1 0 (.int i) := fun h1 h2 => Sm.int (by omega)
  have oS : ∀ {o : Option Int}, (∀ i, o = some i → 0 ≤ i ∧ i ≤ 9999) → Sm 20 1000000 1 0 (optD o) := fun {o} ho => by
    cases o with
    | none => exact Sm.none
    | some i => exact iS (ho i rfl).1 (ho i rfl).2
  have gS : ∀ d ∈ D.stores.map PyData.int, Sm 20 1000000 1 0 d := fun d hd => by
    obtain ⟨n, hn, rfl⟩ := List.mem_map.mp hd
    have := h.sb n hn
    exact iS (by omega) (by omega)
  have gA : ∀ d ∈ D.asks.map optD, Sm 20 1000000 1 0 d := fun d hd => by
    obtain ⟨a, ha, rfl⟩ := List.mem_map.mp hd
    exact oS fun i e => by have := h.ab i (e ▸ ha); omega
  have gI : ∀ d ∈ D.sights.map sightD, Sm 20 1000000 51 2 d := fun d hd => by
    obtain ⟨s, hs, rfl⟩ := List.mem_map.mp hd
    have ls := h.gl s hs
    refine Sm.list (S := 5) (D := 1) (N := 10) (fun d hd => ?_) (by rw [List.length_map]; omega) (by decide)
    obtain ⟨r, hr, rfl⟩ := List.mem_map.mp hd
    have o := h.gr s hs r hr
    have lr := row_len' o
    refine Sm.list (S := 1) (D := 0) (N := 4) (fun x hx => ?_) (by rw [List.length_map]; omega) (by decide)
    obtain ⟨n, hn, rfl⟩ := List.mem_map.mp hx
    have := o.bd n hn
    exact iS (by omega) (by omega)
  have gB : ∀ d ∈ D.blocks.map blkD, Sm 20 1000000 6 1 d := fun d hd => by
    obtain ⟨b, hb, rfl⟩ := List.mem_map.mp hd
    have o := h.bb b hb
    have c1 := o.c1
    have r1 := o.r1
    have x1 := iS o.h0 (by have := o.h1; omega)
    have x2 := iS o.c0 (by omega)
    have x3 := iS o.r0 (by omega)
    have x4 : Sm 20 1000000 1 0 (optD b.due) := oS fun i e => by have := o.du i e; have := o.r0; omega
    have x5 := iS (by have := o.w0; omega) o.w1
    refine Sm.mkTuple (by simp) ?_ (fun d hd => ?_) (by decide)
    · have := x4.sz
      simp only [szAll, sz] at this ⊢
      omega
    · simp only [List.mem_cons, List.mem_singleton, List.not_mem_nil, or_false] at hd
      rcases hd with rfl | rfl | rfl | rfl | rfl
      · exact ⟨x1.bd, by have := x1.dp; omega⟩
      · exact ⟨x2.bd, by have := x2.dp; omega⟩
      · exact ⟨x3.bd, by have := x3.dp; omega⟩
      · exact ⟨x4.bd, by have := x4.dp; omega⟩
      · exact ⟨x5.bd, by have := x5.dp; omega⟩
  have l1 := Sm.list gS (show (D.stores.map PyData.int).length ≤ 5 by rw [List.length_map]; omega) (by decide)
  have l2 := Sm.list gI (show (D.sights.map sightD).length ≤ 4 by rw [List.length_map]; omega) (by decide)
  have l3 := Sm.list gA (show (D.asks.map optD).length ≤ 4 by rw [List.length_map]; omega) (by decide)
  have l4 := Sm.list gB (show (D.blocks.map blkD).length ≤ 15 by rw [List.length_map]; omega) (by decide)
  have l0 : Sm 20 1000000 1 0 (.int D.hours) := iS (by omega) (by omega)
  refine Sm.mkTuple (by simp) ?_ (fun d hd => ?_) (by decide)
  · have := l1.sz
    have := l2.sz
    have := l3.sz
    have := l4.sz
    have := l0.sz
    simp only [szAll]
    omega
  · simp only [List.mem_cons, List.mem_singleton, List.not_mem_nil, or_false] at hd
    rcases hd with rfl | rfl | rfl | rfl | rfl
    · exact ⟨l0.bd, by have := l0.dp; omega⟩
    · exact ⟨l1.bd, by have := l1.dp; omega⟩
    · exact ⟨l2.bd, by have := l2.dp; omega⟩
    · exact ⟨l3.bd, by have := l3.dp; omega⟩
    · exact ⟨l4.bd, by have := l4.dp; omega⟩
theorem dy_sz {D : Dy} (h : DyOk D) : sz (dayD D) ≤ 100000 := Nat.le_trans (dy_sm h).sz (by decide)
end Law

set_option Elab.async false
set_option linter.all false
set_option maxRecDepth 100000
set_option maxHeartbeats 1000000
namespace Law
open PySem PySem.Spec PyProof.Rows L2 GxR GX Tree Kit Data Loops Loops2 Comps Purse Day SetG SetL Loops3 Obj Enum Wipe Txts Lit Ib Sep Raised Picks
section
variable {P : Program} {w : World} {K : PySem.W.Frag} {mg : Str → Option Value} {base : Heap} {fa : String → Addr} {fd : String → FuncData} {ca ta : String → Addr} {cs : String → Addr} {fm : String → String → Addr} {fdm : String → String → FuncData}
/-! ### which refusal -/
def bsOf (nm : String) (l : List String) : List V := l.map fun x => V.bl (decide (x = nm))
theorem cat_vs {H : Hp} {A B : Addr} {as bs : List V} {Q : VK} (ea : H A = some (.lst as)) (eb : H B = some (.lst bs)) (hl : as.length + bs.length ≤ sizeLine)
    (q : ∀ (S : Addr) (H' : Hp), Kx [] H H' → H S = none → H' S = some (.lst (as ++ bs)) → Q (.ref S) H') : rCat (.ref A) (.ref B) H Q := ⟨A, B, _, _, rfl, rfl, ea, eb, hl, fun S hS => q S _ (Kx.new hS) hS upd_same⟩
theorem st_isO {nm : String} {H : Hp} {a : Addr} {Q : VK} {σ : L2.St} (x : String) (hσ : σ[0]? = some (some (.ref a))) (h : Kept (cs nm) H a) (W : KIs K cs nm) (hx : x ∈ NM) (q : Q (.bl (decide (x = nm))) H) :
    tCB (rIsX K) (tCons (tVar 0) (tCons (tC (.ref (cs x))) tNil)) σ H Q := ⟨.ref a, hσ, is_own x h W hx q⟩
theorem pick_one (nm : String) (h : nm ∈ NM) : ((List.range (14 : Int).toNat).filter fun i => decide (NM.getD i "" = nm)).map (fun i => V.str (Str.ofString (NM.getD i ""))) = [.str (Str.ofString nm)] := by
  unfold NM at h
  simp only [List.mem_cons, List.not_mem_nil, or_false] at h
  rcases h with rfl | rfl | rfl | rfl | rfl | rfl | rfl | rfl | rfl | rfl | rfl | rfl | rfl | rfl <;> decide +kernel
theorem st_notV {ta : TE} {σ : L2.St} {H : Hp} {Q : VK} (h : ta σ H fun x H1 => ∃ c, x = .bl c ∧ Q (.bl (!c)) H1) : tNotV ta σ H Q := h
def sp_law_kinds (K : PySem.W.Frag) (cs : String → Addr) : Sp := fun vs H Q _ => ∃ (a : Addr) (nm : String), vs = [.ref a] ∧ nm ∈ NM ∧ Kept (cs nm) H a ∧ KIs K cs nm ∧ ∀ (L : Addr) (H' : Hp), Kx [] H H' → H L = none → H' L = some (.lst [.str nm]) → Q (.ref L) H'
theorem ok__law_kinds (Y : Facts K mg base fa fd ca ta) (Z : CFacts K mg cs fm fdm) : FnOk P w K mg base CX0 1 (fa "_law_kinds") (fd "_law_kinds") ["caught"] (sp_law_kinds K cs) := by
  refine Y.d__law_kinds.ok sc__law_kinds (fun vs H Q E h => ?_) (fun cdv A outer s H vs Q E hcd hr h => ?_)
  · obtain ⟨a, nm, rfl, _⟩ := h; rfl
  · obtain ⟨a, nm, rfl, hnm, hk, W, q⟩ := h
    refine ⟨_, (pss_cons (ps_set (i := 1) sc__law_kinds.nd rfl (by first | exact Or.inl rfl | exact Or.inr rfl) (pe_lst (pa_cons (pe_callB (Raised.call_isXK K rfl) (by rfl) Y.b.isinstance (by decide +kernel) (pa_cons (pv 0) (pa_cons (pe_glob (v := .ref (cs "NoDay")) (by rfl) Z.g_NoDay rfl) pa_nil))) (pa_cons (pe_callB (Raised.call_isXK K rfl) (by rfl) Y.b.isinstance (by decide +kernel) (pa_cons (pv 0) (pa_cons (pe_glob (v := .ref (cs "NoPlan")) (by rfl) Z.g_NoPlan rfl) pa_nil))) (pa_cons (pe_callB (Raised.call_isXK K rfl) (by rfl) Y.b.isinstance (by decide +kernel) (pa_cons (pv 0) (pa_cons (pe_glob (v := .ref (cs "NoNumbers")) (by rfl) Z.g_NoNumbers rfl) pa_nil))) pa_nil)))))
      (pss_cons (ps_set (i := 1) sc__law_kinds.nd rfl (by first | exact Or.inl rfl | exact Or.inr rfl) (pe_op op_cat (pv 1) (pe_lst (pa_cons (pe_callB (Raised.call_isXK K rfl) (by rfl) Y.b.isinstance (by decide +kernel) (pa_cons (pv 0) (pa_cons (pe_glob (v := .ref (cs "NoRests")) (by rfl) Z.g_NoRests rfl) pa_nil))) (pa_cons (pe_callB (Raised.call_isXK K rfl) (by rfl) Y.b.isinstance (by decide +kernel) (pa_cons (pv 0) (pa_cons (pe_glob (v := .ref (cs "NoLost")) (by rfl) Z.g_NoLost rfl) pa_nil))) (pa_cons (pe_callB (Raised.call_isXK K rfl) (by rfl) Y.b.isinstance (by decide +kernel) (pa_cons (pv 0) (pa_cons (pe_glob (v := .ref (cs "NoBlock")) (by rfl) Z.g_NoBlock rfl) pa_nil))) pa_nil))))))
      (pss_cons (ps_set (i := 1) sc__law_kinds.nd rfl (by first | exact Or.inl rfl | exact Or.inr rfl) (pe_op op_cat (pv 1) (pe_lst (pa_cons (pe_callB (Raised.call_isXK K rfl) (by rfl) Y.b.isinstance (by decide +kernel) (pa_cons (pv 0) (pa_cons (pe_glob (v := .ref (cs "NoWorth")) (by rfl) Z.g_NoWorth rfl) pa_nil))) (pa_cons (pe_callB (Raised.call_isXK K rfl) (by rfl) Y.b.isinstance (by decide +kernel) (pa_cons (pv 0) (pa_cons (pe_glob (v := .ref (cs "NoHour")) (by rfl) Z.g_NoHour rfl) pa_nil))) (pa_cons (pe_callB (Raised.call_isXK K rfl) (by rfl) Y.b.isinstance (by decide +kernel) (pa_cons (pv 0) (pa_cons (pe_glob (v := .ref (cs "TooMany")) (by rfl) Z.g_TooMany rfl) pa_nil))) pa_nil))))))
      (pss_cons (ps_set (i := 1) sc__law_kinds.nd rfl (by first | exact Or.inl rfl | exact Or.inr rfl) (pe_op op_cat (pv 1) (pe_lst (pa_cons (pe_callB (Raised.call_isXK K rfl) (by rfl) Y.b.isinstance (by decide +kernel) (pa_cons (pv 0) (pa_cons (pe_glob (v := .ref (cs "DayOver")) (by rfl) Z.g_DayOver rfl) pa_nil))) (pa_cons (pe_callB (Raised.call_isXK K rfl) (by rfl) Y.b.isinstance (by decide +kernel) (pa_cons (pv 0) (pa_cons (pe_glob (v := .ref (cs "NoName")) (by rfl) Z.g_NoName rfl) pa_nil))) (pa_cons (pe_callB (Raised.call_isXK K rfl) (by rfl) Y.b.isinstance (by decide +kernel) (pa_cons (pv 0) (pa_cons (pe_glob (v := .ref (cs "NoPlace")) (by rfl) Z.g_NoPlace rfl) pa_nil))) pa_nil))))))
      (pss_cons (ps_set (i := 1) sc__law_kinds.nd rfl (by first | exact Or.inl rfl | exact Or.inr rfl) (pe_op op_cat (pv 1) (pe_lst (pa_cons (pe_callB (Raised.call_isXK K rfl) (by rfl) Y.b.isinstance (by decide +kernel) (pa_cons (pv 0) (pa_cons (pe_glob (v := .ref (cs "NoRow")) (by rfl) Z.g_NoRow rfl) pa_nil))) (pa_cons (pe_callB (Raised.call_isXK K rfl) (by rfl) Y.b.isinstance (by decide +kernel) (pa_cons (pv 0) (pa_cons (pe_glob (v := .ref (cs "NoText")) (by rfl) Z.g_NoText rfl) pa_nil))) pa_nil)))))
      (pss_cons (ps_set (i := 2) sc__law_kinds.nd rfl (by first | exact Or.inl rfl | exact Or.inr rfl) (pe_lst (pa_cons pe_str (pa_cons pe_str (pa_cons pe_str (pa_cons pe_str (pa_cons pe_str (pa_cons pe_str (pa_cons pe_str (pa_cons pe_str (pa_cons pe_str (pa_cons pe_str pa_nil))))))))))))
      (pss_cons (ps_set (i := 2) sc__law_kinds.nd rfl (by first | exact Or.inl rfl | exact Or.inr rfl) (pe_op op_cat (pv 2) (pe_lst (pa_cons pe_str (pa_cons pe_str (pa_cons pe_str (pa_cons pe_str pa_nil)))))))
      (pss_one (ps_ret (pe_op op_cat (pe_lc (own := [("k", 3)]) (g := gName 3) rfl sc__law_kinds.nd (pi_range1 (by rfl) Y.b.range (pa_cons pe_int pa_nil)) (blkOk_by (N := ["caught", "found", "words", "k"]) (sc := defScope s__law_kinds) (by decide +kernel)) (fun _ _ _ _ _ => (pg_name (i := 3) sc__law_kinds.nd rfl (by first | exact Or.inl rfl | exact Or.inr rfl))) (fun _ _ _ _ _ => (pts_one (pt_val (pe_ix (ix_listK K rfl) (pv 1) (pv 3) (fun _ _ => rfl))))) (fun _ _ _ _ _ => (pe_ix (ix_listK K rfl) (pv 2) (pv 3) (fun _ _ => rfl)))) (pe_op op_rep (pe_lst (pa_cons pe_str pa_nil)) (pe_callTy call_int1 (by rfl) Y.b.int (by decide +kernel) (pa_cons (pe_not (pe_callB (Raised.call_isXK K rfl) (by rfl) Y.b.isinstance (by decide +kernel) (pa_cons (pv 0) (pa_cons (pe_bltn (v := .ty "ValueError") (by rfl) Y.x_ValueError (by decide +kernel) rfl) pa_nil)))) pa_nil))))))))))))), ?_⟩
    refine st_set (st_lst (st_cons (st_isO "NoDay" rfl hk W (by decide) (st_cons (st_isO "NoPlan" rfl hk W (by decide) (st_cons (st_isO "NoNumbers" rfl hk W (by decide) (st_nil ⟨len_ok, fun N1 n1 => ?_⟩))))))))
    have k1 : Kx [] H (upd H N1 (.lst (bsOf nm ["NoDay", "NoPlan", "NoNumbers"]))) := Kx.new n1
    have e1 : upd H N1 (.lst (bsOf nm ["NoDay", "NoPlan", "NoNumbers"])) N1 = some (.lst (bsOf nm ["NoDay", "NoPlan", "NoNumbers"])) := upd_same
    show tSeq _ _ _ _ (upd H N1 (.lst (bsOf nm ["NoDay", "NoPlan", "NoNumbers"])))
    generalize upd H N1 (.lst (bsOf nm ["NoDay", "NoPlan", "NoNumbers"])) = H1 at k1 e1 ⊢
    have hk1 := hk.kx k1
    try dsimp only
    refine st_set (st_op ⟨.ref N1, rfl, st_lst (st_cons (st_isO "NoRests" rfl hk1 W (by decide) (st_cons (st_isO "NoLost" rfl hk1 W (by decide) (st_cons (st_isO "NoBlock" rfl hk1 W (by decide) (st_nil ⟨len_ok, fun N2 n2 => ?_⟩)))))))⟩)
    have j2 : Kx [] H1 (upd H1 N2 (.lst (bsOf nm ["NoRests", "NoLost", "NoBlock"]))) := Kx.new n2
    have d2 : upd H1 N2 (.lst (bsOf nm ["NoRests", "NoLost", "NoBlock"])) N2 = some (.lst (bsOf nm ["NoRests", "NoLost", "NoBlock"])) := upd_same
    show rCat _ _ (upd H1 N2 (.lst (bsOf nm ["NoRests", "NoLost", "NoBlock"]))) _
    generalize upd H1 N2 (.lst (bsOf nm ["NoRests", "NoLost", "NoBlock"])) = G2 at j2 d2 ⊢
    refine cat_vs (j2.lst (by simp) e1) d2 (by unfold bsOf sizeLine; simp) fun F2 H2 c2 f2 e2 => ?_
    have k2 := k1.trans (j2.trans c2)
    have e2 : H2 F2 = some (.lst (bsOf nm ["NoDay", "NoPlan", "NoNumbers", "NoRests", "NoLost", "NoBlock"])) := e2
    have hk2 := hk.kx k2
    try dsimp only
    refine st_set (st_op ⟨.ref F2, rfl, st_lst (st_cons (st_isO "NoWorth" rfl hk2 W (by decide) (st_cons (st_isO "NoHour" rfl hk2 W (by decide) (st_cons (st_isO "TooMany" rfl hk2 W (by decide) (st_nil ⟨len_ok, fun N3 n3 => ?_⟩)))))))⟩)
    have j3 : Kx [] H2 (upd H2 N3 (.lst (bsOf nm ["NoWorth", "NoHour", "TooMany"]))) := Kx.new n3
    have d3 : upd H2 N3 (.lst (bsOf nm ["NoWorth", "NoHour", "TooMany"])) N3 = some (.lst (bsOf nm ["NoWorth", "NoHour", "TooMany"])) := upd_same
    show rCat _ _ (upd H2 N3 (.lst (bsOf nm ["NoWorth", "NoHour", "TooMany"]))) _
    generalize upd H2 N3 (.lst (bsOf nm ["NoWorth", "NoHour", "TooMany"])) = G3 at j3 d3 ⊢
    refine cat_vs (j3.lst (by simp) e2) d3 (by unfold bsOf sizeLine; simp) fun F3 H3 c3 f3 e3 => ?_
    have k3 := k2.trans (j3.trans c3)
    have e3 : H3 F3 = some (.lst (bsOf nm ["NoDay", "NoPlan", "NoNumbers", "NoRests", "NoLost", "NoBlock", "NoWorth", "NoHour", "TooMany"])) := e3
    have hk3 := hk.kx k3
    try dsimp only
    refine st_set (st_op ⟨.ref F3, rfl, st_lst (st_cons (st_isO "DayOver" rfl hk3 W (by decide) (st_cons (st_isO "NoName" rfl hk3 W (by decide) (st_cons (st_isO "NoPlace" rfl hk3 W (by decide) (st_nil ⟨len_ok, fun N4 n4 => ?_⟩)))))))⟩)
    have j4 : Kx [] H3 (upd H3 N4 (.lst (bsOf nm ["DayOver", "NoName", "NoPlace"]))) := Kx.new n4
    have d4 : upd H3 N4 (.lst (bsOf nm ["DayOver", "NoName", "NoPlace"])) N4 = some (.lst (bsOf nm ["DayOver", "NoName", "NoPlace"])) := upd_same
    show rCat _ _ (upd H3 N4 (.lst (bsOf nm ["DayOver", "NoName", "NoPlace"]))) _
    generalize upd H3 N4 (.lst (bsOf nm ["DayOver", "NoName", "NoPlace"])) = G4 at j4 d4 ⊢
    refine cat_vs (j4.lst (by simp) e3) d4 (by unfold bsOf sizeLine; simp) fun F4 H4 c4 f4 e4 => ?_
    have k4 := k3.trans (j4.trans c4)
    have e4 : H4 F4 = some (.lst (bsOf nm ["NoDay", "NoPlan", "NoNumbers", "NoRests", "NoLost", "NoBlock", "NoWorth", "NoHour", "TooMany", "DayOver", "NoName", "NoPlace"])) := e4
    have hk4 := hk.kx k4
    try dsimp only
    refine st_set (st_op ⟨.ref F4, rfl, st_lst (st_cons (st_isO "NoRow" rfl hk4 W (by decide) (st_cons (st_isO "NoText" rfl hk4 W (by decide) (st_nil ⟨len_ok, fun N5 n5 => ?_⟩)))))⟩)
    have j5 : Kx [] H4 (upd H4 N5 (.lst (bsOf nm ["NoRow", "NoText"]))) := Kx.new n5
    have d5 : upd H4 N5 (.lst (bsOf nm ["NoRow", "NoText"])) N5 = some (.lst (bsOf nm ["NoRow", "NoText"])) := upd_same
    show rCat _ _ (upd H4 N5 (.lst (bsOf nm ["NoRow", "NoText"]))) _
    generalize upd H4 N5 (.lst (bsOf nm ["NoRow", "NoText"])) = G5 at j5 d5 ⊢
    refine cat_vs (j5.lst (by simp) e4) d5 (by unfold bsOf sizeLine; simp) fun F5 H5 c5 f5 e5 => ?_
    have k5 := k4.trans (j5.trans c5)
    have e5 : H5 F5 = some (.lst (bsOf nm ["NoDay", "NoPlan", "NoNumbers", "NoRests", "NoLost", "NoBlock", "NoWorth", "NoHour", "TooMany", "DayOver", "NoName", "NoPlace", "NoRow", "NoText"])) := e5
    have hk5 := hk.kx k5
    try dsimp only
    refine st_set (st_lst (st_cons (st_c (st_cons (st_c (st_cons (st_c (st_cons (st_c (st_cons (st_c (st_cons (st_c (st_cons (st_c (st_cons (st_c (st_cons (st_c (st_cons (st_c (st_nil ⟨len_ok, fun N6 n6 => ?_⟩))))))))))))))))))))))
    have k6 : Kx [] H5 (upd H5 N6 (.lst [.str "NoDay", .str "NoPlan", .str "NoNumbers", .str "NoRests", .str "NoLost", .str "NoBlock", .str "NoWorth", .str "NoHour", .str "TooMany", .str "DayOver"])) := Kx.new n6
    have e6 : upd H5 N6 (.lst [.str "NoDay", .str "NoPlan", .str "NoNumbers", .str "NoRests", .str "NoLost", .str "NoBlock", .str "NoWorth", .str "NoHour", .str "TooMany", .str "DayOver"]) N6 = some (.lst [.str "NoDay", .str "NoPlan", .str "NoNumbers", .str "NoRests", .str "NoLost", .str "NoBlock", .str "NoWorth", .str "NoHour", .str "TooMany", .str "DayOver"]) := upd_same
    generalize upd H5 N6 (.lst [.str "NoDay", .str "NoPlan", .str "NoNumbers", .str "NoRests", .str "NoLost", .str "NoBlock", .str "NoWorth", .str "NoHour", .str "TooMany", .str "DayOver"]) = H6 at k6 e6 ⊢
    try dsimp only
    refine st_set (st_op ⟨.ref N6, rfl, st_lst (st_cons (st_c (st_cons (st_c (st_cons (st_c (st_cons (st_c (st_nil ⟨len_ok, fun N7 n7 => ?_⟩)))))))))⟩)
    have k7 : Kx [] H6 (upd H6 N7 (.lst [.str "NoName", .str "NoPlace", .str "NoRow", .str "NoText"])) := Kx.new n7
    have e7 : upd H6 N7 (.lst [.str "NoName", .str "NoPlace", .str "NoRow", .str "NoText"]) N7 = some (.lst [.str "NoName", .str "NoPlace", .str "NoRow", .str "NoText"]) := upd_same
    generalize upd H6 N7 (.lst [.str "NoName", .str "NoPlace", .str "NoRow", .str "NoText"]) = H7 at k7 e7 ⊢
    refine cat_vs (k7.lst (by simp) e6) e7 (by simp; unfold sizeLine; omega) fun F8 H8 k8 n8 e8 => ?_
    have e8 : H8 F8 = some (.lst (NM.map fun x : String => V.str (Str.ofString x))) := e8
    have k58 := k6.trans (k7.trans k8)
    have e58 := k58.lst (by simp) e5
    have hk8 := hk5.kx k58
    try dsimp only
    refine st_lit [some (.ref a), some (.ref F5), some (.ref F8), none] rfl ?_
    have e58 : H8 F5 = some (.lst (bsOf nm NM)) := e58
    have aB : ∀ i : Nat, i < 14 → atI (bsOf nm NM) (i : Int) = some (.bl (decide (NM.getD i "" = nm))) := fun i hi => atI_nat (by
      unfold bsOf
      rw [List.getElem?_map, List.getElem?_eq_getElem (show i < NM.length from hi), List.getD_eq_getElem?_getD, List.getElem?_eq_getElem (show i < NM.length from hi)]
      rfl)
    have aW : ∀ i : Nat, i < 14 → atI (NM.map fun x : String => V.str (Str.ofString x)) (i : Int) = some (.str (Str.ofString (NM.getD i ""))) := fun i hi => atI_nat (by
      rw [List.getElem?_map, List.getElem?_eq_getElem (show i < NM.length from hi), List.getD_eq_getElem?_getD, List.getElem?_eq_getElem (show i < NM.length from hi)]
      rfl)
    refine st_ret (st_op (lc_use ⟨_, rfl, by decide, by decide, ?_⟩))
    refine lc_pickV (itr_at (14 : Int).toNat) (by decide) (fun i => decide (NM.getD i "" = nm)) (fun i => .str (Str.ofString (NM.getD i ""))) (fun i H9 hi k9 R R0 hR hR0 => ?_) fun D H9 k9 nD eD => ?_
    · have hi : i < 14 := hi
      refine ⟨rfl, .ref F5, rfl, .int i, rfl, F5, _, i, _, rfl, rfl, SqL.of (k9.lst (by simp) e58), aB i hi, _, rfl, ?_⟩
      exact ite2 (fun c => ⟨.ref F8, rfl, .int i, rfl, F8, _, i, _, rfl, rfl, SqL.of (k9.lst (by simp) e8), aW i hi, hR c H9 (Kx.refl _)⟩) (fun c => hR0 (by simpa using c) H9 (Kx.refl _))
    have one : ((List.range (14 : Int).toNat).filter fun i => decide (NM.getD i "" = nm)).map (fun i => V.str (Str.ofString (NM.getD i ""))) = [.str (Str.ofString nm)] := pick_one nm hnm
    rw [one] at eD
    have hk9 := hk8.kx k9
    refine st_op (st_lst (st_cons (st_c (st_nil ⟨len_ok, fun S n10 => ?_⟩))))
    have k10 : Kx [] H9 (upd H9 S (.lst [.str "no ValueError"])) := Kx.new n10
    have e10 : upd H9 S (.lst [.str "no ValueError"]) S = some (.lst [.str "no ValueError"]) := upd_same
    generalize upd H9 S (.lst [.str "no ValueError"]) = H10 at k10 e10 ⊢
    have hk10 := hk9.kx k10
    refine Txts.st_cb (st_cons (st_notV (Txts.st_cb (st_cons ⟨.ref a, rfl, st_cons (st_c (st_nil (is_ve hk10 W ⟨_, rfl, st_nil (.inr ⟨_, rfl, ?_⟩)⟩)))⟩))))
    refine ⟨S, 0, _, rfl, rfl, e10, by decide, by decide, by simp, fun T n11 => ?_⟩
    have k11 : Kx [] H10 (upd H10 T (.lst [])) := Kx.new n11
    have e11 : upd H10 T (.lst []) T = some (.lst []) := upd_same
    show rCat _ _ (upd H10 T (.lst [])) _
    generalize upd H10 T (.lst []) = H11 at k11 e11 ⊢
    refine cat_vs ((k10.trans k11).lst (by simp) eD) e11 (by simp; unfold sizeLine; omega) fun L H12 k12 n12 e12 => ?_
    have kk := k5.trans (k58.trans (k9.trans (k10.trans k11)))
    exact q L H12 (kk.trans k12) (kk.free (by simp) n12) e12
end
end Law

set_option Elab.async false
set_option linter.all false
set_option maxRecDepth 100000
set_option maxHeartbeats 1000000
namespace Law
open PySem PySem.Spec PyProof.Rows L2 GxR GX Tree Kit Data Loops Loops2 Comps Purse Day SetG SetL Loops3 Obj Enum Wipe Txts Lit Ib Sep Raised Picks
section
variable {P : Program} {w : World} {K : PySem.W.Frag} {mg : Str → Option Value} {base : Heap} {fa : String → Addr} {fd : String → FuncData} {ca ta : String → Addr} {cs : String → Addr} {fm : String → String → Addr} {fdm : String → String → FuncData}
theorem kis_NoText (Z : CFacts K mg cs fm fdm) : KIs K cs "NoText" := ⟨Z.is_NoText, Z.ki_NoText_ValueError, by
  unfold NM
  simp only [List.forall_mem_cons]
  exact ⟨Z.ki_NoText_NoDay, Z.ki_NoText_NoPlan, Z.ki_NoText_NoNumbers, Z.ki_NoText_NoRests, Z.ki_NoText_NoLost, Z.ki_NoText_NoBlock, Z.ki_NoText_NoWorth, Z.ki_NoText_NoHour, Z.ki_NoText_TooMany, Z.ki_NoText_DayOver, Z.ki_NoText_NoName, Z.ki_NoText_NoPlace, Z.ki_NoText_NoRow, Z.ki_NoText_NoText, fun x hx => nomatch hx⟩⟩
theorem kis_NoDay (Z : CFacts K mg cs fm fdm) : KIs K cs "NoDay" := ⟨Z.is_NoDay, Z.ki_NoDay_ValueError, by
  unfold NM
  simp only [List.forall_mem_cons]
  exact ⟨Z.ki_NoDay_NoDay, Z.ki_NoDay_NoPlan, Z.ki_NoDay_NoNumbers, Z.ki_NoDay_NoRests, Z.ki_NoDay_NoLost, Z.ki_NoDay_NoBlock, Z.ki_NoDay_NoWorth, Z.ki_NoDay_NoHour, Z.ki_NoDay_TooMany, Z.ki_NoDay_DayOver, Z.ki_NoDay_NoName, Z.ki_NoDay_NoPlace, Z.ki_NoDay_NoRow, Z.ki_NoDay_NoText, fun x hx => nomatch hx⟩⟩
/-! ### a refusal's words -/
def sp_law_word (K : PySem.W.Frag) (ta : String → Addr) : Sp := fun vs H Q _ => ∃ (v : V) (b : Bool), vs = [v, .bl b] ∧ Tb (Ts ta) H ∧
  ((b = true ∧ ∃ T : String, TyX K H v (.type T) ∧ PySem.W.kitOne K (.type T) (.type "str") = some false ∧ ∀ (L : Addr) (H' : Hp), Kx [] H H' → H L = none → H' L = some (.lst [.str "NoText", .non]) → Q (.ref L) H') ∨
   (b = false ∧ ∃ d, Tr [] H v d ∧ sz d ≤ 100000 ∧ isDayB d = false ∧ ∀ (L : Addr) (H' : Hp), Kx [] H H' → H L = none → H' L = some (.lst [.str "NoDay", .int 0]) → Q (.ref L) H'))
theorem ok__law_word (Y : Facts K mg base fa fd ca ta) (Z : CFacts K mg cs fm fdm) : FnOk P w K mg base CX0 12 (fa "_law_word") (fd "_law_word") ["thing", "reads"] (sp_law_word K ta) := by
  refine Y.d__law_word.ok sc__law_word (fun vs H Q E h => ?_) (fun cdv A outer s H vs Q E hcd hr h => ?_)
  · obtain ⟨v, b, rfl, _⟩ := h; rfl
  · obtain ⟨v, b, rfl, hT, h⟩ := h
    refine ⟨_, (pss_cons (ps_set (i := 2) sc__law_word.nd rfl (by first | exact Or.inl rfl | exact Or.inr rfl) pe_non)
      (pss_cons (ps_set (i := 3) sc__law_word.nd rfl (by first | exact Or.inl rfl | exact Or.inr rfl) pe_int)
      (pss_cons (Two.ps_try_two (i := 4) (c := .ref (cs "NoText")) (c2 := .ref (cs "SkyError")) rfl rfl rfl sc__law_word.nd rfl rfl ⟨rfl, by decide, .inl Z.g_NoText⟩ ⟨rfl, by decide, .inl Z.g_SkyError⟩ takes0 (fun W pn xe tk => (pss_one (ps_if (pt_val (pv 1)) (pss_one (ps_expr (pe_callS (ok_read_day Y Z) (hr.mono (by decide)) (by rfl) Y.d_read_day.g Y.d_read_day.kp Y.d_read_day.b (fun σ => passAt tk σ) (pa_cons (pv 0) pa_nil)))) (pss_one (ps_expr (pe_callS (ok_show_day Y Z) (hr.mono (by decide)) (by rfl) Y.d_show_day.g Y.d_show_day.kp Y.d_show_day.b (fun σ => passAt tk σ) (pa_cons (pv 0) pa_nil))))))) (fun a pn => (pss_cons (ps_set (i := 2) sc__law_word.nd rfl (by first | exact Or.inl rfl | exact Or.inr rfl) (pv 4))
      (pss_one (ps_set (i := 3) sc__law_word.nd rfl (by first | exact Or.inl rfl | exact Or.inr rfl) (Raised.pe_xk K rfl (pv 4)))))) (fun a pn => (pss_one (ps_set (i := 2) sc__law_word.nd rfl (by first | exact Or.inl rfl | exact Or.inr rfl) (pv 4)))))
      (pss_one (ps_ret (pe_ifExp (pt_cmpR op_isN (pv 2) pe_non (nomark _)) (pe_lst (pa_cons pe_str pa_nil)) (pe_op op_cat (pe_call (ok__law_kinds Y Z) (hr.mono (by decide)) (by rfl) Y.d__law_kinds.g Y.d__law_kinds.kp Y.d__law_kinds.b .nil pass0 (pa_cons (pv 2) pa_nil)) (pe_lst (pa_cons (pv 3) pa_nil))))))))), ?_⟩
    refine st_set (Wipe.st_c (st_set (Wipe.st_c ?_)))
    rcases h with ⟨rfl, T, hty, hks, q⟩ | ⟨rfl, d, ht, hz, hd, q⟩
    · refine st_lit [some v, some (.bl true), some .non, some (.int 0), none] rfl ?_
      refine st_seq ⟨_, rfl, _, rfl, iteT ⟨v, rfl, .inl ⟨v, T, rfl, hty, hks, fun d H1 k1 n1 en => ⟨true, Z.em_NoText_NoText, fun _ a ha => ?_, fun z => nomatch z⟩⟩⟩⟩
      have k2 : Kx [] H1 (upd H1 a (Caught.ExK (.ref (cs "NoText")) (some d) a)) := Kx.new ha
      have e2 : upd H1 a (Caught.ExK (.ref (cs "NoText")) (some d) a) a = some (Caught.ExK (.ref (cs "NoText")) (some d) a) := upd_same
      have en2 : upd H1 a (Caught.ExK (.ref (cs "NoText")) (some d) a) d = some (.xd [("at", .non)]) := by
        rw [upd_ne (fun z => by rw [z, ha] at en; cases en)]
        exact en
      generalize upd H1 a (Caught.ExK (.ref (cs "NoText")) (some d) a) = H2 at k2 e2 en2 ⊢
      have kk := k1.trans k2
      have kp : Kept (cs "NoText") H2 a := .inl ⟨d, _, e2, en2⟩
      refine st_set ⟨.ref a, rfl, ?_⟩
      refine ⟨.ref a, rfl, a, cs "NoText", d, _, .non, rfl, e2, Z.ox_NoText.xf, Z.na_NoText_at, en2, rfl, st_name ?_⟩
      dsimp only
      refine st_lit [some v, some (.bl true), some (.ref a), some .non, none] rfl ?_
      refine st_ret ⟨.ref a, rfl, rfl, _, rfl, ?_⟩
      rw [decide_eq_false (fun z => by cases z)]
      refine iteF (st_op ⟨.ref a, rfl, a, "NoText", rfl, by decide, kp, kis_NoText Z, fun L H3 k3 n3 e3 => st_lst (st_cons ⟨.non, rfl, st_nil ⟨len_ok, fun S n4 => ?_⟩⟩)⟩)
      have k4 : Kx [] H3 (upd H3 S (.lst [.non])) := Kx.new n4
      have e4 : upd H3 S (.lst [.non]) S = some (.lst [.non]) := upd_same
      generalize upd H3 S (.lst [.non]) = H4 at k4 e4 ⊢
      refine cat_vs (k4.lst (by simp) e3) e4 (by simp; unfold sizeLine; omega) fun M H5 k5 n5 e5 => ?_
      exact q M H5 (kk.trans (k3.trans (k4.trans k5))) ((kk.trans (k3.trans k4)).free (by simp) n5) e5
    · refine st_lit [some v, some (.bl false), some .non, some (.int 0), none] rfl ?_
      refine st_seq ⟨_, rfl, _, rfl, iteF ⟨v, rfl, v, d, rfl, ht, hz, hT, fun D e hD => absurd (show isDayB d = true by rw [e]; exact isDayB_ok hD) (by rw [hd]; simp), fun _ H1 k1 => ⟨false, Z.em_NoDay_NoText, fun z => (nomatch z), fun _ => ⟨true, Z.em_NoDay_SkyError, fun _ a ha => ?_, fun z => nomatch z⟩⟩⟩⟩
      have k2 : Kx [] H1 (upd H1 a (Caught.ExK (.ref (cs "NoDay")) none a)) := Kx.new ha
      have e2 : upd H1 a (Caught.ExK (.ref (cs "NoDay")) none a) a = some (Caught.ExK (.ref (cs "NoDay")) none a) := upd_same
      generalize upd H1 a (Caught.ExK (.ref (cs "NoDay")) none a) = H2 at k2 e2 ⊢
      have kk := k1.trans k2
      have kp : Kept (cs "NoDay") H2 a := .inr e2
      refine ⟨.ref a, rfl, st_name ?_⟩
      dsimp only
      refine st_lit [some v, some (.bl false), some (.ref a), some (.int 0), none] rfl ?_
      refine st_ret ⟨.ref a, rfl, rfl, _, rfl, ?_⟩
      rw [decide_eq_false (fun z => by cases z)]
      refine iteF (st_op ⟨.ref a, rfl, a, "NoDay", rfl, by decide, kp, kis_NoDay Z, fun L H3 k3 n3 e3 => st_lst (st_cons ⟨(.int 0), rfl, st_nil ⟨len_ok, fun S n4 => ?_⟩⟩)⟩)
      have k4 : Kx [] H3 (upd H3 S (.lst [(.int 0)])) := Kx.new n4
      have e4 : upd H3 S (.lst [(.int 0)]) S = some (.lst [(.int 0)]) := upd_same
      generalize upd H3 S (.lst [(.int 0)]) = H4 at k4 e4 ⊢
      refine cat_vs (k4.lst (by simp) e3) e4 (by simp; unfold sizeLine; omega) fun M H5 k5 n5 e5 => ?_
      exact q M H5 (kk.trans (k3.trans (k4.trans k5))) ((kk.trans (k3.trans k4)).free (by simp) n5) e5
end
end Law

set_option Elab.async false
set_option linter.all false
set_option maxRecDepth 100000
set_option maxHeartbeats 1000000
namespace Law
open PySem PySem.Spec PyProof.Rows L2 GxR GX Tree Kit Data Loops Loops2 Comps Purse Day SetG SetL Loops3 Obj Enum Wipe Txts Lit Ib Sep Raised Picks Things Dic1 Small Shown
/-! ### the signs of a day's text -/
def As (x : Str) : Prop := ∀ c ∈ TL.tl x, c < 128
theorem as_nT {i : Int} (h : 0 ≤ i) : As (nT i) := fun c hc => by
  refine Nat.lt_of_not_le fun z => ?_
  exact nT_free h (by omega) hc
theorem as_hours : As "hours" := by unfold As; rw [lit_tl.1]; decide
theorem as_store : As "store" := by unfold As; rw [lit_tl.2.1]; decide
theorem as_dish : As "dish" := by unfold As; rw [lit_tl.2.2.1]; decide
theorem as_block : As "block" := by unfold As; rw [lit_tl.2.2.2.1]; decide
theorem as_own : As "own" := by unfold As; rw [lit_tl.2.2.2.2.1]; decide
theorem as_none : As "-" := by unfold As; rw [lit_tl.2.2.2.2.2.1]; decide
theorem as_join {s : Str} {r : List Str} (hs : As s) (hr : ∀ p ∈ r, As p) : As (Txt.join s r) := fun c hc => by
  rcases join_mem hc with z | ⟨p, hp, z⟩
  · exact hs c z
  · exact hr p hp c z
theorem as_opt {o : Option Int} (h : ∀ i, o = some i → 0 ≤ i) : As (askW o) ∧ As (dueW o) := by
  cases o with
  | none => exact ⟨as_own, as_none⟩
  | some i => exact ⟨as_nT (h i rfl), as_nT (h i rfl)⟩
theorem as_comma : As "," := by unfold As; rw [lit_tl.2.2.2.2.2.2.1]; decide
theorem as_blank : As " " := by unfold As; rw [lit_tl.2.2.2.2.2.2.2.1]; decide
theorem as_feed : As "\n" := by unfold As; rw [lit_tl.2.2.2.2.2.2.2.2]; decide
theorem as_heard {c : Nat} {r : List Int} (o : RowOk c r) : As (heardW r) := by
  unfold heardW
  split
  · exact as_none
  · refine as_join as_comma fun p hp => ?_
    obtain ⟨i, hi, rfl⟩ := List.mem_map.mp hp
    exact as_nT (o.bd i hi).1
theorem words_as {D : Dy} (hD : DyOk D) : ∀ ws ∈ wordsOf D, (∀ x ∈ ws, As x) := fun ws h => by
  have t0 := hD.t0
  have t1 := hD.t1
  unfold wordsOf at h
  rcases List.mem_cons.mp h with rfl | h
  · intro x hx
    · simp only [List.mem_cons, List.not_mem_nil, or_false] at hx
      rcases hx with rfl | rfl
      · first | exact as_hours | (rw [one_len.2.2.2.2.2.2.2.1]; decide)
      · first | exact as_nT (by omega) | exact Nat.le_trans (nT_len (i := D.hours) (by omega) (by omega)).2 (by decide)
  rcases List.mem_append.mp h with h | h
  · obtain ⟨s, hs, rfl⟩ := List.mem_map.mp h
    have hb := hD.sb s hs
    intro x hx
    · simp only [List.mem_cons, List.not_mem_nil, or_false] at hx
      rcases hx with rfl | rfl
      · first | exact as_store | (rw [one_len.2.2.2.2.2.2.2.2]; decide)
      · first | exact as_nT (by omega) | exact Nat.le_trans (nT_len (i := s) (by omega) (by omega)).2 (by decide)
  rcases List.mem_append.mp h with h | h
  · unfold dishesOf at h
    obtain ⟨d, hd, rfl⟩ := List.mem_map.mp h
    have hd := List.mem_range.mp hd
    have sm : D.sights.getD d [] ∈ D.sights := by rw [getD_at _ _ hd]; exact List.getElem_mem hd
    have gl := hD.gl _ sm
    have ha := ask_ok hD d
    intro x hx
    · unfold dishWs at hx
      rcases List.mem_cons.mp hx with rfl | hx
      · exact as_dish
      rcases List.mem_cons.mp hx with rfl | hx
      · exact (as_opt fun i e => (ha i e).1).1
      · obtain ⟨r, hr, rfl⟩ := List.mem_map.mp hx
        exact as_heard (hD.gr _ sm r hr)
  · obtain ⟨b, hb, rfl⟩ := List.mem_map.mp h
    have o := hD.bb b hb
    have r0 := o.r0
    have r1 := o.r1
    have c0 := o.c0
    have c1 := o.c1
    have h0 := o.h0
    have h1 := o.h1
    have w0 := o.w0
    have w1 := o.w1
    have s1 := hD.s1
    have du := dueW_len o t1
    have cd : As (dueW b.due) := (as_opt fun i e => by have := o.du i e; omega).2
    intro x hx
    unfold blockWs at hx
    · simp only [List.mem_cons, List.not_mem_nil, or_false] at hx
      rcases hx with rfl | rfl | rfl | rfl | rfl | rfl
      · first | exact as_block | (rw [one_len.2.2.2.2.2.2.1]; decide)
      · first | exact as_nT (by omega) | exact Nat.le_trans (nT_len (i := b.house) (by omega) (by omega)).2 (by decide)
      · first | exact as_nT (by omega) | exact Nat.le_trans (nT_len (i := b.craft) (by omega) (by omega)).2 (by decide)
      · first | exact as_nT (by omega) | exact Nat.le_trans (nT_len (i := b.ready) (by omega) (by omega)).2 (by decide)
      · first | exact cd | omega
      · first | exact as_nT (by omega) | exact Nat.le_trans (nT_len (i := b.worth) (by omega) (by omega)).2 (by decide)
theorem rows_as {D : Dy} (hD : DyOk D) : ∀ r ∈ rowsOf D, As r := fun r hr => by
  unfold rowsOf at hr
  obtain ⟨ws, hws, rfl⟩ := List.mem_map.mp hr
  exact as_join as_blank (words_as hD ws hws)
theorem text_as {D : Dy} (hD : DyOk D) : As (textD D) := as_join as_feed (rows_as hD)
theorem as_fit {x : Str} (h : As x) : (x.cps.toList.all fun c => decide (c < 16 ^ 8)) = true := List.all_eq_true.mpr fun c hc => decide_eq_true (Nat.lt_trans (h c hc) (by decide))
theorem rows_split {D : Dy} (hD : DyOk D) : Txt.split (textD D) "\n" = rowsOf D := TL.split_join (s := 10) (S := []) lit_tl.2.2.2.2.2.2.2.2 (by decide +kernel) (fun e => by unfold rowsOf wordsOf at e; cases e) fun p hp => by
  obtain ⟨ws, hws, rfl⟩ := List.mem_map.mp hp
  intro z
  rcases join_mem z with z | ⟨x, hx, z⟩
  · rw [lit_tl.2.2.2.2.2.2.2.1] at z; simp at z
  · exact ((words_cl hD ws hws).1 x hx).2 z
/-- what is shown of a day's text, alone and among others -/
theorem text_show {D : Dy} (hD : DyOk D) : ShowOk (.str (textD D)) ∧ ShowOk (.list [.str (textD D)]) ∧ ShowOk (.tuple [.str (textD D)]) ∧ ShowOk (oneD (textD D) (textD D)) := by
  have a := as_fit (text_as hD)
  have l : (textD D).cps.size ≤ 7000 := text_len hD
  generalize textD D = x at a l
  have s1 : PyData.leavesShort 13 (.str x) = true := a
  have all1 : PyData.leavesShortAll 13 [.str x] = true := by
    show (PyData.leavesShort 13 (.str x) && PyData.leavesShortAll 13 []) = true
    rw [s1]; rfl
  refine ⟨⟨rfl, Nat.le_of_ble_eq_true rfl, PyData.shown_fits (B := 13) (by decide) (by decide) s1 ?_⟩, ⟨rfl, Nat.le_of_ble_eq_true rfl, PyData.shown_fits (B := 13) (by decide) (by decide) all1 ?_⟩, ⟨rfl, Nat.le_of_ble_eq_true rfl, PyData.shown_fits (B := 13) (by decide) (by decide) all1 ?_⟩, ⟨rfl, Nat.le_of_ble_eq_true rfl, PyData.shown_fits (B := 13) (by decide) (by decide) ?_ ?_⟩⟩
  · show x.cps.size ≤ 2 ^ 20; omega
  · show x.cps.size + 1 + 0 ≤ 2 ^ 20; omega
  · show x.cps.size + 1 + 0 ≤ 2 ^ 20; omega
  · show (PyData.leavesShort 13 (.str x) && PyData.leavesShort 13 (.str x) && PyData.leavesShortKv 13 []) = true
    rw [s1]; rfl
  · show x.cps.size + x.cps.size + 2 + 0 ≤ 2 ^ 20; omega
theorem rows_show {D : Dy} (hD : DyOk D) : ShowOk (.list ((rowsOf D).map PyData.str)) := by
  have a := rows_as hD
  obtain ⟨l1, l2⟩ := rowsOf_len hD
  have key : ∀ rs : List Str, (∀ r ∈ rs, As r) → (∀ r ∈ rs, r.length ≤ 300) → PyData.leavesShortAll 13 (rs.map PyData.str) = true ∧ PyData.weightAll (rs.map PyData.str) ≤ rs.length * 301 ∧ PyData.showableAll (rs.map PyData.str) = true ∧ PyData.depthAll (rs.map PyData.str) = 0 := by
    intro rs
    induction rs with
    | nil => intro _ _; exact ⟨rfl, Nat.zero_le _, rfl, rfl⟩
    | cons r q ih =>
      intro h1 h2
      obtain ⟨i1, i2, i3, i4⟩ := ih (fun x hx => h1 x (List.mem_cons_of_mem _ hx)) (fun x hx => h2 x (List.mem_cons_of_mem _ hx))
      have e1 : PyData.leavesShort 13 (.str r) = true := as_fit (h1 r List.mem_cons_self)
      have e2 : r.cps.size ≤ 300 := h2 r List.mem_cons_self
      refine ⟨?_, ?_, i3, ?_⟩
      · show (PyData.leavesShort 13 (.str r) && PyData.leavesShortAll 13 (q.map PyData.str)) = true
        rw [e1, i1]; rfl
      · show r.cps.size + 1 + PyData.weightAll (q.map PyData.str) ≤ (q.length + 1) * 301
        omega
      · show max 0 (PyData.depthAll (q.map PyData.str)) = 0
        rw [i4]; rfl
  obtain ⟨i1, i2, i3, i4⟩ := key _ a l1
  refine ⟨i3, ?_, PyData.shown_fits (B := 13) (by decide) (by decide) i1 (Nat.le_trans i2 (Nat.le_trans (Nat.mul_le_mul_right 301 l2) (by decide)))⟩
  show PyData.depthAll ((rowsOf D).map PyData.str) + 1 ≤ 40
  omega
end Law

set_option Elab.async false
set_option linter.all false
set_option maxRecDepth 100000
set_option maxHeartbeats 4000000
namespace Law
open PySem PySem.Spec PyProof.Rows L2 GxR GX Tree Kit Data Loops Comps Purse Sets Small Ib
section
variable {P : Program} {w : World} {K : PySem.W.Frag} {mg : Str → Option Value} {base : Heap} {fa : String → Addr} {fd : String → FuncData} {ca ta : String → Addr}
/-! ### bent things -/
/-- no list, no tuple -/
def isSeq : PyData → Bool
  | .list _ => true
  | .tuple _ => true
  | _ => false
def sp_law_other (Ts : List Addr) : Sp := fun vs H Q _ => ∃ (p : Addr) (n : Nat) (C : List Addr) (v : V) (d : PyData) (L M S D : Nat), vs = [.ref p, v] ∧ n ≤ 800000000000 ∧ At Ts C p n H ∧ Tr C H v d ∧ isSeq d = false ∧ Sm L M S D d ∧ M ≤ 50000000000 ∧ Draws Ts C p n 1 (Sm (L + 1) (M + 1000000000) 2 1) H Q
theorem ok__law_other (Y : Facts K mg base fa fd ca ta) : FnOk P w K mg base CX0 2 (fa "_law_other") (fd "_law_other") ["purse", "thing"] (sp_law_other (Ts ta)) := by
  refine Y.d__law_other.ok sc__law_other (fun vs H Q E h => ?_) (fun cdv A outer s H vs Q E hcd hr h => ?_)
  · obtain ⟨p, n, C, v, d, L, M, S, D, rfl, _⟩ := h; rfl
  · obtain ⟨p, n, C, v, d, L, M, S, D, rfl, hn, hA, ht, hs, hm, hM, q⟩ := h
    refine ⟨_, (pss_cons (ps_set (i := 2) sc__law_other.nd rfl (by first | exact Or.inl rfl | exact Or.inr rfl) (pe_lst (pa_cons pe_non (pa_cons pe_bl (pa_cons pe_bl (pa_cons pe_int (pa_cons (pe_un un_neg pe_int) (pa_cons pe_str (pa_cons pe_str (pa_cons (pe_lst pa_nil) (pa_cons (pe_tup pa_nil) (pa_cons pe_dnewK (pa_cons pe_int (pa_cons pe_int pa_nil))))))))))))))
      (pss_cons (ps_if (pt_val (pe_callB (call_isiK' K rfl) (by rfl) Y.b.isinstance (by decide +kernel) (pa_cons (pv 1) (pa_cons (pe_bltn (v := .ty "int") (by rfl) Y.b.int (by decide +kernel) rfl) pa_nil)))) (pss_one (ps_set (i := 2) sc__law_other.nd rfl (by first | exact Or.inl rfl | exact Or.inr rfl) (pe_lst (pa_cons (pe_op op_addB (pv 1) pe_int) (pa_cons (pe_op op_subB (pv 1) pe_int) (pa_cons (pe_op op_addB (pv 1) pe_int) (pa_cons (pe_op op_subB (pv 1) pe_int) (pa_cons (pe_callTy call_strB (by rfl) Y.b.str (by decide +kernel) (pa_cons (pv 1) pa_nil)) (pa_cons (pe_lst (pa_cons (pv 1) pa_nil)) (pa_cons pe_bl (pa_cons pe_non (pa_cons (pe_op op_subIB (pe_un un_neg pe_int) (pv 1)) (pa_cons (pe_op op_powW pe_int pe_int) (pa_cons pe_int (pa_cons pe_int pa_nil))))))))))))))) pss_nil)
      (pss_one (ps_ret (pe_ix (ix_listK K rfl) (pv 2) (pe_call (ok__law_coin Y) (hr.mono (by decide)) (by rfl) Y.d__law_coin.g Y.d__law_coin.kp Y.d__law_coin.b .nil pass0 (pa_cons (pv 0) (pa_cons (pe_callB (call_lenK K rfl) (by rfl) Y.b.len (by decide +kernel) (pa_cons (pv 2) pa_nil)) pa_nil))) (fun _ _ => rfl)))))), ?_⟩
    refine ⟨_, rfl, len_ok, fun La hLa => ?_⟩
    generalize hqa : upd H La _ = H1
    obtain ⟨k1, e1, t1⟩ : Kx [] H H1 ∧ H1 La = some (.lst []) ∧ Tr C H1 (.ref La) (.list []) := hqa ▸ mk_lst hA.al .nil hLa
    clear hqa
    have A1 := hA.kx k1
    refine ⟨len_ok, fun Lb hLb => ?_⟩
    generalize hqb : upd H1 Lb _ = H2
    obtain ⟨k2, e2, t2⟩ : Kx [] H1 H2 ∧ H2 Lb = some (.tup []) ∧ Tr C H2 (.ref Lb) (.tuple []) := hqb ▸ mk_tup A1.al .nil hLb
    clear hqb
    have A2 := A1.kx k2
    refine fun Lc hLc => ?_
    generalize hqc : upd H2 Lc _ = H3
    obtain ⟨k3, e3, t3⟩ : Kx [] H2 H3 ∧ H3 Lc = some (.dK []) ∧ Tr C H3 (.ref Lc) (.dict []) := hqc ▸ mk_dic A2.al hLc
    clear hqc
    have A3 := A2.kx k3
    refine ⟨len_ok, fun O hO => ?_⟩
    generalize hqo : upd H3 O _ = H4
    obtain ⟨k4, e4⟩ := new_at hO hqo
    clear hqo
    have A4 := A3.kx k4
    have k04 : Kx [] H H4 := k1.trans (k2.trans (k3.trans k4))
    have ht4 := ht.up k04
    have T4 : TrAll C H4 [.non, .bl true, .bl false, .int 0, .int (-1), .str "", .str "1", .ref La, .ref Lb, .ref Lc, .int 10000, .int 12] [.none, .bool true, .bool false, .int 0, .int (-1), .str "", .str "1", .list [], .tuple [], .dict [], .int 10000, .int 12] :=
      .cons .non (.cons (.bl _) (.cons (.bl _) (.cons (.int _) (.cons (.int _) (.cons (.str _) (.cons (.str _) (.cons (t1.up (k2.trans (k3.trans k4))) (.cons (t2.up (k3.trans k4)) (.cons (t3.up k4) (.cons (.int _) (.cons (.int _) .nil)))))))))))
    refine ⟨v, rfl, v, .ty "int", _, _, _, rfl, .ty _, ht4.ty, kit_int d, _, rfl, ite2 (fun c => ?_) (fun c => ?_)⟩
    · obtain ⟨j, ej, hj, tx, es, hx, hd1, hd2⟩ : ∃ j, asI v = some j ∧ j.natAbs ≤ M + 1 ∧ ∃ tx, strB v = some tx ∧ (reprText tx).length ≤ 140 ∧ sz d ≤ 1 ∧ d.depth ≤ 0 := by
        cases ht with
        | int i =>
          have hi : i.natAbs ≤ M := hm.bd
          refine ⟨i, rfl, by omega, _, if_pos ?_, repr_int (by omega), Nat.le_refl _, Nat.le_refl _⟩
          exact PySem.Flt.log2_lt_of (by decide) (Nat.lt_of_le_of_lt (show i.natAbs ≤ 2 ^ 40 by omega) (by decide))
        | bl b =>
          refine ⟨if b = true then 1 else 0, rfl, by split <;> omega, _, rfl, ?_, Nat.le_refl _, Nat.le_refl _⟩
          cases b <;> decide +kernel
        | _ => cases c
      refine ⟨v, rfl, _, _, ej, rfl, v, rfl, _, _, ej, rfl, v, rfl, _, _, ej, rfl, v, rfl, _, _, ej, rfl, v, rfl, v, tx, rfl, es, v, rfl, len_ok, fun Ld hLd => ?_⟩
      generalize hqd : upd H4 Ld _ = H5
      obtain ⟨k5, e5, t5⟩ : Kx [] H4 H5 ∧ H5 Ld = some (.lst [v]) ∧ Tr C H5 (.ref Ld) (.list [d]) := hqd ▸ mk_lst A4.al (.cons ht4 .nil) hLd
      clear hqd
      have A5 := A4.kx k5
      refine ⟨_, rfl, v, rfl, _, _, rfl, ej, _, _, rfl, rfl, powW_ok (b := 4) (by decide) (by decide) (by decide) (by decide), len_ok, fun O2 hO2 => ?_⟩
      generalize hq6 : upd H5 O2 _ = H6
      obtain ⟨k6, e6⟩ := new_at hO2 hq6
      clear hq6
      have A6 := A5.kx k6
      have T6 : TrAll C H6 [.int (j + 1), .int (j - 1), .int (j + 1), .int (j - 1), .str tx, .ref Ld, .bl true, .non, .int (-1 - j), .int (10 ^ (9 : Int).toNat), .int 0, .int 999] [.int (j + 1), .int (j - 1), .int (j + 1), .int (j - 1), .str tx, .list [d], .bool true, .none, .int (-1 - j), .int (10 ^ (9 : Int).toNat), .int 0, .int 999] :=
        .cons (.int _) (.cons (.int _) (.cons (.int _) (.cons (.int _) (.cons (.str _) (.cons (t5.up k6) (.cons (.bl _) (.cons .non (.cons (.int _) (.cons (.int _) (.cons (.int _) (.cons (.int _) .nil)))))))))))
      refine ⟨_, rfl, .ref p, rfl, _, rfl, O2, _, rfl, .inl (SqL.of e6), p, _, 12, C, rfl, by decide, by decide, by omega, A6, fun r H7 r0 r1 k7 A7 => ?_⟩
      obtain ⟨x, dx, a1, a2, a3⟩ := pick (A6.trs T6 k7) r0 (by simpa using r1)
      refine ⟨O2, _, r, x, rfl, rfl, SqL.of (k7.lst (A5.nep hO2) e6), a1, q _ _ _ (k04.of.trans ((k5.trans k6).of.trans k7)) A7 a2 ?_⟩
      simp only [List.mem_cons, List.mem_singleton, List.not_mem_nil, or_false] at a3
      have up : ∀ {y}, Sm (L + 1) (M + 1000000000) 1 0 y → Sm (L + 1) (M + 1000000000) 2 1 y := fun h => h.mono (Nat.le_refl _) (Nat.le_refl _) (by decide) (by decide)
      rcases a3 with rfl | rfl | rfl | rfl | rfl | rfl | rfl | rfl | rfl | rfl | rfl | rfl
      · exact up (Sm.int (by omega))
      · exact up (Sm.int (by omega))
      · exact up (Sm.int (by omega))
      · exact up (Sm.int (by omega))
      · exact up (Sm.str hx)
      · refine Sm.mkList (by simp) (by simp only [szAll]; omega) (fun y hy => ?_) (by decide)
        rw [List.mem_singleton.mp hy]
        exact ⟨(hm.mono (Nat.le_succ L) (Nat.le_add_right M 1000000000) (Nat.le_refl S) (Nat.le_refl D)).bd, by omega⟩
      · exact up (Sm.bool _)
      · exact up Sm.none
      · exact up (Sm.int (by omega))
      · exact up (Sm.int (by have : (10 ^ (9 : Int).toNat : Int) = 1000000000 := by decide
                             omega))
      · exact up (Sm.int (by omega))
      · exact up (Sm.int (by omega))
    · refine ⟨_, rfl, .ref p, rfl, _, rfl, O, _, rfl, .inl (SqL.of e4), p, _, 12, C, rfl, by decide, by decide, by omega, A4, fun r H7 r0 r1 k7 A7 => ?_⟩
      obtain ⟨x, dx, a1, a2, a3⟩ := pick (A4.trs T4 k7) r0 (by simpa using r1)
      refine ⟨O, _, r, x, rfl, rfl, SqL.of (k7.lst (A3.nep hO) e4), a1, q _ _ _ (k04.of.trans k7) A7 a2 ?_⟩
      simp only [List.mem_cons, List.mem_singleton, List.not_mem_nil, or_false] at a3
      have up : ∀ {y}, Sm (L + 1) (M + 1000000000) 1 0 y → Sm (L + 1) (M + 1000000000) 2 1 y := fun h => h.mono (Nat.le_refl _) (Nat.le_refl _) (by decide) (by decide)
      have up1 : ∀ {y}, Sm (L + 1) (M + 1000000000) 1 1 y → Sm (L + 1) (M + 1000000000) 2 1 y := fun h => h.mono (Nat.le_refl _) (Nat.le_refl _) (by decide) (by decide)
      rcases a3 with rfl | rfl | rfl | rfl | rfl | rfl | rfl | rfl | rfl | rfl | rfl | rfl
      · exact up Sm.none
      · exact up (Sm.bool _)
      · exact up (Sm.bool _)
      · exact up (Sm.int (by omega))
      · exact up (Sm.int (by omega))
      · exact up (Sm.str (by decide +kernel))
      · exact up (Sm.str (by decide +kernel))
      · exact Sm.mkList (by simp) (by simp [szAll]) (fun y hy => by simp at hy) (by decide)
      · exact Sm.mkTuple (by simp) (by simp [szAll]) (fun y hy => by simp at hy) (by decide)
      · exact up1 Sm.dict
      · exact up (Sm.int (by omega))
      · exact up (Sm.int (by omega))
/-- the items of a list or tuple -/
theorem seqV {B : List Addr} {H : Hp} {v : V} {d : PyData} (t : Tr B H v d) (h : isSeq d = true) : ∃ a xs ds, v = .ref a ∧ ((H a = some (.lst xs) ∧ d = .list ds) ∨ (H a = some (.tup xs) ∧ d = .tuple ds)) ∧ TrAll B H xs ds := by
  cases t with
  | lst _ e l => exact ⟨_, _, _, rfl, .inl ⟨e, rfl⟩, l⟩
  | tup _ e l => exact ⟨_, _, _, rfl, .inr ⟨e, rfl⟩, l⟩
  | _ => cases h
theorem Sm.seq {L M S D : Nat} {d : PyData} {ds : List PyData} (h : Sm L M S D d) (e : d = .list ds ∨ d = .tuple ds) : ds.length ≤ L ∧ szAll ds + 1 ≤ S ∧ ∀ d ∈ ds, Bd L M d ∧ d.depth + 1 ≤ D := by
  rcases e with rfl | rfl
  · exact h.items
  · exact h.itemsT
theorem Bd.up {L M L' M' : Nat} {d : PyData} (h : Bd L M d) (hL : L ≤ L') (hM : M ≤ M') : Bd L' M' d := (Sm.mono ⟨h, Nat.le_refl _, Nat.le_refl _⟩ hL hM (Nat.le_refl (sz d)) (Nat.le_refl d.depth)).bd
def sp_law_bent_row (Ts : List Addr) : Sp := fun vs H Q _ => ∃ (p : Addr) (n : Nat) (C : List Addr) (v : V) (d : PyData) (L M S D : Nat), vs = [.ref p, v] ∧ n ≤ 800000000000 ∧ At Ts C p n H ∧ Tr C H v d ∧ isSeq d = true ∧ Sm L M S D d ∧ L ≤ 100000 ∧ Draws Ts C p n 3 (Sm (L + 1) (M + 1000000000) (2 * S + 1) (D + 1)) H Q
theorem ok__law_bent_row (Y : Facts K mg base fa fd ca ta) : FnOk P w K mg base CX0 2 (fa "_law_bent_row") (fd "_law_bent_row") ["purse", "thing"] (sp_law_bent_row (Ts ta)) := by
  refine Y.d__law_bent_row.ok sc__law_bent_row (fun vs H Q E h => ?_) (fun cdv A outer s H vs Q E hcd hr h => ?_)
  · obtain ⟨p, n, C, v, d, L, M, S, D, rfl, _⟩ := h; rfl
  · obtain ⟨p, n, C, v, d, L, M, S, D, rfl, hn, hA, ht, hs, hm, hL, q⟩ := h
    refine ⟨_, (pss_cons (ps_set (i := 2) sc__law_bent_row.nd rfl (by first | exact Or.inl rfl | exact Or.inr rfl) (pe_callTy (call_listK K rfl) (by rfl) Y.b.list (by decide +kernel) (pa_cons (pv 1) pa_nil)))
      (pss_cons (ps_set (i := 3) sc__law_bent_row.nd rfl (by first | exact Or.inl rfl | exact Or.inr rfl) (pe_call (ok__law_coin Y) (hr.mono (by decide)) (by rfl) Y.d__law_coin.g Y.d__law_coin.kp Y.d__law_coin.b .nil pass0 (pa_cons (pv 0) (pa_cons (pe_op op_add (pe_callB (call_lenK K rfl) (by rfl) Y.b.len (by decide +kernel) (pa_cons (pv 2) pa_nil)) pe_int) pa_nil))))
      (pss_cons (ps_set (i := 4) sc__law_bent_row.nd rfl (by first | exact Or.inl rfl | exact Or.inr rfl) (pe_lst (pa_cons pe_non (pa_cons pe_int (pa_cons pe_bl (pa_cons (pe_lst pa_nil) (pa_cons (pe_tup pa_nil) (pa_cons pe_str (pa_cons (pe_un un_neg pe_int) (pa_cons pe_int pa_nil))))))))))
      (pss_cons (ps_set (i := 5) sc__law_bent_row.nd rfl (by first | exact Or.inl rfl | exact Or.inr rfl) (pe_ix (ix_listK K rfl) (pv 4) (pe_call (ok__law_coin Y) (hr.mono (by decide)) (by rfl) Y.d__law_coin.g Y.d__law_coin.kp Y.d__law_coin.b .nil pass0 (pa_cons (pv 0) (pa_cons (pe_callB (call_lenK K rfl) (by rfl) Y.b.len (by decide +kernel) (pa_cons (pv 4) pa_nil)) pa_nil))) (fun _ _ => rfl)))
      (pss_cons (ps_set (i := 6) sc__law_bent_row.nd rfl (by first | exact Or.inl rfl | exact Or.inr rfl) (pe_lst (pa_cons (pe_op op_cat (pe_slice (sl_listK K rfl) (pv 2) po_none (po_some (pv 3))) (pe_slice (sl_listK K rfl) (pv 2) (po_some (pe_op op_add (pv 3) pe_int)) po_none)) (pa_cons (pe_op op_cat (pe_slice (sl_listK K rfl) (pv 2) po_none (po_some (pe_op op_add (pv 3) pe_int))) (pe_slice (sl_listK K rfl) (pv 2) (po_some (pv 3)) po_none)) (pa_cons (pe_op op_cat (pe_op op_cat (pe_slice (sl_listK K rfl) (pv 2) po_none (po_some (pv 3))) (pe_lst (pa_cons (pv 5) pa_nil))) (pe_slice (sl_listK K rfl) (pv 2) (po_some (pv 3)) po_none)) (pa_cons (pe_revLK (j := 0) K rfl (pv 2)) (pa_cons (pv 2) pa_nil)))))))
      (pss_cons (ps_set (i := 7) sc__law_bent_row.nd rfl (by first | exact Or.inl rfl | exact Or.inr rfl) (pe_call (ok__law_coin Y) (hr.mono (by decide)) (by rfl) Y.d__law_coin.g Y.d__law_coin.kp Y.d__law_coin.b .nil pass0 (pa_cons (pv 0) (pa_cons pe_int pa_nil))))
      (pss_one (ps_ret (pe_ifExp (pt_cmpR op_eq (pe_callB (call_isiK' K rfl) (by rfl) Y.b.isinstance (by decide +kernel) (pa_cons (pv 1) (pa_cons (pe_bltn (v := .ty "list") (by rfl) Y.b.list (by decide +kernel) rfl) pa_nil))) (pe_cmpR op_lt (pv 7) pe_int (nomark _)) (nomark _)) (pe_ix (ix_listK K rfl) (pv 6) (pv 7) (fun _ _ => rfl)) (pe_callTy (call_tupleK K rfl) (by rfl) Y.b.tuple (by decide +kernel) (pa_cons (pe_ix (ix_listK K rfl) (pv 6) (pv 7) (fun _ _ => rfl)) pa_nil))))))))))), ?_⟩
    obtain ⟨a, xs, ds, rfl, hx, txs⟩ := seqV ht hs
    have hlen := txs.length
    obtain ⟨b1, b2, b3⟩ := Sm.seq hm (hx.elim (fun z => .inl z.2) fun z => .inr z.2)
    have hx' : SqL K H a xs ∨ SqT K H a xs := hx.elim (fun z => .inl (SqL.of z.1)) fun z => .inr (SqT.of z.1)
    refine ⟨.ref a, rfl, a, xs, rfl, hx', fun La hLa => ?_⟩
    generalize hq : upd H La _ = H1
    obtain ⟨k1, e1, t1⟩ : Kx [] H H1 ∧ H1 La = some (.lst xs) ∧ Tr C H1 (.ref La) (.list ds) := hq ▸ mk_lst hA.al txs hLa
    clear hq
    have A1 := hA.kx k1
    refine ⟨.ref p, rfl, .ref La, rfl, La, xs, rfl, .inl (SqL.of e1), _, _, rfl, rfl, p, _, (xs.length : Int) + 1, C, rfl, by omega, by omega, by omega, A1, fun at_ H2 at0 at1 k2 A2 => ?_⟩
    obtain ⟨at', rfl⟩ : ∃ m : Nat, at_ = (m : Int) := ⟨at_.toNat, by omega⟩
    have e1' := k2.lst (hA.nep hLa) e1
    have t1' := A1.tr t1 k2
    refine ⟨len_ok, fun Lb hLb => ?_⟩
    generalize hq : upd H2 Lb _ = H3
    obtain ⟨k3, e3, t3⟩ : Kx [] H2 H3 ∧ H3 Lb = some (.lst []) ∧ Tr C H3 (.ref Lb) (.list []) := hq ▸ mk_lst A2.al .nil hLb
    clear hq
    have A3 := A2.kx k3
    refine ⟨len_ok, fun Lc hLc => ?_⟩
    generalize hq : upd H3 Lc _ = H4
    obtain ⟨k4, e4, t4⟩ : Kx [] H3 H4 ∧ H4 Lc = some (.tup []) ∧ Tr C H4 (.ref Lc) (.tuple []) := hq ▸ mk_tup A3.al .nil hLc
    clear hq
    have A4 := A3.kx k4
    refine ⟨_, rfl, len_ok, fun Ld hLd => ?_⟩
    generalize hq : upd H4 Ld _ = H5
    obtain ⟨k5, e5, t5⟩ : Kx [] H4 H5 ∧ H5 Ld = some (.lst [.non, .int 0, .bl true, .ref Lb, .ref Lc, .str "a", .int (-1), .int 1]) ∧ Tr C H5 (.ref Ld) (.list [.none, .int 0, .bool true, .list [], .tuple [], .str "a", .int (-1), .int 1]) := hq ▸ mk_lst A4.al (.cons .non (.cons (.int 0) (.cons (.bl true) (.cons (t3.up k4) (.cons t4 (.cons (.str "a") (.cons (.int (-1)) (.cons (.int 1) .nil)))))))) hLd
    clear hq
    have A5 := A4.kx k5
    refine ⟨.ref Ld, rfl, .ref p, rfl, .ref Ld, rfl, Ld, _, rfl, .inl (SqL.of e5), p, _, 8, C, rfl, by decide, by decide, by omega, A5, fun r H6 r0 r1 k6 A6 => ?_⟩
    obtain ⟨ys, ey, ty⟩ := (A5.tr t5 k6).items
    obtain ⟨odd, dod, a1, t_odd, a3⟩ := pick ty r0 (by have := ty.length; simp at this; omega)
    have s_odd : Sm (L + 1) (M + 1000000000) 1 1 dod := by
      have up : ∀ {y}, Sm (L + 1) (M + 1000000000) 1 0 y → Sm (L + 1) (M + 1000000000) 1 1 y := fun h => h.mono (Nat.le_refl _) (Nat.le_refl _) (by decide) (by decide)
      simp only [List.mem_cons, List.mem_singleton, List.not_mem_nil, or_false] at a3
      rcases a3 with rfl | rfl | rfl | rfl | rfl | rfl | rfl | rfl
      · exact up Sm.none
      · exact up (Sm.int (by omega))
      · exact up (Sm.bool _)
      · exact Sm.mkList (by simp) (by simp [szAll]) (fun y hy => by simp at hy) (by decide)
      · exact Sm.mkTuple (by simp) (by simp [szAll]) (fun y hy => by simp at hy) (by decide)
      · exact up (Sm.str (by decide +kernel))
      · exact up (Sm.int (by omega))
      · exact up (Sm.int (by omega))
    refine ⟨Ld, ys, r, odd, rfl, rfl, SqL.of ey, a1, ?_⟩
    have k26 : Kx [p] H2 H6 := (k3.trans (k4.trans k5)).of.trans k6
    obtain ⟨zs, ez, tz⟩ := (A2.tr t1' k26).items
    have e6 : H6 La = some (.lst xs) := k26.lst (hA.nep hLa) e1'
    rw [e6] at ez
    cases ez
    have tz6 := tz
    have e6_ := e6
    refine ⟨.ref La, rfl, .int at', rfl, _, rfl, La, xs, rfl, SqL.of e6_, fun S1 hS1 => ?_⟩
    generalize hq : upd H6 S1 _ = H7
    obtain ⟨k7, e7, t7⟩ : Kx [] H6 H7 ∧ H7 S1 = some (.lst (cutV xs none (some (at' : Int)))) ∧ Tr C H7 (.ref S1) (.list (ds.take at')) := hq ▸ mk_lst A6.al (by rw [cut_hi]; exact tz6.take at') hS1
    clear hq
    have A7 := A6.kx k7
    have tz7 := tz6.up k7
    have e7_ := k7.lst (by simp) e6_
    refine ⟨.ref La, rfl, .int at', rfl, _, _, rfl, rfl, _, rfl, La, xs, rfl, SqL.of e7_, fun S2 hS2 => ?_⟩
    generalize hq : upd H7 S2 _ = H8
    obtain ⟨k8, e8, t8⟩ : Kx [] H7 H8 ∧ H8 S2 = some (.lst (cutV xs (some ((at' : Int) + 1)) none)) ∧ Tr C H8 (.ref S2) (.list (ds.drop (at' + 1))) := hq ▸ mk_lst A7.al (by rw [cut_lo1]; exact tz7.drop (at' + 1)) hS2
    clear hq
    have A8 := A7.kx k8
    have tz8 := tz7.up k8
    have e8_ := k8.lst (by simp) e7_
    refine ⟨S1, S2, _, _, rfl, rfl, (k8.lst (by simp) e7), e8, (by have h1 := cutV_length xs none (some (at' : Int)); have h2 := cutV_length xs none (some ((at' : Int) + 1)); have h3 := cutV_length xs (some (at' : Int)) none; have h4 := cutV_length xs (some ((at' : Int) + 1)) none; unfold sizeLine; (try simp only [List.length_append, List.length_cons, List.length_nil]); omega), fun R1 hR1 => ?_⟩
    generalize hq : upd H8 R1 _ = H9
    obtain ⟨k9, e9, t9⟩ : Kx [] H8 H9 ∧ H9 R1 = some (.lst (cutV xs none (some (at' : Int)) ++ cutV xs (some ((at' : Int) + 1)) none)) ∧ Tr C H9 (.ref R1) (.list (ds.take at' ++ ds.drop (at' + 1))) := hq ▸ mk_lst A8.al (by rw [cut_hi, cut_lo1]; exact (tz8.take _).append (tz8.drop _)) hR1
    clear hq
    have A9 := A8.kx k9
    have tz9 := tz8.up k9
    have e9_ := k9.lst (by simp) e8_
    refine ⟨.ref La, rfl, .int at', rfl, _, _, rfl, rfl, _, rfl, La, xs, rfl, SqL.of e9_, fun S3 hS3 => ?_⟩
    generalize hq : upd H9 S3 _ = H10
    obtain ⟨k10, e10, t10⟩ : Kx [] H9 H10 ∧ H10 S3 = some (.lst (cutV xs none (some ((at' : Int) + 1)))) ∧ Tr C H10 (.ref S3) (.list (ds.take (at' + 1))) := hq ▸ mk_lst A9.al (by rw [cut_hi1]; exact tz9.take (at' + 1)) hS3
    clear hq
    have A10 := A9.kx k10
    have tz10 := tz9.up k10
    have e10_ := k10.lst (by simp) e9_
    refine ⟨.ref La, rfl, .int at', rfl, _, rfl, La, xs, rfl, SqL.of e10_, fun S4 hS4 => ?_⟩
    generalize hq : upd H10 S4 _ = H11
    obtain ⟨k11, e11, t11⟩ : Kx [] H10 H11 ∧ H11 S4 = some (.lst (cutV xs (some (at' : Int)) none)) ∧ Tr C H11 (.ref S4) (.list (ds.drop at')) := hq ▸ mk_lst A10.al (by rw [cut_lo]; exact tz10.drop at') hS4
    clear hq
    have A11 := A10.kx k11
    have tz11 := tz10.up k11
    have e11_ := k11.lst (by simp) e10_
    refine ⟨S3, S4, _, _, rfl, rfl, (k11.lst (by simp) e10), e11, (by have h1 := cutV_length xs none (some (at' : Int)); have h2 := cutV_length xs none (some ((at' : Int) + 1)); have h3 := cutV_length xs (some (at' : Int)) none; have h4 := cutV_length xs (some ((at' : Int) + 1)) none; unfold sizeLine; (try simp only [List.length_append, List.length_cons, List.length_nil]); omega), fun R2 hR2 => ?_⟩
    generalize hq : upd H11 R2 _ = H12
    obtain ⟨k12, e12, t12⟩ : Kx [] H11 H12 ∧ H12 R2 = some (.lst (cutV xs none (some ((at' : Int) + 1)) ++ cutV xs (some (at' : Int)) none)) ∧ Tr C H12 (.ref R2) (.list (ds.take (at' + 1) ++ ds.drop at')) := hq ▸ mk_lst A11.al (by rw [cut_hi1, cut_lo]; exact (tz11.take _).append (tz11.drop _)) hR2
    clear hq
    have A12 := A11.kx k12
    have tz12 := tz11.up k12
    have e12_ := k12.lst (by simp) e11_
    refine ⟨.ref La, rfl, .int at', rfl, _, rfl, La, xs, rfl, SqL.of e12_, fun S5 hS5 => ?_⟩
    generalize hq : upd H12 S5 _ = H13
    obtain ⟨k13, e13, t13⟩ : Kx [] H12 H13 ∧ H13 S5 = some (.lst (cutV xs none (some (at' : Int)))) ∧ Tr C H13 (.ref S5) (.list (ds.take at')) := hq ▸ mk_lst A12.al (by rw [cut_hi]; exact tz12.take at') hS5
    clear hq
    have A13 := A12.kx k13
    have tz13 := tz12.up k13
    have e13_ := k13.lst (by simp) e12_
    have to13 := t_odd.up (k7.trans (k8.trans (k9.trans (k10.trans (k11.trans (k12.trans k13))))))
    refine ⟨_, rfl, len_ok, fun O1 hO1 => ?_⟩
    generalize hq : upd H13 O1 _ = H14
    obtain ⟨k14, e14, t14⟩ : Kx [] H13 H14 ∧ H14 O1 = some (.lst [odd]) ∧ Tr C H14 (.ref O1) (.list [dod]) := hq ▸ mk_lst A13.al (.cons to13 .nil) hO1
    clear hq
    have A14 := A13.kx k14
    have tz14 := tz13.up k14
    have e14_ := k14.lst (by simp) e13_
    refine ⟨S5, O1, _, _, rfl, rfl, (k14.lst (by simp) e13), e14, (by have h1 := cutV_length xs none (some (at' : Int)); have h2 := cutV_length xs none (some ((at' : Int) + 1)); have h3 := cutV_length xs (some (at' : Int)) none; have h4 := cutV_length xs (some ((at' : Int) + 1)) none; unfold sizeLine; (try simp only [List.length_append, List.length_cons, List.length_nil]); omega), fun W hW => ?_⟩
    generalize hq : upd H14 W _ = H15
    obtain ⟨k15, e15, t15⟩ : Kx [] H14 H15 ∧ H15 W = some (.lst (cutV xs none (some (at' : Int)) ++ [odd])) ∧ Tr C H15 (.ref W) (.list (ds.take at' ++ [dod])) := hq ▸ mk_lst A14.al (by rw [cut_hi]; exact (tz14.take _).append (.cons (to13.up k14) .nil)) hW
    clear hq
    have A15 := A14.kx k15
    have tz15 := tz14.up k15
    have e15_ := k15.lst (by simp) e14_
    refine ⟨.ref La, rfl, .int at', rfl, _, rfl, La, xs, rfl, SqL.of e15_, fun S6 hS6 => ?_⟩
    generalize hq : upd H15 S6 _ = H16
    obtain ⟨k16, e16, t16⟩ : Kx [] H15 H16 ∧ H16 S6 = some (.lst (cutV xs (some (at' : Int)) none)) ∧ Tr C H16 (.ref S6) (.list (ds.drop at')) := hq ▸ mk_lst A15.al (by rw [cut_lo]; exact tz15.drop at') hS6
    clear hq
    have A16 := A15.kx k16
    have tz16 := tz15.up k16
    have e16_ := k16.lst (by simp) e15_
    refine ⟨W, S6, _, _, rfl, rfl, (k16.lst (by simp) e15), e16, (by have h1 := cutV_length xs none (some (at' : Int)); have h2 := cutV_length xs none (some ((at' : Int) + 1)); have h3 := cutV_length xs (some (at' : Int)) none; have h4 := cutV_length xs (some ((at' : Int) + 1)) none; unfold sizeLine; (try simp only [List.length_append, List.length_cons, List.length_nil]); omega), fun R3 hR3 => ?_⟩
    generalize hq : upd H16 R3 _ = H17
    obtain ⟨k17, e17, t17⟩ : Kx [] H16 H17 ∧ H17 R3 = some (.lst (cutV xs none (some (at' : Int)) ++ [odd] ++ cutV xs (some (at' : Int)) none)) ∧ Tr C H17 (.ref R3) (.list (ds.take at' ++ [dod] ++ ds.drop at')) := hq ▸ mk_lst A16.al (by rw [cut_hi, cut_lo]; exact ((tz16.take _).append (.cons (to13.up (k14.trans (k15.trans k16))) .nil)).append (tz16.drop _)) hR3
    clear hq
    have A17 := A16.kx k17
    have tz17 := tz16.up k17
    have e17_ := k17.lst (by simp) e16_
    refine ⟨.ref La, rfl, La, xs, rfl, SqL.of e17_, fun R4 hR4 => ?_⟩
    generalize hq : upd H17 R4 _ = H18
    obtain ⟨k18, e18, t18⟩ : Kx [] H17 H18 ∧ H18 R4 = some (.lst xs.reverse) ∧ Tr C H18 (.ref R4) (.list ds.reverse) := hq ▸ mk_lst A17.al tz17.reverse hR4
    clear hq
    have A18 := A17.kx k18
    have tz18 := tz17.up k18
    have e18_ := k18.lst (by simp) e17_
    refine ⟨_, rfl, len_ok, fun O hO => ?_⟩
    generalize hq : upd H18 O _ = H19
    obtain ⟨k19, e19, t19⟩ : Kx [] H18 H19 ∧ H19 O = some (.lst [.ref R1, .ref R2, .ref R3, .ref R4, .ref La]) ∧ Tr C H19 (.ref O) (.list [.list (ds.take at' ++ ds.drop (at' + 1)), .list (ds.take (at' + 1) ++ ds.drop at'), .list (ds.take at' ++ [dod] ++ ds.drop at'), .list ds.reverse, .list ds]) := hq ▸ mk_lst A18.al (.cons (t9.up (k10.trans (k11.trans (k12.trans (k13.trans (k14.trans (k15.trans (k16.trans (k17.trans k18))))))))) (.cons (t12.up (k13.trans (k14.trans (k15.trans (k16.trans (k17.trans k18)))))) (.cons (t17.up k18) (.cons t18 (.cons (.lst (hA.not hLa) e18_ tz18) .nil))))) hO
    clear hq
    have A19 := A18.kx k19
    refine ⟨.ref p, rfl, p, _, 5, C, rfl, by decide, by decide, by omega, A19, fun wy H20 w0 w1 k20 A20 => ?_⟩
    have kall : Kx [p] H H20 := k1.of.trans (k2.trans (k26.trans ((k7.trans (k8.trans (k9.trans (k10.trans (k11.trans (k12.trans (k13.trans (k14.trans (k15.trans (k16.trans (k17.trans (k18.trans k19)))))))))))).of.trans k20)))
    have ht20 := hA.tr ht kall
    obtain ⟨us, eu, tu⟩ := (A19.tr t19 k20).items
    obtain ⟨x, dx, a4, a5, a6⟩ := pick tu w0 (by have := tu.length; simp at this; omega)
    have good : ∃ es, dx = .list es ∧ es.length ≤ L + 1 ∧ szAll es + 1 ≤ 2 * S + 1 ∧ ∀ d ∈ es, Bd (L + 1) (M + 1000000000) d ∧ d.depth + 1 ≤ D + 1 := by
      have hb : ∀ d ∈ ds, Bd (L + 1) (M + 1000000000) d ∧ d.depth + 1 ≤ D + 1 := fun d hd => ⟨Bd.up (b3 d hd).1 (by omega) (by omega), by have := (b3 d hd).2; omega⟩
      have ho : Bd (L + 1) (M + 1000000000) dod ∧ dod.depth + 1 ≤ D + 1 := ⟨s_odd.bd, by
        have h1 := s_odd.dp
        have h2 : 1 ≤ D := by
          have := hm.dp
          rcases hx with z | z <;> (rw [z.2] at this; simp only [PyData.depth] at this; omega)
        omega⟩
      have so := s_odd.sz
      have z1 := szAll_take ds at'
      have z2 := szAll_take ds (at' + 1)
      have l1 : (ds.take at').length ≤ at' := List.length_take_le _ _
      simp only [List.mem_cons, List.mem_singleton, List.not_mem_nil, or_false] at a6
      rcases a6 with rfl | rfl | rfl | rfl | rfl
      · refine ⟨_, rfl, by simp only [List.length_append, List.length_take, List.length_drop]; omega, by rw [szAll_append]; omega, fun d hd => ?_⟩
        rcases List.mem_append.mp hd with z | z
        · exact hb d (List.mem_of_mem_take z)
        · exact hb d (List.mem_of_mem_drop z)
      · refine ⟨_, rfl, by simp only [List.length_append, List.length_take, List.length_drop]; omega, by rw [szAll_append]; omega, fun d hd => ?_⟩
        rcases List.mem_append.mp hd with z | z
        · exact hb d (List.mem_of_mem_take z)
        · exact hb d (List.mem_of_mem_drop z)
      · refine ⟨_, rfl, by simp only [List.length_append, List.length_take, List.length_drop, List.length_cons, List.length_nil]; omega, by rw [szAll_append, szAll_append]; simp only [szAll]; omega, fun d hd => ?_⟩
        rcases List.mem_append.mp hd with z | z
        · rcases List.mem_append.mp z with z | z
          · exact hb d (List.mem_of_mem_take z)
          · rw [List.mem_singleton.mp z]; exact ho
        · exact hb d (List.mem_of_mem_drop z)
      · exact ⟨_, rfl, by rw [List.length_reverse]; omega, by rw [szAll_reverse]; omega, fun d hd => hb d (List.mem_reverse.mp hd)⟩
      · exact ⟨_, rfl, by omega, by omega, hb⟩
    obtain ⟨es, rfl, g1, g2, g3⟩ := good
    refine ⟨.ref a, rfl, .ref a, .ty "list", _, _, _, rfl, .ty _, ht20.ty, kit_list d, _, rfl, _, _, rfl, rfl, rfl, _, rfl, ite2 (fun c => ?_) (fun c => ?_)⟩
    · exact ⟨_, rfl, _, rfl, O, us, wy, x, rfl, rfl, SqL.of eu, a4, q _ _ _ kall (A20.mono (by omega)) a5 (Sm.mkList g1 g2 g3 (by omega))⟩
    · obtain ⟨ax, xx, rfl, ex, tx⟩ := a5.listV
      refine ⟨_, rfl, _, rfl, O, us, wy, .ref ax, rfl, rfl, SqL.of eu, a4, ax, xx, rfl, .inl ⟨SqL.of ex, fun T hT => ?_⟩⟩
      obtain ⟨k21, e21, t21⟩ := mk_tup A20.al tx hT
      exact q _ _ _ (kall.trans k21.of) ((A20.kx k21).mono (by omega)) t21 (Sm.mkTuple g1 g2 g3 (by omega))
end
end Law

set_option Elab.async false
set_option linter.all false
set_option maxRecDepth 100000
set_option maxHeartbeats 4000000
namespace Law
open PySem PySem.Spec PyProof.Rows L2 GxR GX Tree Kit Data Loops Comps Purse Sets Small Ib
section
variable {P : Program} {w : World} {K : PySem.W.Frag} {mg : Str → Option Value} {base : Heap} {fa : String → Addr} {fd : String → FuncData} {ca ta : String → Addr}
theorem fn_false {k : Nat} {f : Addr} {fd : FuncData} {ps : List Str} : FnOk P w K mg base CX0 k f fd ps (fun _ _ _ _ => False) := ⟨fun _ _ _ _ h => h.elim, fun _ _ _ _ _ _ _ _ _ _ _ _ _ h => h.elim⟩
theorem kit_seq (d : PyData) : PySem.W.kitAny K (.type (tyD d)) [.type "list", .type "tuple"] = some (isSeq d) := by
  unfold PySem.W.kitAny
  rw [kit_list d]
  cases d with
  | list _ => rfl
  | tuple xs =>
    show PySem.W.kitAny K (.type (tyD (.tuple xs))) [.type "tuple"] = _
    unfold PySem.W.kitAny
    rw [kit_tuple]
    rfl
  | none => show PySem.W.kitAny K (.type (tyD .none)) [.type "tuple"] = _; unfold PySem.W.kitAny; rw [kit_tuple]; rfl
  | bool b => show PySem.W.kitAny K (.type (tyD (.bool b))) [.type "tuple"] = _; unfold PySem.W.kitAny; rw [kit_tuple]; rfl
  | int i => show PySem.W.kitAny K (.type (tyD (.int i))) [.type "tuple"] = _; unfold PySem.W.kitAny; rw [kit_tuple]; rfl
  | str x => show PySem.W.kitAny K (.type (tyD (.str x))) [.type "tuple"] = _; unfold PySem.W.kitAny; rw [kit_tuple]; rfl
  | dict x => show PySem.W.kitAny K (.type (tyD (.dict x))) [.type "tuple"] = _; unfold PySem.W.kitAny; rw [kit_tuple]; rfl
/-- a slice of a list or a tuple -/
theorem sliceE {H : Hp} {a : Addr} {xs : List V} {lo hi : Option Int} {Q : VK} (hx : H a = some (.lst xs) ∨ H a = some (.tup xs))
    (q : ∀ b H', Kx [] H H' → (SqL K H' b (cutV xs lo hi) ∨ SqT K H' b (cutV xs lo hi)) → Q (.ref b) H') : rSlL K (.ref a) lo hi H Q ∨ rSlA K (.ref a) lo hi H Q := by
  rcases hx with h | h
  · exact .inl ⟨a, xs, rfl, SqL.of h, fun p hp => q p _ (Kx.new hp) (.inl (SqL.of upd_same))⟩
  · refine .inr ⟨a, xs, rfl, SqT.of h, fun z => ?_, fun _ p hp => q p _ (Kx.new hp) (.inr (SqT.of upd_same))⟩
    have e : cutV xs lo hi = xs := by
      unfold cutV
      rw [z.1, z.2, List.drop_zero, Nat.sub_zero, List.take_length]
    exact q a H (Kx.refl H) (.inr (by rw [e]; exact SqT.of h))
def sp_law_bent (Ts : List Addr) (k : Nat) : Sp := fun vs H Q _ => ∃ (p : Addr) (n : Nat) (C : List Addr) (v : V) (d : PyData) (L M S : Nat), vs = [.ref p, v] ∧ n + 10 * (k + 1) ≤ 800000000000 ∧ At Ts C p n H ∧ Tr C H v d ∧ Sm L M S k d ∧ L ≤ 100000 ∧ M ≤ 50000000000 ∧ Draws Ts C p n (10 * (k + 1)) (Sm (L + 1) (M + 1000000000) (2 * S + 1) (k + 1)) H Q
theorem bent_step (Y : Facts K mg base fa fd ca ta) (k : Nat) (spR : Sp) (IH : FnOk P w K mg base CX0 (k + 3) (fa "_law_bent") (fd "_law_bent") ["purse", "thing"] spR) (hR : ∀ vs H Q E, 0 < k → sp_law_bent (Ts ta) (k - 1) vs H Q E → spR vs H Q E) :
    FnOk P w K mg base CX0 (k + 4) (fa "_law_bent") (fd "_law_bent") ["purse", "thing"] (sp_law_bent (Ts ta) k) := by
  refine Y.d__law_bent.ok sc__law_bent (fun vs H Q E h => ?_) (fun cdv A outer s H vs Q E hcd hr0 h => ?_)
  · obtain ⟨p, n, C, v, d, L, M, S, rfl, _⟩ := h; rfl
  · obtain ⟨p, n, C, v, d, L, M, S, rfl, hn, hA, ht, hm, hL, hM, q⟩ := h
    have hr : Room 3 (A.deeper (envOfC "_law_bent" (defScope s__law_bent) s.heap.objs.size (fa "_law_bent") cdv)) := hr0.mono (by omega)
    have hS : 1 ≤ S := Nat.le_trans (sz_pos d) hm.sz
    refine ⟨_, (pss_cons (ps_if (pt_not (pt_val (pe_callB (call_isiTK K rfl) (by rfl) Y.b.isinstance (by decide +kernel) (pa_cons (pv 1) (pa_cons (pe_tup (pa_cons (pe_bltn (v := .ty "list") (by rfl) Y.b.list (by decide +kernel) rfl) (pa_cons (pe_bltn (v := .ty "tuple") (by rfl) Y.b.tuple (by decide +kernel) rfl) pa_nil))) pa_nil))))) (pss_one (ps_ret (pe_call (ok__law_other Y) (hr.mono (by decide)) (by rfl) Y.d__law_other.g Y.d__law_other.kp Y.d__law_other.b .nil pass0 (pa_cons (pv 0) (pa_cons (pv 1) pa_nil))))) pss_nil)
      (pss_cons (ps_if ((pw_or (pt_cmpR op_eq (pe_callB (call_lenK K rfl) (by rfl) Y.b.len (by decide +kernel) (pa_cons (pv 1) pa_nil)) pe_int (nomark _)) (pw_or1 (pt_cmpR op_eq (pe_call (ok__law_coin Y) (hr.mono (by decide)) (by rfl) Y.d__law_coin.g Y.d__law_coin.kp Y.d__law_coin.b .nil pass0 (pa_cons (pv 0) (pa_cons pe_int pa_nil))) pe_int (nomark _))))).pt (pss_one (ps_ret (pe_call (ok__law_bent_row Y) (hr.mono (by decide)) (by rfl) Y.d__law_bent_row.g Y.d__law_bent_row.kp Y.d__law_bent_row.b .nil pass0 (pa_cons (pv 0) (pa_cons (pv 1) pa_nil))))) pss_nil)
      (pss_cons (ps_set (i := 2) sc__law_bent.nd rfl (by first | exact Or.inl rfl | exact Or.inr rfl) (pe_call (ok__law_coin Y) (hr.mono (by decide)) (by rfl) Y.d__law_coin.g Y.d__law_coin.kp Y.d__law_coin.b .nil pass0 (pa_cons (pv 0) (pa_cons (pe_callB (call_lenK K rfl) (by rfl) Y.b.len (by decide +kernel) (pa_cons (pv 1) pa_nil)) pa_nil))))
      (pss_cons (ps_set (i := 3) sc__law_bent.nd rfl (by first | exact Or.inl rfl | exact Or.inr rfl) (pe_op op_cat (pe_op op_cat (pe_callTy (call_listK K rfl) (by rfl) Y.b.list (by decide +kernel) (pa_cons (pe_slice ((sl_listK K rfl).or (sl_tupAK K rfl)) (pv 1) po_none (po_some (pv 2))) pa_nil)) (pe_lst (pa_cons (pe_call IH hr0 (by rfl) Y.d__law_bent.g Y.d__law_bent.kp Y.d__law_bent.b .nil pass0 (pa_cons (pv 0) (pa_cons (pe_ix ((ix_listK K rfl).or (ix_tupK K rfl)) (pv 1) (pv 2) (fun _ _ => rfl)) pa_nil))) pa_nil))) (pe_callTy (call_listK K rfl) (by rfl) Y.b.list (by decide +kernel) (pa_cons (pe_slice ((sl_listK K rfl).or (sl_tupAK K rfl)) (pv 1) (po_some (pe_op op_add (pv 2) pe_int)) po_none) pa_nil))))
      (pss_one (ps_ret (pe_ifExp (pt_val (pe_callB (call_isiK' K rfl) (by rfl) Y.b.isinstance (by decide +kernel) (pa_cons (pv 1) (pa_cons (pe_bltn (v := .ty "list") (by rfl) Y.b.list (by decide +kernel) rfl) pa_nil)))) (pv 3) (pe_callTy (call_tupleK K rfl) (by rfl) Y.b.tuple (by decide +kernel) (pa_cons (pv 3) pa_nil))))))))), ?_⟩
    refine ⟨v, rfl, len_ok, fun Tp hTp => ?_⟩
    generalize hq : upd H Tp _ = H1
    obtain ⟨k1, e1⟩ := new_at hTp hq
    clear hq
    have A1 := hA.kx k1
    have ht1 := ht.up k1
    refine ⟨v, Tp, _, _, _, _, rfl, e1, .cons (.ty "list") (.cons (.ty "tuple") .nil), ht1.ty, kit_seq d, _, rfl, ?_⟩
    cases hs : isSeq d with
    | false =>
      refine iteT ⟨.ref p, rfl, v, rfl, p, n, C, v, d, L, M, S, k, rfl, by omega, A1, ht1, hs, hm, hM, fun v' d' H' k2 A2 t2 g2 => ?_⟩
      exact q v' d' H' (k1.of.trans k2) (A2.mono (by omega)) t2 (g2.mono (Nat.le_refl _) (Nat.le_refl _) (by omega) (by omega))
    | true =>
      refine iteF ?_
      obtain ⟨a, xs, ds, rfl, hx, txs⟩ := seqV ht1 hs
      have hlen := txs.length
      obtain ⟨b1, b2, b3⟩ := Sm.seq hm (hx.elim (fun z => .inl z.2) fun z => .inr z.2)
      have hx' : SqL K H1 a xs ∨ SqT K H1 a xs := hx.elim (fun z => .inl (SqL.of z.1)) fun z => .inr (SqT.of z.1)
      have row : ∀ (n' : Nat) (H2 : Hp) (E' : XK), n' ≤ n + 1 → Kx [p] H1 H2 → At (Ts ta) C p n' H2 → sp_law_bent_row (Ts ta) [.ref p, .ref a] H2 Q E' := fun n' H2 E' hn' k2 A2 =>
        ⟨p, n', C, .ref a, d, L, M, S, k, rfl, by omega, A2, A1.tr ht1 k2, hs, hm, hL, fun v' d' H' k3 A3 t3 g3 => q v' d' H' (k1.of.trans (k2.trans k3)) (A3.mono (by omega)) t3 g3⟩
      refine ⟨.ref a, rfl, a, xs, rfl, hx', rfl, _, rfl, ite2 (fun _ => ?_) (fun c0 => ?_)⟩
      · exact ⟨.ref p, rfl, .ref a, rfl, row n H1 E0 (by omega) (Kx.refl _) A1⟩
      have hpos : 0 < xs.length := by
        rcases Nat.eq_zero_or_pos xs.length with z | z
        · rw [z] at c0
          exact absurd (decide_eq_true rfl) c0
        · exact z
      refine ⟨.ref p, rfl, p, n, 5, C, rfl, by decide, by decide, by omega, A1, fun r H2 r0 r1 k2 A2 => ⟨rfl, _, rfl, ite2 (fun _ => ?_) (fun _ => ?_)⟩⟩
      · exact ⟨.ref p, rfl, .ref a, rfl, row (n + 1) H2 E0 (by omega) k2 A2⟩
      have ht2 := A1.tr ht1 k2
      have np : a ∉ [p] := fun z => by
        rw [List.mem_singleton.mp z] at ht1
        exact ht1.out A1.mem
      have hx2 : (H2 a = some (.lst xs) ∧ d = .list ds) ∨ (H2 a = some (.tup xs) ∧ d = .tuple ds) := hx.elim (fun z => .inl ⟨k2.lst np z.1, z.2⟩) fun z => .inr ⟨k2.tup np z.1, z.2⟩
      have hx2' : SqL K H2 a xs ∨ SqT K H2 a xs := hx2.elim (fun z => .inl (SqL.of z.1)) fun z => .inr (SqT.of z.1)
      have txs2 := A1.trs txs k2
      refine ⟨.ref p, rfl, .ref a, rfl, a, xs, rfl, hx2', p, n + 1, (xs.length : Int), C, rfl, by omega, by omega, by omega, A2, fun at_ H3 at0 at1 k3 A3 => ?_⟩
      obtain ⟨at', rfl⟩ : ∃ m : Nat, at_ = (m : Int) := ⟨at_.toNat, by omega⟩
      have hx3 : (H3 a = some (.lst xs) ∧ d = .list ds) ∨ (H3 a = some (.tup xs) ∧ d = .tuple ds) := hx2.elim (fun z => .inl ⟨k3.lst np z.1, z.2⟩) fun z => .inr ⟨k3.tup np z.1, z.2⟩
      have txs3 := A2.trs txs2 k3
      -- list(thing[:at])
      refine ⟨.ref a, rfl, _, rfl, _, rfl, sliceE (hx3.elim (fun z => .inl z.1) fun z => .inr z.1) fun b1 H4 k4 h4 => ⟨b1, _, rfl, h4, fun L1 hL1 => ?_⟩⟩
      rw [cut_hi]
      have A4 := A3.kx k4
      generalize hq : upd H4 L1 _ = H5
      obtain ⟨k5, e5, t5⟩ : Kx [] H4 H5 ∧ H5 L1 = some (.lst (xs.take at')) ∧ Tr C H5 (.ref L1) (.list (ds.take at')) := hq ▸ mk_lst A4.al ((txs3.up k4).take at') hL1
      clear hq
      have A5 := A4.kx k5
      -- the item
      have hx5 : (H5 a = some (.lst xs) ∧ d = .list ds) ∨ (H5 a = some (.tup xs) ∧ d = .tuple ds) := hx3.elim (fun z => .inl ⟨k5.lst (by simp) (k4.lst (by simp) z.1), z.2⟩) fun z => .inr ⟨k5.tup (by simp) (k4.tup (by simp) z.1), z.2⟩
      have txs5 := txs3.up (k4.trans k5)
      have hlt : at' < ds.length := by omega
      obtain ⟨x, ex, tx⟩ := txs5.get' (List.getElem?_eq_getElem hlt)
      have hdx : ds[at'] ∈ ds := List.getElem_mem hlt
      have hk : 0 < k := by
        have := (b3 _ hdx).2
        omega
      refine ⟨.ref p, rfl, .ref a, rfl, _, rfl, ?_⟩
      have ix : ∀ Q' : VK, Q' x H5 → (rIxL K (.ref a) (.int (at' : Int)) H5 Q' ∨ rIxT K (.ref a) (.int (at' : Int)) H5 Q') := fun Q' h => hx5.elim (fun z => .inl ⟨a, xs, _, x, rfl, rfl, SqL.of z.1, atI_nat ex, h⟩) fun z => .inr ⟨a, xs, _, x, rfl, rfl, SqT.of z.1, atI_nat ex, h⟩
      refine ix _ (hR _ _ _ _ hk ⟨p, _, C, x, ds[at'], L, M, sz ds[at'], rfl, ?_, A5, tx, ⟨(b3 _ hdx).1, Nat.le_refl _, ?_⟩, hL, hM, fun v' d' H6 k6 A6 t6 g6 => ⟨len_ok, fun L2 hL2 => ?_⟩⟩)
      · omega
      · have := (b3 _ hdx).2
        omega
      generalize hq : upd H6 L2 _ = H7
      obtain ⟨k7, e7, t7⟩ : Kx [] H6 H7 ∧ H7 L2 = some (.lst [v']) ∧ Tr C H7 (.ref L2) (.list [d']) := hq ▸ mk_lst A6.al (.cons t6 .nil) hL2
      clear hq
      have A7 := A6.kx k7
      have t57 : TrAll C H7 (xs.take at') (ds.take at') := (A5.trs (txs5.take at') k6).up k7
      have e57 : H7 L1 = some (.lst (xs.take at')) := k7.lst (by simp) (k6.lst (A4.nep hL1) e5)
      refine ⟨L1, L2, _, _, rfl, rfl, e57, e7, ?_, fun L3 hL3 => ?_⟩
      · have := List.length_take_le at' xs
        unfold sizeLine
        simp only [List.length_cons, List.length_nil, List.length_take]
        omega
      generalize hq : upd H7 L3 _ = H8
      obtain ⟨k8, e8, t8⟩ : Kx [] H7 H8 ∧ H8 L3 = some (.lst (xs.take at' ++ [v'])) ∧ Tr C H8 (.ref L3) (.list (ds.take at' ++ [d'])) := hq ▸ mk_lst A7.al (t57.append (.cons (t6.up k7) .nil)) hL3
      clear hq
      have A8 := A7.kx k8
      have hx8 : H8 a = some (.lst xs) ∨ H8 a = some (.tup xs) := hx5.elim (fun z => .inl (k8.lst (by simp) (k7.lst (by simp) (k6.lst np z.1)))) fun z => .inr (k8.tup (by simp) (k7.tup (by simp) (k6.tup np z.1)))
      have txs8 := (A5.trs txs5 k6).up (k7.trans k8)
      -- list(thing[at + 1:])
      refine ⟨.ref a, rfl, _, rfl, _, _, rfl, rfl, _, rfl, sliceE hx8 fun b2 H9 k9 h9 => ⟨b2, _, rfl, h9, fun L4 hL4 => ?_⟩⟩
      rw [cut_lo1]
      have A9 := A8.kx k9
      generalize hq : upd H9 L4 _ = H10
      obtain ⟨k10, e10, t10⟩ : Kx [] H9 H10 ∧ H10 L4 = some (.lst (xs.drop (at' + 1))) ∧ Tr C H10 (.ref L4) (.list (ds.drop (at' + 1))) := hq ▸ mk_lst A9.al ((txs8.up k9).drop (at' + 1)) hL4
      clear hq
      have A10 := A9.kx k10
      refine ⟨L3, L4, _, _, rfl, rfl, k10.lst (by simp) (k9.lst (by simp) e8), e10, ?_, fun L5 hL5 => ?_⟩
      · unfold sizeLine
        simp only [List.length_append, List.length_cons, List.length_nil, List.length_take, List.length_drop]
        omega
      generalize hq : upd H10 L5 _ = H11
      have t10' := (((t57.append (.cons (t6.up k7) .nil)).up (k8.trans (k9.trans k10))).append ((txs8.up (k9.trans k10)).drop (at' + 1)))
      obtain ⟨k11, e11, t11⟩ : Kx [] H10 H11 ∧ H11 L5 = some (.lst (xs.take at' ++ [v'] ++ xs.drop (at' + 1))) ∧ Tr C H11 (.ref L5) (.list (ds.take at' ++ [d'] ++ ds.drop (at' + 1))) := hq ▸ mk_lst A10.al t10' hL5
      clear hq
      have A11 := A10.kx k11
      have kall : Kx [p] H H11 := k1.of.trans (k2.trans (k3.trans ((k4.trans k5).of.trans (k6.trans (k7.trans (k8.trans (k9.trans (k10.trans k11)))).of))))
      have ht11 := hA.tr ht kall
      have zs1 := szAll_take ds at'
      have zs2 : szAll (ds.drop at') = sz ds[at'] + szAll (ds.drop (at' + 1)) := by
        rw [List.drop_eq_getElem_cons hlt]
        rfl
      have g1 : (ds.take at' ++ [d'] ++ ds.drop (at' + 1)).length ≤ L + 1 := by
        simp only [List.length_append, List.length_cons, List.length_nil, List.length_take, List.length_drop]
        omega
      have g2 : szAll (ds.take at' ++ [d'] ++ ds.drop (at' + 1)) + 1 ≤ 2 * S + 1 := by
        rw [szAll_append, szAll_append]
        have := g6.sz
        simp only [szAll]
        omega
      have g3 : ∀ y ∈ ds.take at' ++ [d'] ++ ds.drop (at' + 1), Bd (L + 1) (M + 1000000000) y ∧ y.depth + 1 ≤ k + 1 := fun y hy => by
        have hb : ∀ y ∈ ds, Bd (L + 1) (M + 1000000000) y ∧ y.depth + 1 ≤ k + 1 := fun d hd => ⟨Bd.up (b3 d hd).1 (by omega) (by omega), by have := (b3 d hd).2; omega⟩
        rcases List.mem_append.mp hy with z | z
        · rcases List.mem_append.mp z with z | z
          · exact hb y (List.mem_of_mem_take z)
          · rw [List.mem_singleton.mp z]
            exact ⟨g6.bd, by have := g6.dp; omega⟩
        · exact hb y (List.mem_of_mem_drop z)
      have AA := A11.mono (show _ ≤ n + 10 * (k + 1) by omega)
      refine ⟨.ref a, rfl, .ref a, .ty "list", _, _, _, rfl, .ty _, ht11.ty, kit_list d, _, rfl, ite2 (fun c => ?_) (fun c => ?_)⟩
      · exact ⟨_, rfl, q _ _ _ kall AA t11 (Sm.mkList g1 g2 g3 (by omega))⟩
      · refine ⟨_, rfl, L5, _, rfl, .inl ⟨SqL.of e11, fun T hT => ?_⟩⟩
        obtain ⟨k12, e12, t12⟩ := mk_tup A11.al (t10'.up k11) hT
        exact q _ _ _ (kall.trans k12.of) (AA.kx k12) t12 (Sm.mkTuple g1 g2 g3 (by omega))
theorem bent_all (Y : Facts K mg base fa fd ca ta) : ∀ k, FnOk P w K mg base CX0 (k + 4) (fa "_law_bent") (fd "_law_bent") ["purse", "thing"] (sp_law_bent (Ts ta) k)
  | 0 => bent_step Y 0 (fun _ _ _ _ => False) fn_false (fun _ _ _ _ h => absurd h (Nat.lt_irrefl 0))
  | k + 1 => bent_step Y (k + 1) (sp_law_bent (Ts ta) k) (bent_all Y k) (fun _ _ _ _ _ h => h)
def sp_law_bent_any (Ts : List Addr) : Sp := fun vs H Q E => ∃ k, k ≤ 10 ∧ sp_law_bent Ts k vs H Q E
theorem ok__law_bent (Y : Facts K mg base fa fd ca ta) : FnOk P w K mg base CX0 14 (fa "_law_bent") (fd "_law_bent") ["purse", "thing"] (sp_law_bent_any (Ts ta)) :=
  ⟨fun vs H Q E ⟨k, _, h⟩ => (bent_all (P := P) (w := w) Y k).len vs H Q E h, fun A outer s H args us vs Q E hr e0 hb r ⟨k, hk, h⟩ => (bent_all Y k).run A outer s H args us vs Q E (hr.mono (by omega)) e0 hb r h⟩
end
end Law

set_option Elab.async false
set_option linter.all false
set_option maxRecDepth 100000
set_option maxHeartbeats 4000000
namespace Law
open PySem PySem.Spec PyProof.Rows L2 GxR GX Tree Kit Data Loops Comps Purse Sets Sets2 Small Ib
section
variable {P : Program} {w : World} {K : PySem.W.Frag} {mg : Str → Option Value} {base : Heap} {fa : String → Addr} {fd : String → FuncData} {ca ta : String → Addr}
/-! ### the law's own look -/
def sp_law_whole : Sp := fun vs H Q _ => ∃ v d lo hi, vs = [v, .int lo, .int hi] ∧ Tr [] H v d ∧ ∀ H', Kx [] H H' → Q (.bl (isWh lo hi d)) H'
theorem ok__law_whole (Y : Facts K mg base fa fd ca ta) : FnOk P w K mg base CX0 1 (fa "_law_whole") (fd "_law_whole") ["thing", "low", "high"] sp_law_whole := by
  refine Y.d__law_whole.ok sc__law_whole (fun vs H Q E h => ?_) (fun cdv A outer s H vs Q E hcd hr h => ?_)
  · obtain ⟨v, d, lo, hi, rfl, _⟩ := h; rfl
  · obtain ⟨v, d, lo, hi, rfl, ht, q⟩ := h
    refine ⟨_, (pss_one (ps_ret (pe_and (pe_callB (call_isiK' K rfl) (by rfl) Y.b.isinstance (by decide +kernel) (pa_cons (pv 0) (pa_cons (pe_bltn (v := .ty "int") (by rfl) Y.b.int (by decide +kernel) rfl) pa_nil))) (pe_and (pe_not (pe_callB (call_isiK' K rfl) (by rfl) Y.b.isinstance (by decide +kernel) (pa_cons (pv 0) (pa_cons (pe_bltn (v := .ty "bool") (by rfl) Y.b.bool (by decide +kernel) rfl) pa_nil)))) (pe_one (pe_cmpR op_in_rng (pv 0) (pe_callTy cr_range2 (by rfl) Y.b.range (by decide +kernel) (pa_cons (pv 1) (pa_cons (pe_op op_add (pv 2) pe_int) pa_nil))) (by rfl))))))), ?_⟩
    refine ⟨v, rfl, v, .ty "int", _, _, _, rfl, .ty _, ht.ty, kit_int d, _, rfl, ite2 (fun c => ?_) (fun c => ?_)⟩
    · refine ⟨v, rfl, v, .ty "bool", _, _, _, rfl, .ty _, ht.ty, kit_bool d, ?_⟩
      cases ht with
      | int i =>
        refine ⟨_, rfl, _, rfl, iteT ⟨.int i, rfl, .int lo, rfl, .int hi, rfl, _, _, rfl, rfl, _, _, rfl, fun R hR => ⟨i, R, _, _, rfl, rfl, upd_same, ?_⟩⟩⟩
        have e : decide (lo ≤ i ∧ i < hi + 1) = isWh lo hi (.int i) := by
          show _ = (decide (lo ≤ i) && decide (i ≤ hi))
          rw [Bool.eq_iff_iff]
          simp only [decide_eq_true_eq, Bool.and_eq_true]
          omega
        rw [e]
        exact q _ (Kx.new hR)
      | bl b =>
        exact ⟨_, rfl, _, rfl, iteF (q H (Kx.refl H))⟩
      | _ => cases c
    · have e : isWh lo hi d = false := by cases d <;> first | rfl | exact absurd rfl c
      have := q H (Kx.refl H)
      rw [e] at this
      exact this
theorem notE {b : Bool} (h : ¬ b = true) : b = false := by simpa using h
theorem filter_not_nil {α : Type} (p : α → Bool) (l : List α) : (l.filter fun x => !p x).isEmpty = l.all p := by
  induction l with
  | nil => rfl
  | cons x r ih =>
    rw [List.filter_cons, List.all_cons]
    cases h : p x with
    | true => simpa [h] using ih
    | false => simp [h]
theorem trAll_empty {B : List Addr} {H : Hp} {ys : List V} {es : List PyData} (t : TrAll B H ys es) : ys.isEmpty = es.isEmpty := by
  cases t <;> rfl
def sp_law_each : Sp := fun vs H Q _ => ∃ v d lo hi, vs = [v, .int lo, .int hi] ∧ Tr [] H v d ∧ sz d ≤ 100000 ∧ ∀ H', Kx [] H H' → Q (.bl (listAll (isWh lo hi) d)) H'
theorem ok__law_each (Y : Facts K mg base fa fd ca ta) : FnOk P w K mg base CX0 2 (fa "_law_each") (fd "_law_each") ["things", "low", "high"] sp_law_each := by
  refine Y.d__law_each.ok sc__law_each (fun vs H Q E h => ?_) (fun cdv A outer s H vs Q E hcd hr h => ?_)
  · obtain ⟨v, d, lo, hi, rfl, _⟩ := h; rfl
  · obtain ⟨v, d, lo, hi, rfl, ht, hz, q⟩ := h
    refine ⟨_, (pss_one (ps_ret (pe_and (pe_callB (call_isiK' K rfl) (by rfl) Y.b.isinstance (by decide +kernel) (pa_cons (pv 0) (pa_cons (pe_bltn (v := .ty "list") (by rfl) Y.b.list (by decide +kernel) rfl) pa_nil))) (pe_one (pe_cmpR (op_eqNil hr.units0) (pe_lc (own := [("one", 3)]) (g := gName 3) rfl sc__law_each.nd (pi_listK K rfl (pv 0)) (blkOk_by (N := ["things", "low", "high", "one"]) (sc := defScope s__law_each) (by decide +kernel)) (fun _ _ _ _ _ => (pg_name (i := 3) sc__law_each.nd rfl (by first | exact Or.inl rfl | exact Or.inr rfl))) (fun _ _ _ _ _ => (pts_one (pt_not (pt_val (pe_call (ok__law_whole Y) (hr.mono (by decide)) (by rfl) Y.d__law_whole.g Y.d__law_whole.kp Y.d__law_whole.b .nil pass0 (pa_cons (pv 3) (pa_cons (pv 1) (pa_cons (pv 2) pa_nil)))))))) (fun _ _ _ _ _ => (pv 3))) (pe_lst pa_nil) (nomark _)))))), ?_⟩
    refine ⟨v, rfl, v, .ty "list", _, _, _, rfl, .ty _, ht.ty, kit_list d, _, rfl, ite2 (fun c => ?_) (fun c => ?_)⟩
    · cases ht with
      | lst n h l =>
        rename_i a xs ds
        have hl : ds.length < sizeLine := by
          have := szAll_len ds
          simp only [sz] at hz
          unfold sizeLine
          omega
        refine lc_use ⟨.ref a, rfl, a, rfl, ⟨xs, SqL.of h⟩, ?_⟩
        refine lc_filter (fun x => !isWh lo hi x) h l hl (fun x d H' hd t k R R0 hR hR0 => ?_) fun D ys H' k hD hd ty => ?_
        · refine ⟨rfl, x, rfl, .int lo, rfl, .int hi, rfl, x, d, lo, hi, rfl, t, fun H'' k2 => ?_⟩
          exact ⟨_, rfl, ite2 (fun c => ⟨x, rfl, hR c H'' k2⟩) (fun c => hR0 (notE c) H'' k2)⟩
        · refine ⟨len_ok, fun N hN => ⟨D, N, ys, rfl, rfl, (Kx.new (B := []) hN).lst (by simp) hd, upd_same, ?_⟩⟩
          have e : ys.isEmpty = listAll (isWh lo hi) (.list ds) := by
            rw [trAll_empty ty, filter_not_nil]
            rfl
          rw [e]
          exact q _ (k.trans (Kx.new hN))
      | _ => cases c
    · have e : listAll (isWh lo hi) d = false := by cases d <;> first | rfl | exact absurd rfl c
      have := q H (Kx.refl H)
      rw [e] at this
      exact this
def sp_law_is_sight : Sp := fun vs H Q _ => ∃ v d h cr, vs = [v, .int h, .int cr] ∧ Tr [] H v d ∧ sz d ≤ 100000 ∧ cr ≤ 60 ∧ ∀ H', Kx [] H H' → Q (.bl (sightB h cr d)) H'
theorem ok__law_is_sight (Y : Facts K mg base fa fd ca ta) : FnOk P w K mg base CX0 3 (fa "_law_is_sight") (fd "_law_is_sight") ["sight", "hours", "craft"] sp_law_is_sight := by
  refine Y.d__law_is_sight.ok sc__law_is_sight (fun vs H Q E h => ?_) (fun cdv A outer s H vs Q E hcd hr h => ?_)
  · obtain ⟨v, d, h, cr, rfl, _⟩ := h; rfl
  · obtain ⟨v, d, hh, cr, rfl, ht, hz, hc60, q⟩ := h
    refine ⟨_, (pss_cons (ps_if ((pw_or (pt_not (pt_val (pe_callB (call_isiK' K rfl) (by rfl) Y.b.isinstance (by decide +kernel) (pa_cons (pv 0) (pa_cons (pe_bltn (v := .ty "list") (by rfl) Y.b.list (by decide +kernel) rfl) pa_nil))))) (pw_or1 (pt_cmpR op_ne (pe_callB (call_lenK K rfl) (by rfl) Y.b.len (by decide +kernel) (pa_cons (pv 0) pa_nil)) (pv 1) (nomark _))))).pt (pss_one (ps_ret pe_bl)) pss_nil)
      (pss_cons (ps_if (pt_cmpR (op_neNil hr.units0) (pe_lc (own := [("heard", 3)]) (g := gName 3) rfl sc__law_is_sight.nd (pi_listK K rfl (pv 0)) (blkOk_by (N := ["sight", "hours", "craft", "heard"]) (sc := defScope s__law_is_sight) (by decide +kernel)) (fun _ _ _ _ _ => (pg_name (i := 3) sc__law_is_sight.nd rfl (by first | exact Or.inl rfl | exact Or.inr rfl))) (fun _ _ _ _ _ => (pts_one (pt_not (pt_val (pe_call (ok__law_each Y) (hr.mono (by decide)) (by rfl) Y.d__law_each.g Y.d__law_each.kp Y.d__law_each.b .nil pass0 (pa_cons (pv 3) (pa_cons pe_int (pa_cons (pe_op op_sub (pv 2) pe_int) pa_nil)))))))) (fun _ _ _ _ _ => (pv 3))) (pe_lst pa_nil) (nomark _)) (pss_one (ps_ret pe_bl)) pss_nil)
      (pss_one (ps_ret (pe_cmpR (op_eqNil hr.units0) (pe_lc (own := [("heard", 3)]) (g := gName 3) rfl sc__law_is_sight.nd (pi_listK K rfl (pv 0)) (blkOk_by (N := ["sight", "hours", "craft", "heard"]) (sc := defScope s__law_is_sight) (by decide +kernel)) (fun _ _ _ _ _ => (pg_name (i := 3) sc__law_is_sight.nd rfl (by first | exact Or.inl rfl | exact Or.inr rfl))) (fun _ _ _ _ _ => (pts_one (pt_cmpR (op_neDK K rfl hr.units) (pv 3) (pe_callB (cr_sortedSetW w rfl rfl) (by rfl) Y.b.sorted (by decide +kernel) (pa_cons (pe_callTy (Sets2.call_setF w rfl rfl) (by rfl) Y.b.set (by decide +kernel) (pa_cons (pv 3) pa_nil)) pa_nil)) (nomark _)))) (fun _ _ _ _ _ => (pv 3))) (pe_lst pa_nil) (nomark _)))))), ?_⟩
    refine ⟨v, rfl, v, .ty "list", _, _, _, rfl, .ty _, ht.ty, kit_list d, _, rfl, ite2 (fun c => ?_) (fun c => ?_)⟩
    · have c' : isiD "list" d = false := by simpa using c
      have e : sightB hh cr d = false := by cases d <;> first | rfl | exact absurd (c'.symm.trans rfl : false = true) Bool.false_ne_true
      have := q H (Kx.refl H)
      rw [e] at this
      exact this
    · cases ht with
      | lst n h l =>
        rename_i a xs ds
        have hlen := l.length
        have hl : ds.length < sizeLine := by
          have := szAll_len ds
          simp only [sz] at hz
          unfold sizeLine
          omega
        refine ⟨_, rfl, a, xs, rfl, .inl (SqL.of h), _, rfl, rfl, _, rfl, ite2 (fun c1 => ?_) (fun c1 => ?_)⟩
        · have e : sightB hh cr (.list ds) = false := by
            have : isLs hh hh (.list ds) = false := by
              show (decide (hh ≤ (ds.length : Int)) && decide ((ds.length : Int) ≤ hh)) = false
              rw [Bool.eq_false_iff]
              intro z
              simp only [Bool.and_eq_true, decide_eq_true_eq] at z
              rw [hlen, show hh = (ds.length : Int) by omega] at c1
              simp at c1
            unfold sightB
            rw [this, Bool.false_and]
          have := q H (Kx.refl H)
          rw [e] at this
          exact this
        have el : isLs hh hh (.list ds) = true := by
          have c1 := notE c1
          simp only [Bool.not_eq_false', decide_eq_true_eq] at c1
          have : (xs.length : Int) = hh := V.int.inj c1
          show (decide (hh ≤ (ds.length : Int)) && decide ((ds.length : Int) ≤ hh)) = true
          simp only [Bool.and_eq_true, decide_eq_true_eq]
          omega
        refine st_next ?_
        dsimp only
        refine st_seq (st_ifs (st_test (st_op (lc_use ?_))))
        refine ⟨.ref a, rfl, a, rfl, ⟨xs, SqL.of h⟩, ?_⟩
        refine lc_filter (fun x => !listAll (isWh 0 (cr - 1)) x) h l hl (fun x d H' hd t k R R0 hR hR0 => ?_) fun D ys H1 k1 hD hd ty => ?_
        · refine ⟨rfl, x, rfl, .int cr, rfl, _, _, rfl, rfl, x, d, 0, cr - 1, rfl, t, sz_in hd hz, fun H'' k2 => ?_⟩
          exact ⟨_, rfl, ite2 (fun c => ⟨x, rfl, hR c H'' k2⟩) (fun c => hR0 (notE c) H'' k2)⟩
        · refine ⟨len_ok, fun N hN => ⟨D, N, ys, rfl, rfl, (Kx.new (B := []) hN).lst (by simp) hd, upd_same, _, rfl, ?_⟩⟩
          have kN := k1.trans (Kx.new (o := .lst []) hN)
          have e : ys.isEmpty = ds.all (listAll (isWh 0 (cr - 1))) := by
            rw [trAll_empty ty, filter_not_nil]
          rw [e]
          refine ite2 (fun c2 => ?_) (fun c2 => ?_)
          · have e2 : sightB hh cr (.list ds) = false := by
              unfold sightB
              rw [el, Bool.true_and]
              show ds.all (heardB cr) = false
              rw [Bool.eq_false_iff]
              intro z
              have : ds.all (listAll (isWh 0 (cr - 1))) = true := List.all_eq_true.mpr fun y hy => by
                have := List.all_eq_true.mp z y hy
                cases y with
                | list zs =>
                  exact (Bool.and_eq_true_iff.mp this).1
                | _ => cases this
              rw [this] at c2
              cases c2
            have := q _ kN
            rw [e2] at this
            exact this
          · have c2 : ds.all (listAll (isWh 0 (cr - 1))) = true := by simpa using c2
            have hN2 := (kN.lst (by simp) h)
            generalize hq : upd H1 N (.lst []) = H2 at kN hN2 ⊢
            refine st_next ?_
            dsimp only
            refine st_ret (st_op (lc_use ?_))
            refine ⟨.ref a, rfl, a, rfl, ⟨xs, SqL.of hN2⟩, ?_⟩
            have heard : ∀ d ∈ ds, ∃ ns : List Int, d = .list (ns.map .int) ∧ Few ns 60 ∧ heardB cr d = risesB ns := fun d hd => by
              have h1 := List.all_eq_true.mp c2 d hd
              cases d with
              | list zs =>
                have h3 := all_ints h1
                refine ⟨intsD zs, congrArg PyData.list h3, fun L nd sub => ?_, ?_⟩
                · have h4 : ∀ j ∈ intsD zs, 0 ≤ j ∧ j < ((60 : Nat) : Int) := fun j hj => by
                    have h5 : PyData.int j ∈ zs := by rw [h3]; exact List.mem_map_of_mem hj
                    have h6 : isWh 0 (cr - 1) (.int j) = true := List.all_eq_true.mp h1 _ h5
                    have h7 : (decide (0 ≤ j) && decide (j ≤ cr - 1)) = true := h6
                    simp only [Bool.and_eq_true, decide_eq_true_eq] at h7
                    omega
                  exact few_range h4 L nd sub
                show (zs.all (isWh 0 (cr - 1)) && risesB (intsD zs)) = _
                rw [show zs.all (isWh 0 (cr - 1)) = true from h1, Bool.true_and]
              | _ => cases h1
            refine lc_filter (fun x => !heardB cr x) hN2 (l.up kN) hl (fun x d H' hd t k R R0 hR hR0 => ?_) fun D2 ys2 H3 k3 hD2 hd2 ty2 => ?_
            · obtain ⟨ns, rfl, h3, hB⟩ := heard d hd
              obtain ⟨b, us, rfl, eb, tb⟩ := t.listV
              have eu : us = ns.map V.int := by
                have := TrAll.intsV tb (by rw [intsD_map])
                rwa [intsD_map] at this
              rw [eu] at eb
              refine ⟨rfl, .ref b, rfl, .ref b, rfl, b, ns, rfl, eb, h3, fun S cc hcc hS => ?_⟩
              refine ⟨S, _, cc, rfl, upd_same, by omega, fun ms p hms hmem hml hp => ?_⟩
              have kS : Kx [] H' (upd (upd H' S (SetO w S (fun j => decide (j ∈ ns)) cc)) p (.lst (ms.map V.int))) := (Kx.new hS).trans (Kx.new hp)
              refine ⟨_, _, dp_ints (kS.lst (by simp) eb), dp_ints upd_same, shaped_ints ns, shaped_ints ms, _, rfl, ?_⟩
              rw [eqv_ints, sorted_eq hms (fun k => by rw [hmem k]; simp), ← hB]
              exact ite2 (fun c => ⟨.ref b, rfl, hR c _ kS⟩) (fun c => hR0 (notE c) _ kS)
            · refine ⟨len_ok, fun N2 hN2' => ⟨D2, N2, ys2, rfl, rfl, (Kx.new (B := []) hN2').lst (by simp) hd2, upd_same, ?_⟩⟩
              have e3 : ys2.isEmpty = sightB hh cr (.list ds) := by
                rw [trAll_empty ty2, filter_not_nil]
                unfold sightB
                rw [el, Bool.true_and]
                rfl
              rw [e3]
              exact q _ (kN.trans (k3.trans (Kx.new hN2')))
      | _ => exact absurd rfl c
theorem not_tuple {p : PyData → Bool} {d : PyData} (h : isiD "tuple" d = false) (hp : ∀ d, isTp 5 d = false → p d = false) : p d = false := hp d (by cases d <;> first | rfl | exact absurd (h.symm.trans rfl : false = true) Bool.false_ne_true)
theorem blockB_tp {h cr : Int} (d : PyData) (c : isTp 5 d = false) : blockB h cr d = false := by
  cases d with
  | tuple xs =>
    match xs with
    | [a, b, c', d', e'] => cases c
    | [] => rfl
    | [_] => rfl
    | [_, _] => rfl
    | [_, _, _] => rfl
    | [_, _, _, _] => rfl
    | _ :: _ :: _ :: _ :: _ :: _ :: _ => rfl
  | _ => rfl
theorem isDayB_tp (d : PyData) (c : isTp 5 d = false) : isDayB d = false := by
  cases d with
  | tuple xs =>
    match xs with
    | [a, b, c', d', e'] => cases c
    | [] => rfl
    | [_] => rfl
    | [_, _] => rfl
    | [_, _, _] => rfl
    | [_, _, _, _] => rfl
    | _ :: _ :: _ :: _ :: _ :: _ :: _ => rfl
  | _ => rfl
theorem len5 {n : Nat} (c : (!decide (V.int (n : Int) = V.int 5)) = true) : decide ((n : Int) = 5) = false := by
  refine decide_eq_false fun z => ?_
  rw [z] at c
  simp at c
theorem len5' {n : Nat} (c : ¬ (!decide (V.int (n : Int) = V.int 5)) = true) : (n : Int) = 5 := by
  have := notE c
  simp only [Bool.not_eq_false', decide_eq_true_eq] at this
  exact V.int.inj this
def sp_law_is_block : Sp := fun vs H Q _ => ∃ v d h cr, vs = [v, .int h, .int cr] ∧ Tr [] H v d ∧ ∀ H', Kx [] H H' → Q (.bl (blockB h cr d)) H'
theorem ok__law_is_block (Y : Facts K mg base fa fd ca ta) : FnOk P w K mg base CX0 2 (fa "_law_is_block") (fd "_law_is_block") ["block", "hours", "craft"] sp_law_is_block := by
  refine Y.d__law_is_block.ok sc__law_is_block (fun vs H Q E h => ?_) (fun cdv A outer s H vs Q E hcd hr h => ?_)
  · obtain ⟨v, d, h, cr, rfl, _⟩ := h; rfl
  · obtain ⟨v, d, hh, cr, rfl, ht, q⟩ := h
    refine ⟨_, (pss_cons (ps_if ((pw_or (pt_not (pt_val (pe_callB (call_isiK' K rfl) (by rfl) Y.b.isinstance (by decide +kernel) (pa_cons (pv 0) (pa_cons (pe_bltn (v := .ty "tuple") (by rfl) Y.b.tuple (by decide +kernel) rfl) pa_nil))))) (pw_or1 (pt_cmpR op_ne (pe_callB (call_lenK K rfl) (by rfl) Y.b.len (by decide +kernel) (pa_cons (pv 0) pa_nil)) pe_int (nomark _))))).pt (pss_one (ps_ret pe_bl)) pss_nil)
      (pss_cons (ps_asg (pv 0) (pg_tupK (n := 5) K rfl rfl (pgs_cons (pg_name (i := 3) sc__law_is_block.nd rfl (by first | exact Or.inl rfl | exact Or.inr rfl)) (pgs_cons (pg_name (i := 4) sc__law_is_block.nd rfl (by first | exact Or.inl rfl | exact Or.inr rfl)) (pgs_cons (pg_name (i := 5) sc__law_is_block.nd rfl (by first | exact Or.inl rfl | exact Or.inr rfl)) (pgs_cons (pg_name (i := 6) sc__law_is_block.nd rfl (by first | exact Or.inl rfl | exact Or.inr rfl)) (pgs_cons (pg_name (i := 7) sc__law_is_block.nd rfl (by first | exact Or.inl rfl | exact Or.inr rfl)) pgs_nil)))))))
      (pss_cons (ps_if ((pw_or (pt_not (pt_val (pe_call (ok__law_whole Y) (hr.mono (by decide)) (by rfl) Y.d__law_whole.g Y.d__law_whole.kp Y.d__law_whole.b .nil pass0 (pa_cons (pv 3) (pa_cons pe_int (pa_cons pe_int pa_nil)))))) (pw_or (pt_not (pt_val (pe_call (ok__law_whole Y) (hr.mono (by decide)) (by rfl) Y.d__law_whole.g Y.d__law_whole.kp Y.d__law_whole.b .nil pass0 (pa_cons (pv 4) (pa_cons pe_int (pa_cons (pe_op op_sub (pv 2) pe_int) pa_nil)))))) (pw_or1 (pt_not (pt_val (pe_call (ok__law_whole Y) (hr.mono (by decide)) (by rfl) Y.d__law_whole.g Y.d__law_whole.kp Y.d__law_whole.b .nil pass0 (pa_cons (pv 7) (pa_cons pe_int (pa_cons pe_int pa_nil)))))))))).pt (pss_one (ps_ret pe_bl)) pss_nil)
      (pss_one (ps_ret (pe_and (pe_call (ok__law_whole Y) (hr.mono (by decide)) (by rfl) Y.d__law_whole.g Y.d__law_whole.kp Y.d__law_whole.b .nil pass0 (pa_cons (pv 5) (pa_cons pe_int (pa_cons (pe_op op_sub (pv 1) pe_int) pa_nil)))) (pe_one (pe_or (pe_cmpR op_isN (pv 6) pe_non (nomark _)) (pe_one (pe_call (ok__law_whole Y) (hr.mono (by decide)) (by rfl) Y.d__law_whole.g Y.d__law_whole.kp Y.d__law_whole.b .nil pass0 (pa_cons (pv 6) (pa_cons (pv 5) (pa_cons (pe_op op_sub (pv 1) pe_int) pa_nil))))))))))))), ?_⟩
    have no : ∀ H', Kx [] H H' → blockB hh cr d = false → Q (.bl false) H' := fun H' k e => by
      have := q H' k
      rwa [e] at this
    refine ⟨v, rfl, v, .ty "tuple", _, _, _, rfl, .ty _, ht.ty, kit_tuple d, _, rfl, ite2 (fun c => ?_) (fun c => ?_)⟩
    · exact no H (Kx.refl H) (not_tuple (by simpa using c) blockB_tp)
    · cases ht with
      | tup m ha l =>
        rename_i a xs ds
        have hlen := l.length
        refine ⟨_, rfl, a, xs, rfl, .inr (SqT.of ha), rfl, _, rfl, ite2 (fun c1 => ?_) (fun c1 => ?_)⟩
        · exact no H (Kx.refl H) (blockB_tp _ (by rw [hlen] at c1; exact len5 c1))
        obtain ⟨ho, nu, re, du, wo, rfl⟩ := tuple5 (by rw [← hlen]; exact len5' c1)
        obtain ⟨v1, v2, v3, v4, v5, rfl, t1, t2, t3, t4, t5⟩ := TrAll.five l
        refine ⟨.ref a, rfl, a, _, rfl, SqT.of ha, rfl, v1, _, rfl, v2, _, rfl, v3, _, rfl, v4, _, rfl, v5, _, rfl, rfl, ?_⟩
        refine ⟨_, rfl, _, ho, 0, 5, rfl, t1, fun H1 k1 => ⟨_, rfl, ?_⟩⟩
        cases h1 : isWh 0 5 ho with
        | false => exact iteT (no _ k1 (by simp only [blockB, h1, Bool.false_and]))
        | true =>
        refine iteF ⟨_, rfl, _, rfl, _, _, rfl, rfl, _, nu, 0, cr - 1, rfl, t2.up k1, fun H2 k2 => ⟨_, rfl, ?_⟩⟩
        have k12 := k1.trans k2
        cases h2 : isWh 0 (cr - 1) nu with
        | false => exact iteT (no _ k12 (by simp only [blockB, h1, h2, Bool.false_and, Bool.and_false]))
        | true =>
        refine iteF ⟨_, rfl, _, wo, 1, 9999, rfl, t5.up k12, fun H3 k3 => ⟨_, rfl, ?_⟩⟩
        have k13 := k12.trans k3
        cases h5 : isWh 1 9999 wo with
        | false => exact iteT (no _ k13 (by simp only [blockB, h5, Bool.false_and, Bool.and_false]))
        | true =>
        refine iteF ⟨_, rfl, _, rfl, _, _, rfl, rfl, _, re, 0, hh - 1, rfl, t3.up k13, fun H4 k4 => ⟨_, rfl, ?_⟩⟩
        have k14 := k13.trans k4
        cases h3 : isWh 0 (hh - 1) re with
        | false => exact iteF (no _ k14 (by simp only [blockB, h3, Bool.false_and, Bool.and_false]))
        | true =>
        obtain ⟨r, rfl, _, _⟩ := isWh_int h3
        cases t3
        refine iteT ⟨_, rfl, rfl, _, rfl, ?_⟩
        rw [isNone_v t4]
        cases h4 : isNone du with
        | true =>
          have := q _ k14
          simp only [blockB, h1, h2, h3, h4, h5, Bool.true_and, Bool.true_or, Bool.and_true] at this
          exact iteT this
        | false =>
          refine iteF ⟨v4, rfl, _, rfl, _, rfl, _, _, rfl, rfl, v4, du, r, hh - 1, rfl, t4.up k14, fun H5 k5 => ?_⟩
          have := q _ (k14.trans k5)
          simp only [blockB, h1, h2, h3, h4, h5, Bool.true_and, Bool.false_or, Bool.and_true] at this
          exact this
      | _ => exact absurd rfl c
theorem st_not {t : TT} {σ : L2.St} {H : Hp} {Q : Bool → Hp → Prop} (h : t σ H fun c H1 => Q (!c) H1) : tNot t σ H Q := h
theorem st_b {t : TE} {σ : L2.St} {H : Hp} {Q : Bool → Hp → Prop} (h : t σ H fun x H1 => ∃ c, x = .bl c ∧ Q c H1) : tB t σ H Q := h
theorem st_call {sp : Sp} {dvs : List V} {E : XK} {t : TA} {σ : L2.St} {H : Hp} {Q : VK} (h : t σ H fun vs H1 => sp (vs ++ dvs) H1 Q E) : tCall sp dvs E t σ H Q := h
theorem szAll_filter (p : PyData → Bool) : ∀ ds : List PyData, szAll (ds.filter p) ≤ szAll ds
  | [] => Nat.le_refl _
  | d :: ds => by
    have ih := szAll_filter p ds
    rw [List.filter_cons]
    split <;> simp only [szAll] <;> omega
theorem all_filter {p : PyData → Bool} : ∀ ds : List PyData, (ds.filter fun x => !isNone x).all p = ds.all fun a => isNone a || p a
  | [] => rfl
  | d :: ds => by
    have ih := all_filter (p := p) ds
    rw [List.filter_cons, List.all_cons]
    cases h : isNone d with
    | true => simpa [h] using ih
    | false => simp only [Bool.not_false, if_true, List.all_cons, Bool.false_or, ih]
theorem in4 (n : Nat) : inV (.int (n : Int)) [.int 1, .int 2, .int 3, .int 4] = (decide (1 ≤ (n : Int)) && decide ((n : Int) ≤ 4)) := by
  rw [Bool.eq_iff_iff]
  simp [inV, eqV]
  omega
theorem in3 (n : Nat) : inV (.int (n : Int)) [.int 1, .int 2, .int 3] = (decide (1 ≤ (n : Int)) && decide ((n : Int) ≤ 3)) := by
  rw [Bool.eq_iff_iff]
  simp [inV, eqV]
  omega
theorem isi_list {d : PyData} (h : isiD "list" d = false) {lo hi : Int} : isLs lo hi d = false := by
  cases d <;> first | rfl | exact absurd (h.symm.trans rfl : false = true) Bool.false_ne_true
theorem isi_list' {d : PyData} (h : isiD "list" d = true) : ∃ ds, d = .list ds := by
  cases d with
  | list ds => exact ⟨ds, rfl⟩
  | _ => cases h
end
end Law

set_option Elab.async false
set_option linter.all false
set_option maxRecDepth 100000
set_option maxHeartbeats 4000000
namespace Law
open PySem PySem.Spec PyProof.Rows L2 GxR GX Tree Kit Data Loops Comps Purse Sets Small Ib
section
variable {P : Program} {w : World} {K : PySem.W.Frag} {mg : Str → Option Value} {base : Heap} {fa : String → Addr} {fd : String → FuncData} {ca ta : String → Addr}
def sp_law_is_day : Sp := fun vs H Q _ => ∃ v d, vs = [v] ∧ Tr [] H v d ∧ sz d ≤ 100000 ∧ ∀ H', Kx [] H H' → Q (.bl (isDayB d)) H'
theorem ok__law_is_day (Y : Facts K mg base fa fd ca ta) : FnOk P w K mg base CX0 4 (fa "_law_is_day") (fd "_law_is_day") ["thing"] sp_law_is_day := by
  refine Y.d__law_is_day.ok sc__law_is_day (fun vs H Q E h => ?_) (fun cdv A outer s H vs Q E hcd hr h => ?_)
  · obtain ⟨v, d, rfl, _⟩ := h; rfl
  · obtain ⟨v, d, rfl, ht, hz, q⟩ := h
    refine ⟨_, (pss_cons (ps_if ((pw_or (pt_not (pt_val (pe_callB (call_isiK' K rfl) (by rfl) Y.b.isinstance (by decide +kernel) (pa_cons (pv 0) (pa_cons (pe_bltn (v := .ty "tuple") (by rfl) Y.b.tuple (by decide +kernel) rfl) pa_nil))))) (pw_or (pt_cmpR op_ne (pe_callB (call_lenK K rfl) (by rfl) Y.b.len (by decide +kernel) (pa_cons (pv 0) pa_nil)) pe_int (nomark _)) (pw_or1 (pt_not (pt_val (pe_call (ok__law_whole Y) (hr.mono (by decide)) (by rfl) Y.d__law_whole.g Y.d__law_whole.kp Y.d__law_whole.b .nil pass0 (pa_cons (pe_ix (ix_tupK K rfl) (pv 0) pe_int (fun _ _ => rfl)) (pa_cons pe_int (pa_cons pe_int pa_nil)))))))))).pt (pss_one (ps_ret pe_bl)) pss_nil)
      (pss_cons (ps_asg (pv 0) (pg_tupK (n := 5) K rfl rfl (pgs_cons (pg_name (i := 1) sc__law_is_day.nd rfl (by first | exact Or.inl rfl | exact Or.inr rfl)) (pgs_cons (pg_name (i := 2) sc__law_is_day.nd rfl (by first | exact Or.inl rfl | exact Or.inr rfl)) (pgs_cons (pg_name (i := 3) sc__law_is_day.nd rfl (by first | exact Or.inl rfl | exact Or.inr rfl)) (pgs_cons (pg_name (i := 4) sc__law_is_day.nd rfl (by first | exact Or.inl rfl | exact Or.inr rfl)) (pgs_cons (pg_name (i := 5) sc__law_is_day.nd rfl (by first | exact Or.inl rfl | exact Or.inr rfl)) pgs_nil)))))))
      (pss_cons (ps_if ((pw_or (pt_not (pt_val (pe_call (ok__law_each Y) (hr.mono (by decide)) (by rfl) Y.d__law_each.g Y.d__law_each.kp Y.d__law_each.b .nil pass0 (pa_cons (pv 2) (pa_cons pe_int (pa_cons pe_int pa_nil)))))) (pw_or (pt_not (pt_val (pe_callB (call_isiK' K rfl) (by rfl) Y.b.isinstance (by decide +kernel) (pa_cons (pv 3) (pa_cons (pe_bltn (v := .ty "list") (by rfl) Y.b.list (by decide +kernel) rfl) pa_nil))))) (pw_or1 (pt_not (pt_val (pe_callB (call_isiK' K rfl) (by rfl) Y.b.isinstance (by decide +kernel) (pa_cons (pv 4) (pa_cons (pe_bltn (v := .ty "list") (by rfl) Y.b.list (by decide +kernel) rfl) pa_nil))))))))).pt (pss_one (ps_ret pe_bl)) pss_nil)
      (pss_cons (ps_if ((pw_or (pt_not (pt_val (pe_callB (call_isiK' K rfl) (by rfl) Y.b.isinstance (by decide +kernel) (pa_cons (pv 5) (pa_cons (pe_bltn (v := .ty "list") (by rfl) Y.b.list (by decide +kernel) rfl) pa_nil))))) (pw_or (pt_cmpR (op_notInK K rfl) (pe_callB (call_lenK K rfl) (by rfl) Y.b.len (by decide +kernel) (pa_cons (pv 2) pa_nil)) (pe_lst (pa_cons pe_int (pa_cons pe_int (pa_cons pe_int (pa_cons pe_int pa_nil))))) (by rfl)) (pw_or1 (pt_cmpR (op_notInK K rfl) (pe_callB (call_lenK K rfl) (by rfl) Y.b.len (by decide +kernel) (pa_cons (pv 3) pa_nil)) (pe_lst (pa_cons pe_int (pa_cons pe_int (pa_cons pe_int pa_nil)))) (by rfl)))))).pt (pss_one (ps_ret pe_bl)) pss_nil)
      (pss_cons (ps_if ((pw_or (pt_cmpR op_ne (pe_callB (call_lenK K rfl) (by rfl) Y.b.len (by decide +kernel) (pa_cons (pv 4) pa_nil)) (pe_callB (call_lenK K rfl) (by rfl) Y.b.len (by decide +kernel) (pa_cons (pv 3) pa_nil)) (nomark _)) (pw_or1 (pt_cmpR op_gt (pe_callB (call_lenK K rfl) (by rfl) Y.b.len (by decide +kernel) (pa_cons (pv 5) pa_nil)) pe_int (nomark _))))).pt (pss_one (ps_ret pe_bl)) pss_nil)
      (pss_cons (ps_if (pt_not (pt_val (pe_call (ok__law_each Y) (hr.mono (by decide)) (by rfl) Y.d__law_each.g Y.d__law_each.kp Y.d__law_each.b .nil pass0 (pa_cons (pe_lc (own := [("one", 8)]) (g := gName 8) rfl sc__law_is_day.nd (pi_listK K rfl (pv 4)) (blkOk_by (N := ["thing", "hours", "stores", "sights", "asks", "blocks", "sight", "block", "one"]) (sc := defScope s__law_is_day) (by decide +kernel)) (fun _ _ _ _ _ => (pg_name (i := 8) sc__law_is_day.nd rfl (by first | exact Or.inl rfl | exact Or.inr rfl))) (fun _ _ _ _ _ => (pts_one (pt_cmpR op_notN (pv 8) pe_non (nomark _)))) (fun _ _ _ _ _ => (pv 8))) (pa_cons pe_int (pa_cons pe_int pa_nil)))))) (pss_one (ps_ret pe_bl)) pss_nil)
      (pss_cons (ps_if (pt_cmpR (op_neNil hr.units0) (pe_lc (own := [("sight", 6)]) (g := gName 6) rfl sc__law_is_day.nd (pi_listK K rfl (pv 3)) (blkOk_by (N := ["thing", "hours", "stores", "sights", "asks", "blocks", "sight", "block", "one"]) (sc := defScope s__law_is_day) (by decide +kernel)) (fun _ _ _ _ _ => (pg_name (i := 6) sc__law_is_day.nd rfl (by first | exact Or.inl rfl | exact Or.inr rfl))) (fun _ _ _ _ _ => (pts_one (pt_not (pt_val (pe_call (ok__law_is_sight Y) (hr.mono (by decide)) (by rfl) Y.d__law_is_sight.g Y.d__law_is_sight.kp Y.d__law_is_sight.b .nil pass0 (pa_cons (pv 6) (pa_cons (pv 1) (pa_cons (pe_callB (call_lenK K rfl) (by rfl) Y.b.len (by decide +kernel) (pa_cons (pv 2) pa_nil)) pa_nil)))))))) (fun _ _ _ _ _ => (pv 6))) (pe_lst pa_nil) (nomark _)) (pss_one (ps_ret pe_bl)) pss_nil)
      (pss_one (ps_ret (pe_cmpR (op_eqNil hr.units0) (pe_lc (own := [("block", 7)]) (g := gName 7) rfl sc__law_is_day.nd (pi_listK K rfl (pv 5)) (blkOk_by (N := ["thing", "hours", "stores", "sights", "asks", "blocks", "sight", "block", "one"]) (sc := defScope s__law_is_day) (by decide +kernel)) (fun _ _ _ _ _ => (pg_name (i := 7) sc__law_is_day.nd rfl (by first | exact Or.inl rfl | exact Or.inr rfl))) (fun _ _ _ _ _ => (pts_one (pt_not (pt_val (pe_call (ok__law_is_block Y) (hr.mono (by decide)) (by rfl) Y.d__law_is_block.g Y.d__law_is_block.kp Y.d__law_is_block.b .nil pass0 (pa_cons (pv 7) (pa_cons (pv 1) (pa_cons (pe_callB (call_lenK K rfl) (by rfl) Y.b.len (by decide +kernel) (pa_cons (pv 2) pa_nil)) pa_nil)))))))) (fun _ _ _ _ _ => (pv 7))) (pe_lst pa_nil) (nomark _))))))))))), ?_⟩
    have no : ∀ H', Kx [] H H' → isDayB d = false → Q (.bl false) H' := fun H' k e => by
      have := q H' k
      rwa [e] at this
    refine ⟨v, rfl, v, .ty "tuple", _, _, _, rfl, .ty _, ht.ty, kit_tuple d, _, rfl, ite2 (fun c => ?_) (fun c => ?_)⟩
    · exact no H (Kx.refl H) (not_tuple (by simpa using c) isDayB_tp)
    · cases ht with
      | tup m ha l =>
        rename_i a xs ds
        have hlen := l.length
        refine ⟨_, rfl, a, xs, rfl, .inr (SqT.of ha), rfl, _, rfl, ite2 (fun c1 => ?_) (fun c1 => ?_)⟩
        · exact no H (Kx.refl H) (isDayB_tp _ (by rw [hlen] at c1; exact len5 c1))
        obtain ⟨ho, st, si, as, bl, rfl⟩ := tuple5 (by rw [← hlen]; exact len5' c1)
        obtain ⟨v1, v2, v3, v4, v5, rfl, t1, t2, t3, t4, t5⟩ := TrAll.five l
        refine ⟨.ref a, rfl, a, _, 0, v1, rfl, rfl, SqT.of ha, rfl, v1, ho, 1, 10, rfl, t1, fun H1 k1 => ⟨_, rfl, ?_⟩⟩
        cases h1 : isWh 1 10 ho with
        | false => exact iteT (no _ k1 (by simp only [isDayB, h1, Bool.false_and]))
        | true =>
        obtain ⟨hh, rfl, _, _⟩ := isWh_int h1
        cases t1
        have ha1 := k1.tup (by simp) ha
        refine iteF ⟨.ref a, rfl, a, _, rfl, SqT.of ha1, rfl, _, _, rfl, v2, _, rfl, v3, _, rfl, v4, _, rfl, v5, _, rfl, rfl, ?_⟩
        -- the stores are whole numbers; sights, asks are lists
        refine ⟨_, rfl, v2, st, 0, 5, rfl, t2.up k1, sz_inT (by simp) hz, fun H2 k2 => ⟨_, rfl, ?_⟩⟩
        have k12 := k1.trans k2
        cases h2 : listAll (isWh 0 5) st with
        | false => exact iteT (no _ k12 (by simp only [isDayB, storesB, h2, Bool.false_and, Bool.and_false]))
        | true =>
        obtain ⟨sts, rfl⟩ : ∃ sts, st = .list sts := by
          cases st with
          | list sts => exact ⟨sts, rfl⟩
          | _ => cases h2
        refine iteF ⟨v3, rfl, v3, .ty "list", _, _, _, rfl, .ty _, (t3.up k12).ty, kit_list si, _, rfl, ?_⟩
        cases h3 : isiD "list" si with
        | false => exact iteT (no _ k12 (by simp only [isDayB, sightsB, isi_list h3, Bool.false_and, Bool.and_false]))
        | true =>
        obtain ⟨sis, rfl⟩ := isi_list' h3
        refine iteF ⟨v4, rfl, v4, .ty "list", _, _, _, rfl, .ty _, (t4.up k12).ty, kit_list as, _, rfl, ?_⟩
        cases h4 : isiD "list" as with
        | false => exact iteT (no _ k12 (by simp only [isDayB, asksB, isi_list h4, Bool.false_and, Bool.and_false]))
        | true =>
        obtain ⟨ass, rfl⟩ := isi_list' h4
        -- blocks is a list; how many
        refine iteF ⟨v5, rfl, v5, .ty "list", _, _, _, rfl, .ty _, (t5.up k12).ty, kit_list bl, _, rfl, ?_⟩
        cases h5 : isiD "list" bl with
        | false => exact iteT (no _ k12 (by simp only [isDayB, blocksB, isi_list h5, Bool.false_and, Bool.and_false]))
        | true =>
        obtain ⟨bls, rfl⟩ := isi_list' h5
        obtain ⟨a2, x2, rfl, e2, l2⟩ := t2.listV
        obtain ⟨a3, x3, rfl, e3, l3⟩ := t3.listV
        obtain ⟨a4, x4, rfl, e4, l4⟩ := t4.listV
        obtain ⟨a5, x5, rfl, e5, l5⟩ := t5.listV
        have n2 := l2.length
        have n3 := l3.length
        have n4 := l4.length
        have n5 := l5.length
        refine iteF ⟨.ref a2, rfl, a2, x2, rfl, .inl (SqL.of (k12.lst (by simp) e2)), len_ok, fun N1 hN1 => ?_⟩
        have kN1 := k12.trans (Kx.new (o := .lst [.int 1, .int 2, .int 3, .int 4]) hN1)
        refine ⟨N1, _, rfl, .inl (SqL.of upd_same), rfl, rfl, _, rfl, ?_⟩
        rw [if_pos rfl, in4]
        cases h6 : (decide (1 ≤ (x2.length : Int)) && decide ((x2.length : Int) ≤ 4)) with
        | false => exact iteT (no _ kN1 (by rw [n2] at h6; simp only [isDayB, storesB, isLs, h6, Bool.false_and, Bool.and_false]))
        | true =>
        refine iteF ⟨.ref a3, rfl, a3, x3, rfl, .inl (SqL.of (kN1.lst (by simp) e3)), len_ok, fun N2 hN2 => ?_⟩
        generalize hq : upd _ N2 _ = H3
        have kN2 : Kx [] H H3 := hq ▸ kN1.trans (Kx.new (o := .lst [.int 1, .int 2, .int 3]) hN2)
        have eN2 : H3 N2 = some (.lst [.int 1, .int 2, .int 3]) := hq ▸ upd_same
        clear hq
        refine ⟨N2, _, rfl, .inl (SqL.of eN2), rfl, rfl, _, rfl, ?_⟩
        rw [if_pos rfl, in3]
        cases h7 : (decide (1 ≤ (x3.length : Int)) && decide ((x3.length : Int) ≤ 3)) with
        | false => exact iteT (no _ kN2 (by rw [n3] at h7; simp only [isDayB, sightsB, isLs, h7, Bool.false_and, Bool.and_false]))
        | true =>
        refine iteF ⟨.ref a4, rfl, a4, x4, rfl, .inl (SqL.of (kN2.lst (by simp) e4)), .ref a3, rfl, a3, x3, rfl, .inl (SqL.of (kN2.lst (by simp) e3)), rfl, _, rfl, ?_⟩
        cases h8 : decide (V.int (x4.length : Int) = V.int (x3.length : Int)) with
        | false =>
          have n34 : ¬ (ass.length : Int) = (sis.length : Int) := fun z => by
            have := of_decide_eq_false h8
            rw [n3, n4, z] at this
            exact this rfl
          have ea : isLs (sis.length : Int) (sis.length : Int) (.list ass) = false := by
            show (decide ((sis.length : Int) ≤ (ass.length : Int)) && decide ((ass.length : Int) ≤ (sis.length : Int))) = false
            rw [Bool.eq_false_iff]
            intro z
            simp only [Bool.and_eq_true, decide_eq_true_eq] at z
            omega
          exact iteT (no _ kN2 (by simp only [isDayB, asksB, lenD, ea, Bool.false_and, Bool.and_false]))
        | true =>
        have n34 : (ass.length : Int) = (sis.length : Int) := by
          have := V.int.inj (of_decide_eq_true h8)
          omega
        have ea : isLs (sis.length : Int) (sis.length : Int) (.list ass) = true := by
          show (decide ((sis.length : Int) ≤ (ass.length : Int)) && decide ((ass.length : Int) ≤ (sis.length : Int))) = true
          simp only [Bool.and_eq_true, decide_eq_true_eq]
          omega
        refine iteF ⟨.ref a5, rfl, a5, x5, rfl, .inl (SqL.of (kN2.lst (by simp) e5)), _, _, rfl, rfl, _, rfl, ?_⟩
        cases h9 : decide ((14 : Int) < (x5.length : Int)) with
        | true =>
          have eb : isLs 0 14 (.list bls) = false := by
            have := of_decide_eq_true h9
            show (decide ((0 : Int) ≤ (bls.length : Int)) && decide ((bls.length : Int) ≤ 14)) = false
            rw [Bool.eq_false_iff]
            intro z
            simp only [Bool.and_eq_true, decide_eq_true_eq] at z
            omega
          exact iteT (no _ kN2 (by simp only [isDayB, blocksB, eb, Bool.false_and, Bool.and_false]))
        | false =>
        have eb : isLs 0 14 (.list bls) = true := by
          have := of_decide_eq_false h9
          show (decide ((0 : Int) ≤ (bls.length : Int)) && decide ((bls.length : Int) ≤ 14)) = true
          simp only [Bool.and_eq_true, decide_eq_true_eq]
          omega
        have szs : szAll sts + szAll sis + szAll ass + szAll bls ≤ 90000 ∨ True := .inr trivial
        have zA : sz (.list ass) ≤ 100000 := sz_inT (by simp) hz
        have zS : sz (.list sis) ≤ 100000 := sz_inT (by simp) hz
        have zB : sz (.list bls) ≤ 100000 := sz_inT (by simp) hz
        have small : ∀ {xs : List PyData}, sz (.list xs) ≤ 100000 → xs.length < sizeLine := fun {xs} h => by
          have := szAll_len xs
          simp only [sz] at h
          unfold sizeLine
          omega
        -- the asks
        refine iteF ?_
        refine st_next ?_
        dsimp only
        refine st_seq (st_ifs (st_not (st_b (st_call (st_cons (lc_use ?_))))))
        refine ⟨.ref a4, rfl, a4, rfl, ⟨x4, SqL.of (kN2.lst (by simp) e4)⟩, ?_⟩
        refine lc_filter (fun x => !isNone x) (kN2.lst (by simp) e4) (l4.up kN2) (small zA) (fun x d H' hd t k R R0 hR hR0 => ?_) fun D ys H4 k4 hD hdd ty => ?_
        · refine ⟨rfl, x, rfl, rfl, _, rfl, ?_⟩
          rw [isNone_v t]
          exact ite2 (fun c => ⟨x, rfl, hR c H' (Kx.refl _)⟩) (fun c => hR0 (notE c) H' (Kx.refl _))
        have kk4 := kN2.trans k4
        refine ⟨_, .list (ass.filter fun x => !isNone x), 0, 999, rfl, .lst (by simp) hdd ty, ?_, fun H5 k5 => ⟨_, rfl, ?_⟩⟩
        · have := szAll_filter (fun x => !isNone x) ass
          simp only [sz] at zA ⊢
          omega
        have kk5 := kk4.trans k5
        have eA : listAll (isWh 0 999) (.list (ass.filter fun x => !isNone x)) = listAll (fun a => isNone a || isWh 0 999 a) (.list ass) := all_filter ass
        rw [eA]
        cases hA : listAll (fun a => isNone a || isWh 0 999 a) (.list ass) with
        | false => exact iteT (no _ kk5 (by simp only [isDayB, asksB, hA, Bool.false_and, Bool.and_false]))
        | true =>
        -- the sights
        refine iteF ?_
        refine st_next ?_
        dsimp only
        refine st_seq (st_ifs (st_test (st_op (lc_use ?_))))
        refine ⟨.ref a3, rfl, a3, rfl, ⟨x3, SqL.of (kk5.lst (by simp) e3)⟩, ?_⟩
        refine lc_filter (fun x => !sightB hh (x2.length : Int) x) (kk5.lst (by simp) e3) (l3.up kk5) (small zS) (fun x d H' hd t k R R0 hR hR0 => ?_) fun D2 ys2 H6 k6 hD2 hdd2 ty2 => ?_
        · refine ⟨rfl, x, rfl, .int hh, rfl, .ref a2, rfl, a2, x2, rfl, .inl (SqL.of ((kk5.trans k).lst (by simp) e2)), x, d, hh, (x2.length : Int), rfl, t, sz_in hd zS, by have := h6; simp only [Bool.and_eq_true, decide_eq_true_eq] at this; omega, fun H'' k2 => ?_⟩
          exact ⟨_, rfl, ite2 (fun c => ⟨x, rfl, hR c H'' k2⟩) (fun c => hR0 (notE c) H'' k2)⟩
        have kk6 := kk5.trans k6
        refine ⟨len_ok, fun N3 hN3 => ⟨D2, N3, ys2, rfl, rfl, (Kx.new (B := []) hN3).lst (by simp) hdd2, upd_same, _, rfl, ?_⟩⟩
        have kk7 := kk6.trans (Kx.new (o := .lst []) hN3)
        generalize upd H6 N3 (.lst []) = H7 at kk7 ⊢
        have eS : ys2.isEmpty = listAll (sightB hh (x2.length : Int)) (.list sis) := by
          rw [trAll_empty ty2, filter_not_nil]
          rfl
        rw [eS]
        cases hS : listAll (sightB hh (x2.length : Int)) (.list sis) with
        | false => exact iteT (no _ kk7 (by rw [n2] at hS; simp only [isDayB, sightsB, lenD, intOf, hS, Bool.false_and, Bool.and_false]))
        | true =>
        -- the blocks
        refine iteF ?_
        refine st_next ?_
        dsimp only
        refine st_ret (st_op (lc_use ?_))
        refine ⟨.ref a5, rfl, a5, rfl, ⟨x5, SqL.of (kk7.lst (by simp) e5)⟩, ?_⟩
        refine lc_filter (fun x => !blockB hh (x2.length : Int) x) (kk7.lst (by simp) e5) (l5.up kk7) (small zB) (fun x d H' hd t k R R0 hR hR0 => ?_) fun D3 ys3 H8 k8 hD3 hdd3 ty3 => ?_
        · refine ⟨rfl, x, rfl, .int hh, rfl, .ref a2, rfl, a2, x2, rfl, .inl (SqL.of ((kk7.trans k).lst (by simp) e2)), x, d, hh, (x2.length : Int), rfl, t, fun H'' k2 => ?_⟩
          exact ⟨_, rfl, ite2 (fun c => ⟨x, rfl, hR c H'' k2⟩) (fun c => hR0 (notE c) H'' k2)⟩
        refine ⟨len_ok, fun N4 hN4 => ⟨D3, N4, ys3, rfl, rfl, (Kx.new (B := []) hN4).lst (by simp) hdd3, upd_same, ?_⟩⟩
        have eB : ys3.isEmpty = listAll (blockB hh (x2.length : Int)) (.list bls) := by
          rw [trAll_empty ty3, filter_not_nil]
          rfl
        have fin := q _ ((kk7.trans k8).trans (Kx.new (o := .lst []) hN4))
        have e0 : isDayB (.tuple [.int hh, .list sts, .list sis, .list ass, .list bls]) = listAll (blockB hh (x2.length : Int)) (.list bls) := by
          rw [n2] at h6 hS ⊢
          rw [n3] at h7
          have h6' : isLs 1 4 (.list sts) = true := h6
          have h7' : isLs 1 3 (.list sis) = true := h7
          simp only [isDayB, storesB, sightsB, asksB, blocksB, lenD, intOf, h1, h2, h6', h7', hS, hA, ea, eb, Bool.true_and]
        rw [e0] at fin
        rw [eB]
        exact fin
      | _ => exact absurd rfl c
end
end Law

set_option Elab.async false
set_option linter.all false
set_option maxRecDepth 100000
set_option maxHeartbeats 1000000
namespace Law
open PySem PySem.Spec PyProof.Rows L2 GxR GX Tree Kit Data Loops Loops2 Comps Purse Day SetG SetL Loops3 Obj Enum Wipe Txts Lit Ib Sep Sets EndG Shown Small Raised Picks Dic1 Things
section
variable {P : Program} {w : World} {K : PySem.W.Frag} {mg : Str → Option Value} {base : Heap} {fa : String → Addr} {fd : String → FuncData} {ca ta : String → Addr} {cs : String → Addr} {fm : String → String → Addr} {fdm : String → String → FuncData}
theorem sqL_kx {H H' : Hp} {a : Addr} {xs : List V} (h : SqL K H a xs) (k : Kx [] H H') : SqL K H' a xs := by
  rcases h with (h | ⟨o, h⟩) | h
  · exact .inl (.inl (k.lst (by simp) h))
  · exact .inl (.inr ⟨o, k.at (by simp) h fun _ z => by cases z⟩)
  · exact .inr h
theorem kx_drop {p : Addr} {H H' H0 : Hp} (k0 : Kx [] H0 H) (hp : H0 p = none) (k : Kx [p] H H') : Kx [] H0 H' := Kx.weak (k0.of.trans k) fun b hb => .inr (by rw [List.mem_singleton.mp hb]; exact hp)
theorem st_andT {t1 t2 : TT} {σ : L2.St} {H : Hp} {Q : Bool → Hp → Prop} (h : t1 σ H fun c H1 => if c = true then t2 σ H1 Q else Q false H1) : tAnd t1 t2 σ H Q := h
theorem rep2 {σ : L2.St} {H : Hp} {nm : Str} {y : V} {yd : PyData} {Q : VK} (hy : ∀ H', Tr [] H' y yd) (q : ∀ (S : Addr) (H' : Hp), Kx [] H H' → Tr [] H' (.ref S) (.list [.list [.str nm, yd], .list [.str nm, yd]]) → Q (.ref S) H') :
    tOp rRep (tLst (tCons (tLst (tCons (tC (.str nm)) (tCons (tC y) tNil))) tNil)) (tC (.int 2)) σ H Q := by
  refine st_op (st_lst (st_cons (st_lst (st_cons (st_c (st_cons (st_c (st_nil ⟨len_ok, fun S1 m1 => st_nil ⟨len_ok, fun S2 m2 => ?_⟩⟩))))))))
  have k1 : Kx [] H (upd H S1 (.lst [.str nm, y])) := Kx.new m1
  have e1 : upd H S1 (.lst [.str nm, y]) S1 = some (.lst [.str nm, y]) := upd_same
  generalize upd H S1 (.lst [.str nm, y]) = H1 at k1 e1 m2 ⊢
  have k2 : Kx [] H1 (upd H1 S2 (.lst [.ref S1])) := Kx.new m2
  have e2 : upd H1 S2 (.lst [.ref S1]) S2 = some (.lst [.ref S1]) := upd_same
  generalize upd H1 S2 (.lst [.ref S1]) = H2 at k2 e2 ⊢
  refine st_c ⟨S2, 2, _, rfl, rfl, e2, by decide, by decide, by simp; unfold sizeLine; omega, fun S3 m3 => ?_⟩
  have k3 : Kx [] H2 (upd H2 S3 (.lst [.ref S1, .ref S1])) := Kx.new m3
  have e3 : upd H2 S3 (.lst [.ref S1, .ref S1]) S3 = some (.lst [.ref S1, .ref S1]) := upd_same
  have kk := k1.trans (k2.trans k3)
  have t1 : Tr [] (upd H2 S3 (.lst [.ref S1, .ref S1])) (.ref S1) (.list [.str nm, yd]) := .lst (by simp) ((k2.trans k3).lst (by simp) e1) (.cons (.str _) (.cons (hy _) .nil))
  exact q S3 _ kk (.lst (by simp) e3 (.cons t1 (.cons t1 .nil)))
theorem lit_listT {σ : L2.St} {C : List Addr} {H : Hp} {ds : List PyData} (al : ∀ c ∈ C, H c ≠ none) {j : Nat} {a : Addr} (hσ : σ[j]? = some (some (.ref a))) (t : Tr C H (.ref a) (.tuple ds)) : LitE σ C H (tCB (rListK K) (tCons (tVar j) tNil)) (.list ds) := fun H1 k Q q => by
  obtain ⟨xs, ex, tx⟩ := (t.up k).itemsT
  refine ⟨.ref a, hσ, a, xs, rfl, .inr (SqT.of ex), fun p hp => ?_⟩
  obtain ⟨k4, e4, t4⟩ := mk_lst (al_up al k) tx hp
  exact q _ _ k4 t4
theorem stop_text {D : Dy} (hD : DyOk D) : stopAt (textD D) = none := by
  have e : firstBad badP (wssOf (textD D)) = none := first_none fun j hj => by
    rw [text_split hD] at hj ⊢
    unfold badP
    rw [rows_form hD _ (by rw [getD_at _ _ hj]; exact List.getElem_mem hj), rows_place j hj]
    rfl
  unfold stopAt
  rw [e]
  show (if isDayB (dataOf (wssOf (textD D))) = true then none else some _) = none
  rw [text_split hD, data_back hD, if_pos (isDayB_ok hD)]
def atE (K : PySem.W.Frag) (Q : VK) : XK := fun cls d H' => ∀ a : Addr, H' a = none → tXk K "at" (tC (.ref a)) [] (upd H' a (Caught.ExK cls d a)) Q
theorem made_at (Z : CFacts K mg cs fm fdm) {y : V} {H : Hp} {Q : VK} (q : ∀ H', Kx [] H H' → Q y H') : ([y] : List V).length ≤ 1000 ∧ ∀ a, H a = none → sp_NoText___init__ (cs "NoText") (.ref a :: ([y] ++ [])) (upd H a (exo a (cs "NoText") none))
      (fun v H2 => v = .non ∧ ∃ (d : Addr) (fs : List (Str × V)), H2 a = some (exo a (cs "NoText") (some d)) ∧ H2 d = some (exd d fs) ∧ H d = none ∧ atE K Q (.ref (cs "NoText")) (some d) (upd (del H2 a) d (.xd fs))) (fun _ _ _ => False) :=
  raise_no fun d H' k n e a ha => ⟨a, cs "NoText", d, _, y, rfl, upd_same, Z.ox_NoText.xf, Z.na_NoText_at, by rw [upd_ne (fun z => by rw [z, ha] at e; cases e)]; exact e, rfl, q _ (k.trans (Kx.new ha))⟩
theorem made_one (Z : CFacts K mg cs fm fdm) {y : V} {σ : L2.St} {H : Hp} {Q : VK} (q : ∀ H', Kx [] H H' → Q y H') : tXk K "at" (Two.tMade (tMkO (cs "NoText") (sp_NoText___init__ (cs "NoText")) [] (tCons (tC y) tNil))) σ H Q := made_at Z q
theorem made_zero (Z : CFacts K mg cs fm fdm) {y : V} {σ : L2.St} {H : Hp} {Q : VK} (q : ∀ H', Kx [] H H' → Q y H') : tXk K "at" (Two.tMade (tMkO (cs "NoText") (sp_NoText___init__ (cs "NoText")) [y] tNil)) σ H Q := ⟨by simp, (made_at Z q).2⟩
def sp_law (K : PySem.W.Frag) (ta : String → Addr) : Sp := fun vs H Q _ => ∃ (a : Addr) (ns : List Int), vs = [.ref a] ∧ SqL K H a (ns.map V.int) ∧ ns.length ≤ 63 ∧ Tb (Ts ta) H ∧ ∀ H', Q (.bl true) H'
theorem ok_law (Y : Facts K mg base fa fd ca ta) (Z : CFacts K mg cs fm fdm) {f : Addr} {fl : FuncData} (F : FunD K "law" "law" (defArgs s_law) (defBody s_law) (defScope s_law) [] [] f fl) (hm : ∃ o, base.get? sysModules = some o) : FnG P w K mg base 15 f fl ["script"] (sp_law K ta) := by
  refine fnG F sc_law (fun vs H Q E h => ?_) (fun cdv A outer s H vs Q E hg hcd hr h => ?_)
  · obtain ⟨a, ns, rfl, _⟩ := h; rfl
  · obtain ⟨a, ns, rfl, ha, hl, hT, q⟩ := h
    refine ⟨_, (pss_cons (ps_for PassesOwn.never rfl (pi_range1 (by rfl) Y.b.range (pa_cons (pe_callB (call_max2 rfl) (by rfl) Y.b.max (by decide +kernel) (pa_cons pe_int (pa_cons (pe_callB (call_min2 rfl) (by rfl) Y.b.min (by decide +kernel) (pa_cons pe_int (pa_cons (pe_callB (call_lenK K rfl) (by rfl) Y.b.len (by decide +kernel) (pa_cons (pv 0) pa_nil)) pa_nil))) pa_nil))) pa_nil)) (pg_name (i := 1) sc_law.nd rfl (by first | exact Or.inl rfl | exact Or.inr rfl)) (pss_cons (ps_set (i := 2) sc_law.nd rfl (by first | exact Or.inl rfl | exact Or.inr rfl) (pe_call (ok__law_purse Y) (hr.mono (by decide)) (by rfl) Y.d__law_purse.g Y.d__law_purse.kp Y.d__law_purse.b .nil pass0 (pa_cons (pv 0) (pa_cons (pv 1) pa_nil))))
      (pss_cons (ps_set (i := 3) sc_law.nd rfl (by first | exact Or.inl rfl | exact Or.inr rfl) (pe_call (ok__law_day Y) (hr.mono (by decide)) (by rfl) Y.d__law_day.g Y.d__law_day.kp Y.d__law_day.b .nil pass0 (pa_cons (pv 2) (pa_cons pe_int (pa_cons pe_int pa_nil)))))
      (pss_cons (ps_set (i := 4) sc_law.nd rfl (by first | exact Or.inl rfl | exact Or.inr rfl) (pe_call (ok_show_day Y Z) (hr.mono (by decide)) (by rfl) Y.d_show_day.g Y.d_show_day.kp Y.d_show_day.b .nil passL (pa_cons (pv 3) pa_nil)))
      (pss_cons (ps_set (i := 5) sc_law.nd rfl (by first | exact Or.inl rfl | exact Or.inr rfl) (pe_lst (pa_cons (pv 3) (pa_cons (pe_callTy (call_listK K rfl) (by rfl) Y.b.list (by decide +kernel) (pa_cons (pv 3) pa_nil)) (pa_cons (pe_ix (ix_tupK K rfl) (pv 3) pe_int (fun _ _ => rfl)) (pa_cons (pe_ix (ix_tupK K rfl) (pv 3) pe_int (fun _ _ => rfl)) (pa_cons pe_non (pa_cons pe_bl (pa_cons pe_int (pa_cons (pe_lst (pa_cons (pv 4) pa_nil)) (pa_cons (pe_tup (pa_cons (pv 4) pa_nil)) (pa_cons (pe_disp (pps_cons (pv 4) (pv 4) pps_nil) (by rfl) (by rfl) (List.cons_ne_nil _ _) (by decide)) (pa_cons (pe_split (pv 4) pe_str) pa_nil)))))))))))))
      (pss_cons (ps_for PassesOwn.never rfl (pi_listK K rfl (pe_op op_cat (pv 5) (pe_lst (pa_cons (pe_call (ok__law_bent Y) (hr.mono (by decide)) (by rfl) Y.d__law_bent.g Y.d__law_bent.kp Y.d__law_bent.b .nil pass0 (pa_cons (pv 2) (pa_cons (pv 3) pa_nil))) pa_nil)))) (pg_name (i := 6) sc_law.nd rfl (by first | exact Or.inl rfl | exact Or.inr rfl)) (pss_cons (ps_set (i := 7) sc_law.nd rfl (by first | exact Or.inl rfl | exact Or.inr rfl) (pe_callB (Dic1.call_repr_one hg hr.units hm) (by rfl) Y.b.repr (by decide +kernel) (pa_cons (pv 6) pa_nil)))
      (pss_cons (ps_if ((pw_and (pt_not (pt_val (pe_callB (call_isiK' K rfl) (by rfl) Y.b.isinstance (by decide +kernel) (pa_cons (pv 6) (pa_cons (pe_bltn (v := .ty "str") (by rfl) Y.b.str (by decide +kernel) rfl) pa_nil))))) (pw_and1 (pt_cmpR (op_neDK K rfl hr.units) (pe_lc (own := [("again", 10)]) (g := gName 10) (tt := tYes) rfl sc_law.nd (pi_range1 (by rfl) Y.b.range (pa_cons pe_int pa_nil)) (blkOk_by (N := ["script", "k", "purse", "day", "text", "things", "thing", "before", "others", "turn", "again"]) (sc := defScope s_law) (by decide +kernel)) (fun _ _ _ _ _ => (pg_name (i := 10) sc_law.nd rfl (by first | exact Or.inl rfl | exact Or.inr rfl))) (fun _ _ _ _ _ => pts_nil) (fun _ _ _ _ _ => (pe_call (ok__law_word Y Z) (hr.mono (by decide)) (by rfl) Y.d__law_word.g Y.d__law_word.kp Y.d__law_word.b .nil pass0 (pa_cons (pv 6) (pa_cons pe_bl pa_nil))))) (pe_op op_rep (pe_lst (pa_cons (pe_lst (pa_cons pe_str (pa_cons pe_non pa_nil))) pa_nil)) pe_int) (nomark _))))).pt (pss_one (ps_ret pe_bl)) pss_nil)
      (pss_one (ps_if (pt_cmpR op_ne (pe_callB (Dic1.call_repr_one hg hr.units hm) (by rfl) Y.b.repr (by decide +kernel) (pa_cons (pv 6) pa_nil)) (pv 7) (nomark _)) (pss_one (ps_ret pe_bl)) pss_nil)))))
      (pss_cons (ps_set (i := 8) sc_law.nd rfl (by first | exact Or.inl rfl | exact Or.inr rfl) (pe_lst (pa_cons (pv 4) (pa_cons pe_non (pa_cons pe_bl (pa_cons pe_int (pa_cons (pe_lst pa_nil) (pa_cons (pe_tup pa_nil) (pa_cons pe_dnewK (pa_cons (pe_callTy (call_listK K rfl) (by rfl) Y.b.list (by decide +kernel) (pa_cons (pv 3) pa_nil)) (pa_cons (pe_lst (pa_cons (pv 3) pa_nil)) (pa_cons (pe_tup (pa_cons (pv 3) pa_nil)) pa_nil))))))))))))
      (pss_cons (ps_set (i := 8) sc_law.nd rfl (by first | exact Or.inl rfl | exact Or.inr rfl) (pe_op op_cat (pv 8) (pe_lc (own := [("turn", 9)]) (g := gName 9) (tt := tYes) rfl sc_law.nd (pi_range1 (by rfl) Y.b.range (pa_cons pe_int pa_nil)) (blkOk_by (N := ["script", "k", "purse", "day", "text", "things", "thing", "before", "others", "turn", "again"]) (sc := defScope s_law) (by decide +kernel)) (fun _ _ _ _ _ => (pg_name (i := 9) sc_law.nd rfl (by first | exact Or.inl rfl | exact Or.inr rfl))) (fun _ _ _ _ _ => pts_nil) (fun _ _ _ _ _ => (pe_call (ok__law_bent Y) (hr.mono (by decide)) (by rfl) Y.d__law_bent.g Y.d__law_bent.kp Y.d__law_bent.b .nil pass0 (pa_cons (pv 2) (pa_cons (pv 3) pa_nil)))))))
      (pss_cons (ps_for PassesOwn.never rfl (pi_listK K rfl (pv 8)) (pg_name (i := 6) sc_law.nd rfl (by first | exact Or.inl rfl | exact Or.inr rfl)) (pss_cons (ps_set (i := 7) sc_law.nd rfl (by first | exact Or.inl rfl | exact Or.inr rfl) (pe_callB (Dic1.call_repr_one hg hr.units hm) (by rfl) Y.b.repr (by decide +kernel) (pa_cons (pv 6) pa_nil)))
      (pss_cons (ps_if ((pw_and (pt_not (pt_val (pe_call (ok__law_is_day Y) (hr.mono (by decide)) (by rfl) Y.d__law_is_day.g Y.d__law_is_day.kp Y.d__law_is_day.b .nil pass0 (pa_cons (pv 6) pa_nil)))) (pw_and1 (pt_cmpR (op_neDK K rfl hr.units) (pe_lc (own := [("again", 10)]) (g := gName 10) (tt := tYes) rfl sc_law.nd (pi_range1 (by rfl) Y.b.range (pa_cons pe_int pa_nil)) (blkOk_by (N := ["script", "k", "purse", "day", "text", "things", "thing", "before", "others", "turn", "again"]) (sc := defScope s_law) (by decide +kernel)) (fun _ _ _ _ _ => (pg_name (i := 10) sc_law.nd rfl (by first | exact Or.inl rfl | exact Or.inr rfl))) (fun _ _ _ _ _ => pts_nil) (fun _ _ _ _ _ => (pe_call (ok__law_word Y Z) (hr.mono (by decide)) (by rfl) Y.d__law_word.g Y.d__law_word.kp Y.d__law_word.b .nil pass0 (pa_cons (pv 6) (pa_cons pe_bl pa_nil))))) (pe_op op_rep (pe_lst (pa_cons (pe_lst (pa_cons pe_str (pa_cons pe_int pa_nil))) pa_nil)) pe_int) (nomark _))))).pt (pss_one (ps_ret pe_bl)) pss_nil)
      (pss_one (ps_if (pt_cmpR op_ne (pe_callB (Dic1.call_repr_one hg hr.units hm) (by rfl) Y.b.repr (by decide +kernel) (pa_cons (pv 6) pa_nil)) (pv 7) (nomark _)) (pss_one (ps_ret pe_bl)) pss_nil)))))
      (pss_one (ps_if (pt_cmpR op_ne (pe_callB (call_repr_tree hg hr.units hm) (by rfl) Y.b.repr (by decide +kernel) (pa_cons (pe_call (ok_read_day Y Z) (hr.mono (by decide)) (by rfl) Y.d_read_day.g Y.d_read_day.kp Y.d_read_day.b .nil passL (pa_cons (pv 4) pa_nil)) pa_nil)) (pe_callB (call_repr_tree hg hr.units hm) (by rfl) Y.b.repr (by decide +kernel) (pa_cons (pv 3) pa_nil)) (nomark _)) (pss_one (ps_ret pe_bl)) pss_nil)))))))))))
      (pss_one (ps_ret (pe_and (pe_cmpR op_eq (Raised.pe_xk K rfl (Two.pe_made (pmk_oex Z.ox_NoText.ox Z.ox_NoText.ini Z.ox_NoText.ti (ok_NoText___init__ Y Z) (hr.mono (by decide)) Z.d_NoText___init__.b .nil pass0 (by rfl) Z.g_NoText (pa_cons pe_int pa_nil)))) pe_int (nomark _)) (pe_and (pe_cmpR op_isN (Raised.pe_xk K rfl (Two.pe_made0 Z.ox_NoText.ox Z.ox_NoText.ini Z.ox_NoText.ti (ok_NoText___init__ Y Z) (hr.mono (by decide)) Z.d0_NoText___init__ pass0 (by rfl) Z.g_NoText)) pe_non (nomark _)) (pe_one (pe_cmpR op_isN (Raised.pe_xk K rfl (Two.pe_made (pmk_oex Z.ox_NoText.ox Z.ox_NoText.ini Z.ox_NoText.ti (ok_NoText___init__ Y Z) (hr.mono (by decide)) Z.d_NoText___init__.b .nil pass0 (by rfl) Z.g_NoText (pa_cons pe_non pa_nil)))) pe_non (nomark _)))))))), ?_⟩
    refine st_seq (st_for ?_)
    refine ⟨.ref a, rfl, a, _, rfl, .inl ha, _, _, rfl, _, _, rfl, _, rfl, ?_, ?_, ?_⟩
    · split <;> omega
    · rw [List.length_map]
      split <;> (try split) <;> omega
    have hN : ∀ i : Nat, i < (if (if (((ns.map V.int).length : Nat) : Int) < 4 then (((ns.map V.int).length : Nat) : Int) else 4) > 1 then (if (((ns.map V.int).length : Nat) : Int) < 4 then (((ns.map V.int).length : Nat) : Int) else 4) else 1 : Int).toNat → i < 4 := fun i hi => by
      split at hi <;> (try split at hi) <;> omega
    generalize (if (if (((ns.map V.int).length : Nat) : Int) < 4 then (((ns.map V.int).length : Nat) : Int) else 4) > 1 then (if (((ns.map V.int).length : Nat) : Int) < 4 then (((ns.map V.int).length : Nat) : Int) else 4) else 1 : Int) = N0 at hN ⊢
    refine for_gen (itr_at N0.toNat) (B := []) (Iv := fun i σ' H' => ∃ y1 y2 y3 y4 y5 y6 y7 y8 y9 y10, σ' = [some (.ref a), y1, y2, y3, y4, y5, y6, y7, y8, y9, y10]) ⟨_, _, _, _, _, _, _, _, _, _, rfl⟩ (fun i σ' H1 hi k1 ⟨y1, y2, y3, y4, y5, y6, y7, y8, y9, y10, e⟩ Nn hNn => ?_) fun σ' H1 k1 ⟨y1, y2, y3, y4, y5, y6, y7, y8, y9, y10, e⟩ => ?_
    · subst e
      have hi4 := hN i hi
      refine st_name (st_seq ?_)
      refine ⟨.ref a, rfl, .int i, rfl, a, ns, i, rfl, sqL_kx ha k1, by omega, hl, fun p H2 k2 hp pu => ?_⟩
      have k12 := k1.trans k2
      have A2 : At (Ts ta) [p] p 0 H2 := ⟨fun c hc => by rw [List.mem_singleton.mp hc]; exact pu.ne, by simp, pu, hT.kx k12⟩
      refine ⟨.ref p, rfl, p, 0, [p], 10, 14, rfl, by decide, by decide, by decide, by decide, by decide, A2, fun v d H3 k3 A3 t3 g3 => ?_⟩
      obtain ⟨D, rfl, hD, hday, hz, dsm⟩ := day_typedT (by decide) (by decide) g3
      refine st_name ?_
      dsimp only
      refine st_set ⟨v, rfl, v, _, rfl, t3.nil, hz, A3.tb, fun D0 e hD0 H4 k4 => ?_, fun z => absurd hday (by rw [z]; simp)⟩
      rw [e] at t3 hday hz dsm
      clear e hD
      obtain ⟨ad, xd, rfl, ed, td⟩ := (t3.up k4).tupV
      have A4 := A3.kx k4
      have t4 := t3.up k4
      have tl := text_len hD0
      obtain ⟨so1, so2, so3, so4⟩ := text_show hD0
      have so5 := rows_show hD0
      have rsp := rows_split hD0
      have rln := (rowsOf_len hD0).2
      refine st_name ?_
      dsimp only
      refine st_lit [some (.ref a), some (.int i), some (.ref p), some (.ref ad), some (.str (textD D0)), y5, y6, y7, y8, y9, y10] rfl ?_
      have rsx : ∀ {H' : Hp}, TrAll [p] H' ((rowsOf D0).map V.str) ((rowsOf D0).map PyData.str) := strs_tr _
      -- the things
      obtain ⟨v1, v2, v3, v4, v5, rfl, u1, u2, u3, u4, u5⟩ := TrAll.five td
      cases u1
      refine st_set (st_lst (st_cons ⟨.ref ad, rfl, st_cons (Txts.st_cb (st_cons ⟨.ref ad, rfl, st_nil ⟨ad, _, rfl, .inr (SqT.of ed), fun L1 n1 => ?_⟩⟩))⟩))
      obtain ⟨k5, e5, t5⟩ := mk_lst A4.al td n1
      have A5 := A4.kx k5
      have ed5 := k5.tup (by simp) ed
      generalize upd H4 L1 (.lst [.int D0.hours, v2, v3, v4, v5]) = H5 at k5 e5 t5 A5 ed5 ⊢
      refine st_cons (st_op ⟨.ref ad, rfl, ad, _, 0, .int D0.hours, rfl, rfl, SqT.of ed5, rfl, st_cons (st_op ⟨.ref ad, rfl, ad, _, 1, v2, rfl, rfl, SqT.of ed5, rfl, st_cons (st_c (st_cons (st_c (st_cons (st_c (st_cons (st_lst (st_cons ⟨_, rfl, st_nil ⟨len_ok, fun L2 n2 => ?_⟩⟩)))))))) ⟩)⟩)
      obtain ⟨k6, e6, t6⟩ := mk_lst A5.al (.cons (.str (textD D0)) .nil) n2
      have A6 := A5.kx k6
      generalize upd H5 L2 (.lst [.str (textD D0)]) = H6 at k6 e6 t6 A6 ⊢
      refine st_cons (st_tup (st_cons ⟨_, rfl, st_nil ⟨len_ok, fun L3 n3 => ?_⟩⟩))
      have k7 : Kx [] H6 (upd H6 L3 (.tup [.str (textD D0)])) := Kx.new n3
      have t7 : Tr [p] (upd H6 L3 (.tup [.str (textD D0)])) (.ref L3) (.tuple [.str (textD D0)]) := .tup (A6.nep n3) upd_same (.cons (.str _) .nil)
      have A7 := A6.kx k7
      generalize upd H6 L3 (.tup [.str (textD D0)]) = H7 at k7 t7 A7 ⊢
      refine st_cons (fun L4 n4 => ⟨.str (textD D0), rfl, .str (textD D0), rfl, upd_same, [(.inr (textD D0), .str (textD D0))], rfl, Nat.le_of_ble_eq_true rfl, ?_⟩)
      rw [upd_upd, show mergeK [] [((.inr (textD D0) : Key), V.str (textD D0))] = [(.inr (textD D0), .str (textD D0))] from rfl]
      have k8 : Kx [] H7 (upd H7 L4 (one (textD D0) (textD D0))) := Kx.new n4
      have e8 : upd H7 L4 (one (textD D0) (textD D0)) L4 = some (one (textD D0) (textD D0)) := upd_same
      have A8 := A7.kx k8
      have nL4 := A7.nep n4
      show tCons _ _ _ (upd H7 L4 (one (textD D0) (textD D0))) _
      generalize upd H7 L4 (one (textD D0) (textD D0)) = H8 at k8 e8 A8 ⊢
      refine st_cons ⟨_, rfl, ⟨_, rfl⟩, textD D0, "\n", rfl, rfl, by decide +kernel, by unfold sizeLine; omega, fun L5 n5 => ?_⟩
      rw [rsp]
      obtain ⟨k9, e9, t9⟩ := mk_lst A8.al (rsx (H' := H8)) n5
      have A9 := A8.kx k9
      generalize upd H8 L5 (.lst ((rowsOf D0).map V.str)) = H9 at k9 e9 t9 A9 ⊢
      refine st_nil ⟨len_ok, fun LT n10 => ?_⟩
      have k10 : Kx [] H9 (upd H9 LT (.lst [.ref ad, .ref L1, .int D0.hours, v2, .non, .bl true, .int 0, .ref L2, .ref L3, .ref L4, .ref L5])) := Kx.new n10
      have e10 : upd H9 LT (.lst [.ref ad, .ref L1, .int D0.hours, v2, .non, .bl true, .int 0, .ref L2, .ref L3, .ref L4, .ref L5]) LT = some (.lst [.ref ad, .ref L1, .int D0.hours, v2, .non, .bl true, .int 0, .ref L2, .ref L3, .ref L4, .ref L5]) := upd_same
      have nLT := A9.nep n10
      generalize upd H9 LT (.lst [.ref ad, .ref L1, .int D0.hours, v2, .non, .bl true, .int 0, .ref L2, .ref L3, .ref L4, .ref L5]) = H10 at k10 e10 ⊢
      have A10 := A9.kx k10
      have k410 := k5.trans (k6.trans (k7.trans (k8.trans (k9.trans k10))))
      refine st_lit [some (.ref a), some (.int i), some (.ref p), some (.ref ad), some (.str (textD D0)), some (.ref LT), y6, y7, y8, y9, y10] rfl ?_
      have tv10 := t4.up k410
      refine st_seq (st_for (st_ilist (st_op ⟨.ref LT, rfl, st_lst (st_cons ⟨.ref p, rfl, .ref ad, rfl, 4, by decide, p, _, [p], .ref ad, dayD D0, 20, 1000000, 400, rfl, by decide, A10, tv10, dsm, by decide, by decide, fun b1 d1 H11 k11 A11 t11 g11 => st_nil ⟨len_ok, fun LB nB => ?_⟩⟩)⟩)))
      have k12 : Kx [] H11 (upd H11 LB (.lst [b1])) := Kx.new nB
      have e12 : upd H11 LB (.lst [b1]) LB = some (.lst [b1]) := upd_same
      generalize upd H11 LB (.lst [b1]) = H12 at k12 e12 ⊢
      have k1012 : Kx [p] H10 H12 := k11.trans k12.of
      refine cat_vs (k1012.lst nLT e10) e12 (by simp; unfold sizeLine; omega) fun LF H13 k13 n13 e13 => ?_
      have k1013 := k1012.trans k13.of
      have A13 := (A11.kx k12).kx k13
      have mv : ∀ {v : V} {d : PyData}, Tr [p] H10 v d → Tr [] H13 v d := fun {v d} t => ((A10.tr t k11).up (k12.trans k13)).nil
      have oD : ShowOk (dayD D0) := ShowOk.of dsm (by decide) (by decide) (by decide)
      have oL : ShowOk (.list [.int D0.hours, .list (D0.stores.map .int), .list (D0.sights.map sightD), .list (D0.asks.map optD), .list (D0.blocks.map blkD)]) := ShowOk.of (L := 20) (M := 1000000) (S := 400) (D := 4) ⟨dsm.bd, dsm.sz, dsm.dp⟩ (by decide) (by decide) (by decide)
      have iD := dsm.itemsT
      have oS : ShowOk (.list (D0.stores.map .int)) := ShowOk.of (L := 20) (M := 1000000) (S := 400) (D := 4) ⟨(iD.2.2 _ (by simp)).1, by have h1 := iD.2.1; have h2 := szAll_mem (xs := [PyData.int D0.hours, .list (D0.stores.map .int), .list (D0.sights.map sightD), .list (D0.asks.map optD), .list (D0.blocks.map blkD)]) (d := .list (D0.stores.map .int)) (by simp); omega, by have := (iD.2.2 (.list (D0.stores.map .int)) (by simp)).2; omega⟩ (by decide) (by decide) (by decide)
      have hh0 := hD0.t0
      have hh1 := hD0.t1
      have oi : ∀ i : Int, i.natAbs ≤ 10000 → ShowOk (.int i) := fun i h => ShowOk.of (L := 1) (M := 10000) (S := 1) (D := 0) (Sm.int h) (by decide) (by decide) (by decide)
      have o1 : ShowOk d1 := ShowOk.of g11 (by decide) (by decide) (by decide)
      have allTh : ∀ x ∈ [V.ref ad, .ref L1, .int D0.hours, v2, .non, .bl true, .int 0, .ref L2, .ref L3, .ref L4, .ref L5] ++ [b1], ∃ d, ThD H13 x d := fun x hx => by
        simp only [List.cons_append, List.nil_append, List.mem_cons, List.not_mem_nil, or_false] at hx
        rcases hx with rfl | rfl | rfl | rfl | rfl | rfl | rfl | rfl | rfl | rfl | rfl | rfl
        · exact ⟨_, oD, .inl (mv tv10)⟩
        · exact ⟨_, oL, .inl (mv (t5.up (k6.trans (k7.trans (k8.trans (k9.trans k10))))))⟩
        · exact ⟨_, oi _ (by omega), .inl (.int _)⟩
        · exact ⟨_, oS, .inl (mv (u2.up k410))⟩
        · exact ⟨.none, ⟨rfl, Nat.zero_le _, by decide +kernel⟩, .inl .non⟩
        · exact ⟨.bool true, ⟨rfl, Nat.zero_le _, by decide +kernel⟩, .inl (.bl _)⟩
        · exact ⟨_, oi _ (by decide), .inl (.int _)⟩
        · exact ⟨_, so2, .inl (mv (t6.up (k7.trans (k8.trans (k9.trans k10)))))⟩
        · exact ⟨_, so3, .inl (mv (t7.up (k8.trans (k9.trans k10))))⟩
        · exact ⟨_, so4, .inr ⟨L4, textD D0, rfl, k1013.at nL4 (k10.at (by simp) (k9.at (by simp) e8 (fun _ z => by cases z)) (fun _ z => by cases z)) (fun _ z => by cases z), rfl⟩⟩
        · exact ⟨_, so5, .inl (mv (t9.up k10))⟩
        · exact ⟨_, o1, .inl (t11.up (k12.trans k13)).nil⟩
      generalize [V.ref ad, .ref L1, .int D0.hours, v2, .non, .bl true, .int 0, .ref L2, .ref L3, .ref L4, .ref L5] ++ [b1] = xs at e13 allTh
      refine ⟨LF, rfl, ⟨_, SqL.of e13⟩, ?_⟩
      refine for_gen (itl_at e13 (by simp)) (B := []) (Iv := fun j σ' H' => ∃ (z6 z7 z8 z9 z10 : Option V), σ' = [some (.ref a), some (.int i), some (.ref p), some (.ref ad), some (.str (textD D0)), some (.ref LT), z6, z7, z8, z9, z10])
        ⟨_, _, _, _, _, rfl⟩ (fun j σ' H14 hj k14 ⟨z6, z7, z8, z9, z10, e⟩ Nm hNm => ?_) fun σ' H14 k14 ⟨z6, z7, z8, z9, z10, e⟩ => ?_
      · subst e
        rw [getD_at _ _ hj]
        obtain ⟨d, hx0⟩ := allTh _ (List.getElem_mem hj)
        generalize xs[j] = x at hx0
        have hx := hx0.kx k14
        refine st_name ?_
        dsimp only
        refine st_lit [some (.ref a), some (.int i), some (.ref p), some (.ref ad), some (.str (textD D0)), some (.ref LT), some x, z7, z8, z9, z10] rfl ?_
        refine st_set (Txts.st_cb (st_cons ⟨x, rfl, st_nil (hx.repr ?_)⟩))
        refine st_lit [some (.ref a), some (.int i), some (.ref p), some (.ref ad), some (.str (textD D0)), some (.ref LT), some x, some (.str d.shown), z8, z9, z10] rfl ?_
        refine st_seq (st_ifs (st_andT (st_not (st_b (Txts.st_cb (st_cons ⟨x, rfl, st_cons (st_c (st_nil ⟨x, .ty "str", _, _, _, rfl, .ty _, hx.ty, kit_strD d, _, rfl, ?_⟩))⟩))))))
        cases hs : (tyD d == "str") with
        | true =>
          refine iteF (iteF (st_next ?_))
          dsimp only
          refine st_ifs (st_test (st_op (Txts.st_cb (st_cons ⟨x, rfl, st_nil (hx.repr ⟨_, rfl, rfl, _, rfl, ?_⟩)⟩))))
          rw [decide_eq_true rfl]
          exact iteF (hNm _ _ k14 ⟨_, _, _, _, _, rfl⟩)
        | false =>
          have hks : PySem.W.kitOne K (.type (tyD d)) (.type "str") = some false := by rw [kit_strD d, hs]
          refine iteT (st_test (st_op (lc_use ⟨_, rfl, by decide, by decide, ?_⟩)))
          refine lc_tr (itr_at (2 : Int).toNat) (by decide) (B := []) (C := []) (Iv := fun _ _ => True) (fun d => d = .list [.str "NoText", .none]) true (fun _ z => nomatch z) (fun _ z => nomatch z) (fun _ _ _ _ _ _ => trivial) (fun _ _ _ _ z => nomatch z) trivial
            (fun D1 m H15 hD1 al hm k15 _ R R0 hR hR0 => ?_) fun D1 ds H15 k15 _ t15 _ len all => ?_
          · refine ⟨rfl, st_yes ⟨x, rfl, x, true, rfl, (A13.tb.kx k14).kx k15, .inl ⟨rfl, tyD d, (hx.kx k15).ty, hks, fun L H16 k16 n16 e16 => hR (.ref L) _ H16 k16 trivial (.lst ?_ e16 (.cons (.str _) (.cons .non .nil))) rfl⟩⟩⟩
            exact fun z => al D1 (by simp) (by rw [← List.mem_singleton.mp z]; exact n16)
          have lds := len rfl
          obtain ⟨c1, c2, rfl⟩ : ∃ c1 c2, ds = [c1, c2] := by
            match ds, lds with
            | [c1, c2], _ => exact ⟨c1, c2, rfl⟩
          obtain rfl := all c1 (by simp)
          obtain rfl := all c2 (by simp)
          refine rep2 (yd := .none) (fun _ => .non) fun S H16 k16 t16 => ?_
          have can : PyData.canLay0 (.list [.list [.str "NoText", .none], .list [.str "NoText", .none]]) = true := by decide +kernel
          have shp : SeqAt.shaped (.list [.list [.str "NoText", .none], .list [.str "NoText", .none]]) = true := shaped_by (k := 2) can (by decide)
          refine ⟨_, _, tr_dp _ _ (t15.up k16) can, tr_dp _ _ t16 can, shp, shp, _, rfl, ?_⟩
          rw [SeqAt.eqv_refl _ can]
          refine iteF (st_next ?_)
          dsimp only
          have kk := k15.trans k16
          refine st_ifs (st_test (st_op (Txts.st_cb (st_cons ⟨x, rfl, st_nil ((hx.kx kk).repr ⟨_, rfl, rfl, _, rfl, ?_⟩)⟩))))
          rw [decide_eq_true rfl]
          exact iteF (hNm _ _ (k14.trans kk) ⟨_, _, _, _, _, rfl⟩)
      · subst e
        dsimp only
        have A14 := A13.kx k14
        have tv14 : Tr [p] H14 (.ref ad) (dayD D0) := (A10.tr tv10 k11).up (k12.trans (k13.trans k14))
        have al14 := A14.al
        refine st_set ?_
        refine lit_use (lit_lst al14 (lit_cons (lit_var rfl (.str (textD D0))) (lit_cons lit_non (lit_cons lit_bl (lit_cons lit_int (lit_cons (lit_lst al14 lit_nil (by simp)) (lit_cons (lit_tup al14 lit_nil (by simp)) (lit_cons (lit_dict al14) (lit_cons (lit_listT al14 rfl tv14) (lit_cons (lit_lst al14 (lit_cons (lit_var rfl tv14) lit_nil) (by simp)) (lit_cons (lit_tup al14 (lit_cons (lit_var rfl tv14) lit_nil) (by simp)) lit_nil)))))))))) (by simp)) fun vO H15 k15 tO => ?_
        obtain ⟨aO, xO, rfl, eO, txO⟩ := tO.listV
        have A15 := A14.kx k15
        have tv15 := tv14.up k15
        refine st_lit [some (.ref a), some (.int i), some (.ref p), some (.ref ad), some (.str (textD D0)), some (.ref LT), z6, z7, some (.ref aO), z9, z10] rfl ?_
        refine st_set (st_op ⟨.ref aO, rfl, lc_use ⟨_, rfl, by decide, by decide, ?_⟩⟩)
        refine lc_pu (itr_at (8 : Int).toNat) (by decide) 50 (fun d => Sm 21 1001000000 801 5 d) true A15 (fun D1 j Hs hD1 hj ks As R R0 hR hR0 => ?_) fun F fs H16 k16 A16 t16 _ x16 g16 => ?_
        · have hj : j < 8 := hj
          refine ⟨rfl, st_yes ⟨.ref p, rfl, .ref ad, rfl, 4, by decide, p, _, _, .ref ad, dayD D0, 20, 1000000, 400, rfl, by omega, As, ?_, dsm, by decide, by decide, fun b3 e3 H' k' A' t' g' => hR _ _ H' k' (A'.mono (by omega)) t' g'⟩⟩
          exact Tr.kx ks (fun b hb => by rw [List.mem_singleton.mp hb]; exact List.mem_cons_of_mem _ A15.mem) _ _ (avoid hD1 _ _ tv15)
        obtain ⟨xF, eF, txF⟩ := t16.items
        obtain ⟨x8, e8', tx8⟩ := (A15.tr tO k16).items
        have lF := txF.length
        have l8 := tx8.length
        have x16 := x16 rfl
        simp only [List.length_cons, List.length_nil] at l8
        have x16 : fs.length = 8 := x16
        refine ⟨aO, F, x8, xF, rfl, rfl, e8', eF, by unfold sizeLine; omega, fun LO n17 => ?_⟩
        have tall := tx8.append txF
        have k17 : Kx [] H16 (upd H16 LO (.lst (x8 ++ xF))) := Kx.new n17
        have e17 : upd H16 LO (.lst (x8 ++ xF)) LO = some (.lst (x8 ++ xF)) := upd_same
        generalize upd H16 LO (.lst (x8 ++ xF)) = H17 at k17 e17 ⊢
        have A17 := A16.kx k17
        have tall := (tall.up k17).nilB
        have tv17 := (A15.tr tv15 k16).up k17
        dsimp only
        refine st_lit [some (.ref a), some (.int i), some (.ref p), some (.ref ad), some (.str (textD D0)), some (.ref LT), z6, z7, some (.ref LO), z9, z10] rfl ?_
        have okAll : ∀ d ∈ ([.str (textD D0), .none, .bool true, .int 0, .list [], .tuple [], .dict [], .list [.int D0.hours, .list (D0.stores.map .int), .list (D0.sights.map sightD), .list (D0.asks.map optD), .list (D0.blocks.map blkD)], .list [dayD D0], .tuple [dayD D0]] : List PyData) ++ fs, ShowOk d ∧ sz d ≤ 100000 := fun d hd => by
          have one : Sm 20 1000000 401 5 (.list [dayD D0]) ∧ Sm 20 1000000 401 5 (.tuple [dayD D0]) := by
            have h1 := dsm.sz
            have h2 := dsm.dp
            have b : BdAll 20 1000000 [dayD D0] := ⟨dsm.bd, trivial⟩
            refine ⟨⟨⟨by simp, b⟩, ?_, ?_⟩, ⟨⟨by simp, b⟩, ?_, ?_⟩⟩
            · simp only [sz, szAll]; omega
            · simp only [PyData.depth, PyData.depthAll]; omega
            · simp only [sz, szAll]; omega
            · simp only [PyData.depth, PyData.depthAll]; omega
          rcases List.mem_append.mp hd with z | z
          · simp only [List.mem_cons, List.not_mem_nil, or_false] at z
            rcases z with rfl | rfl | rfl | rfl | rfl | rfl | rfl | rfl | rfl | rfl
            · exact ⟨so1, by simp [sz]⟩
            · exact ⟨⟨rfl, Nat.zero_le _, by decide +kernel⟩, by simp [sz]⟩
            · exact ⟨⟨rfl, Nat.zero_le _, by decide +kernel⟩, by simp [sz]⟩
            · exact ⟨oi _ (by decide), by simp [sz]⟩
            · exact ⟨⟨rfl, Nat.le_of_ble_eq_true rfl, by decide +kernel⟩, by simp [sz, szAll]⟩
            · exact ⟨⟨rfl, Nat.le_of_ble_eq_true rfl, by decide +kernel⟩, by simp [sz, szAll]⟩
            · exact ⟨⟨rfl, Nat.le_of_ble_eq_true rfl, by decide +kernel⟩, by simp [sz]⟩
            · exact ⟨oL, Nat.le_trans (show sz (.list _) ≤ 400 from dsm.sz) (by decide)⟩
            · exact ⟨ShowOk.of one.1 (by decide) (by decide) (by decide), Nat.le_trans one.1.sz (by decide)⟩
            · exact ⟨ShowOk.of one.2 (by decide) (by decide) (by decide), Nat.le_trans one.2.sz (by decide)⟩
          · exact ⟨ShowOk.of (g16 d z) (by decide) (by decide) (by decide), Nat.le_trans (g16 d z).sz (by decide)⟩
        generalize ([.str (textD D0), .none, .bool true, .int 0, .list [], .tuple [], .dict [], .list [.int D0.hours, .list (D0.stores.map .int), .list (D0.sights.map sightD), .list (D0.asks.map optD), .list (D0.blocks.map blkD)], .list [dayD D0], .tuple [dayD D0]] : List PyData) ++ fs = es at tall okAll
        generalize x8 ++ xF = xs2 at e17 tall
        refine st_seq (st_for ⟨.ref LO, rfl, LO, rfl, ⟨_, SqL.of e17⟩, ?_⟩)
        refine for_gen (itl_at e17 (by simp)) (B := []) (Iv := fun j σ' H' => ∃ (z6 z7 z9 z10 : Option V), σ' = [some (.ref a), some (.int i), some (.ref p), some (.ref ad), some (.str (textD D0)), some (.ref LT), z6, z7, some (.ref LO), z9, z10])
          ⟨_, _, _, _, rfl⟩ (fun j σ' H19 hj k19 ⟨z6, z7, z9, z10, e⟩ Nm hNm => ?_) fun σ' H19 k19 ⟨z6, z7, z9, z10, e⟩ => ?_
        · subst e
          rw [getD_at _ _ hj]
          obtain ⟨d, hd, hx0⟩ := tall.get (List.getElem?_eq_getElem hj)
          obtain ⟨od, hz1⟩ := okAll d (List.mem_of_getElem? hd)
          generalize xs2[j] = x at hx0
          have hxt := hx0.up k19
          have hx : ThD H19 x d := ⟨od, .inl hxt⟩
          have A20 := A17.kx k19
          refine st_name ?_
          dsimp only
          refine st_lit [some (.ref a), some (.int i), some (.ref p), some (.ref ad), some (.str (textD D0)), some (.ref LT), some x, z7, some (.ref LO), z9, z10] rfl ?_
          refine st_set (Txts.st_cb (st_cons ⟨x, rfl, st_nil (hx.repr ?_)⟩))
          refine st_lit [some (.ref a), some (.int i), some (.ref p), some (.ref ad), some (.str (textD D0)), some (.ref LT), some x, some (.str d.shown), some (.ref LO), z9, z10] rfl ?_
          refine st_seq (st_ifs (st_andT (st_not (st_b (st_call (st_cons ⟨x, rfl, st_nil ⟨x, d, rfl, hxt, hz1, fun H20 k20 => ⟨_, rfl, ?_⟩⟩⟩))))))
          have k20' := k20
          have hx1 := hxt.up k20
          have hx2 := hx.kx k20
          cases hs : isDayB d with
          | true =>
            refine iteF (iteF (st_next ?_))
            dsimp only
            refine st_ifs (st_test (st_op (Txts.st_cb (st_cons ⟨x, rfl, st_nil (hx2.repr ⟨_, rfl, rfl, _, rfl, ?_⟩)⟩))))
            rw [decide_eq_true rfl]
            exact iteF (hNm _ _ (k19.trans k20) ⟨_, _, _, _, rfl⟩)
          | false =>
            refine iteT (st_test (st_op (lc_use ⟨_, rfl, by decide, by decide, ?_⟩)))
            refine lc_tr (itr_at (2 : Int).toNat) (by decide) (B := []) (C := []) (Iv := fun _ _ => True) (fun d => d = .list [.str "NoDay", .int 0]) true (fun _ z => nomatch z) (fun _ z => nomatch z) (fun _ _ _ _ _ _ => trivial) (fun _ _ _ _ z => nomatch z) trivial
              (fun D1 m H21 hD1 al hm k21 _ R R0 hR hR0 => ?_) fun D1 ds H21 k21 _ t21 _ len all => ?_
            · refine ⟨rfl, st_yes ⟨x, rfl, x, false, rfl, (A20.tb.kx k20).kx k21, .inr ⟨rfl, d, hx1.up k21, hz1, hs, fun L H22 k22 n22 e22 => hR (.ref L) _ H22 k22 trivial (.lst ?_ e22 (.cons (.str _) (.cons (.int _) .nil))) rfl⟩⟩⟩
              exact fun z => al D1 (by simp) (by rw [← List.mem_singleton.mp z]; exact n22)
            have lds := len rfl
            obtain ⟨c1, c2, rfl⟩ : ∃ c1 c2, ds = [c1, c2] := by
              match ds, lds with
              | [c1, c2], _ => exact ⟨c1, c2, rfl⟩
            obtain rfl := all c1 (by simp)
            obtain rfl := all c2 (by simp)
            refine rep2 (yd := .int 0) (fun _ => .int _) fun S H22 k22 t22 => ?_
            have can : PyData.canLay0 (.list [.list [.str "NoDay", .int 0], .list [.str "NoDay", .int 0]]) = true := by decide +kernel
            have shp : SeqAt.shaped (.list [.list [.str "NoDay", .int 0], .list [.str "NoDay", .int 0]]) = true := shaped_by (k := 2) can (by decide)
            refine ⟨_, _, tr_dp _ _ (t21.up k22) can, tr_dp _ _ t22 can, shp, shp, _, rfl, ?_⟩
            rw [SeqAt.eqv_refl _ can]
            refine iteF (st_next ?_)
            dsimp only
            have kk := k21.trans k22
            refine st_ifs (st_test (st_op (Txts.st_cb (st_cons ⟨x, rfl, st_nil ((hx2.kx kk).repr ⟨_, rfl, rfl, _, rfl, ?_⟩)⟩))))
            rw [decide_eq_true rfl]
            exact iteF (hNm _ _ ((k19.trans k20').trans kk) ⟨_, _, _, _, rfl⟩)
        · subst e
          dsimp only
          have T19 := A17.tb.kx k19
          have tv19 := (tv17.up k19).nil
          refine st_ifs (st_test (st_op (Txts.st_cb (st_cons (st_call (st_cons ⟨_, rfl, st_nil (.inr ⟨textD D0, rfl, by omega, fun _ => by rw [text_split hD0, data_back hD0]; exact hz, T19, fun _ T as H20 k20 s20 n20 => ?_, fun i e => absurd e (by rw [stop_text hD0]; simp)⟩)⟩))))))
          rw [text_split hD0, data_back hD0] at s20
          refine ⟨.ref T, dayD D0, rfl, s20.tr, oD.sh, oD.dp, oD.ln, Txts.st_cb (st_cons ⟨.ref ad, rfl, st_nil ⟨.ref ad, dayD D0, rfl, tv19.up k20, oD.sh, oD.dp, oD.ln, ⟨rfl, _, rfl, ?_⟩⟩⟩)⟩
          rw [decide_eq_true rfl]
          refine iteF (hNn _ _ ?_ ⟨_, _, _, _, _, _, _, _, _, _, rfl⟩)
          refine k1.trans (kx_drop k2 hp (k3.trans (k4.of.trans (k410.of.trans (k1013.trans (k14.of.trans (k15.of.trans (k16.trans (k17.of.trans (k19.of.trans k20.of))))))))))
    · subst e
      dsimp only
      refine st_ret (Txts.st_andv (st_op (made_one Z fun H2 k2 => st_c ⟨rfl, _, rfl, ?_⟩)))
      rw [decide_eq_true rfl]
      refine iteT (Txts.st_andv (st_op (made_zero Z fun H3 k3 => st_c ⟨rfl, _, rfl, ?_⟩)))
      rw [decide_eq_true rfl]
      refine iteT (st_op (made_one Z fun H4 k4 => st_c ⟨rfl, ?_⟩))
      rw [decide_eq_true rfl]
      exact q H4
end
end Law

set_option Elab.async false
set_option linter.all false
set_option maxRecDepth 100000
set_option maxHeartbeats 0
namespace Law
open PySem PySem.Spec PyProof.Rows L2 GxR GX Tree Kit EndG Obj Txts Raised
/-! ### the head -/
def dd_is_number : He.DefD := ⟨("is_number", none), "is_number", "is_number", defArgs s_is_number, defBody s_is_number, defScope s_is_number, [], []⟩
def dd_is_whole : He.DefD := ⟨("is_whole", none), "is_whole", "is_whole", defArgs s_is_whole, defBody s_is_whole, defScope s_is_whole, [], []⟩
def dd_is_list : He.DefD := ⟨("is_list", none), "is_list", "is_list", defArgs s_is_list, defBody s_is_list, defScope s_is_list, [], []⟩
def dd_is_tuple : He.DefD := ⟨("is_tuple", none), "is_tuple", "is_tuple", defArgs s_is_tuple, defBody s_is_tuple, defScope s_is_tuple, [], []⟩
def dd_rises : He.DefD := ⟨("rises", none), "rises", "rises", defArgs s_rises, defBody s_rises, defScope s_rises, [], []⟩
def dd_is_day : He.DefD := ⟨("is_day", none), "is_day", "is_day", defArgs s_is_day, defBody s_is_day, defScope s_is_day, [], []⟩
def dd__are_stores : He.DefD := ⟨("_are_stores", none), "_are_stores", "_are_stores", defArgs s__are_stores, defBody s__are_stores, defScope s__are_stores, [], []⟩
def dd__are_sights : He.DefD := ⟨("_are_sights", none), "_are_sights", "_are_sights", defArgs s__are_sights, defBody s__are_sights, defScope s__are_sights, [], []⟩
def dd__is_sight : He.DefD := ⟨("_is_sight", none), "_is_sight", "_is_sight", defArgs s__is_sight, defBody s__is_sight, defScope s__is_sight, [], []⟩
def dd__are_heard : He.DefD := ⟨("_are_heard", none), "_are_heard", "_are_heard", defArgs s__are_heard, defBody s__are_heard, defScope s__are_heard, [], []⟩
def dd__are_asks : He.DefD := ⟨("_are_asks", none), "_are_asks", "_are_asks", defArgs s__are_asks, defBody s__are_asks, defScope s__are_asks, [], []⟩
def dd__are_blocks : He.DefD := ⟨("_are_blocks", none), "_are_blocks", "_are_blocks", defArgs s__are_blocks, defBody s__are_blocks, defScope s__are_blocks, [], []⟩
def dd_is_block : He.DefD := ⟨("is_block", none), "is_block", "is_block", defArgs s_is_block, defBody s_is_block, defScope s_is_block, [], []⟩
def dd_need_day : He.DefD := ⟨("need_day", none), "need_day", "need_day", defArgs s_need_day, defBody s_need_day, defScope s_need_day, [], []⟩
def dd_show_day : He.DefD := ⟨("show_day", none), "show_day", "show_day", defArgs s_show_day, defBody s_show_day, defScope s_show_day, [], []⟩
def dd__dish_row : He.DefD := ⟨("_dish_row", none), "_dish_row", "_dish_row", defArgs s__dish_row, defBody s__dish_row, defScope s__dish_row, [], []⟩
def dd__heard_word : He.DefD := ⟨("_heard_word", none), "_heard_word", "_heard_word", defArgs s__heard_word, defBody s__heard_word, defScope s__heard_word, [], []⟩
def dd__block_row : He.DefD := ⟨("_block_row", none), "_block_row", "_block_row", defArgs s__block_row, defBody s__block_row, defScope s__block_row, [], []⟩
def dd_read_day : He.DefD := ⟨("read_day", none), "read_day", "read_day", defArgs s_read_day, defBody s_read_day, defScope s_read_day, [], []⟩
def dd_is_figures : He.DefD := ⟨("is_figures", none), "is_figures", "is_figures", defArgs s_is_figures, defBody s_is_figures, defScope s_is_figures, [], []⟩
def dd__has_form : He.DefD := ⟨("_has_form", none), "_has_form", "_has_form", defArgs s__has_form, defBody s__has_form, defScope s__has_form, [], []⟩
def dd__has_form_of_dish : He.DefD := ⟨("_has_form_of_dish", none), "_has_form_of_dish", "_has_form_of_dish", defArgs s__has_form_of_dish, defBody s__has_form_of_dish, defScope s__has_form_of_dish, [], []⟩
def dd__is_heard_word : He.DefD := ⟨("_is_heard_word", none), "_is_heard_word", "_is_heard_word", defArgs s__is_heard_word, defBody s__is_heard_word, defScope s__is_heard_word, [], []⟩
def dd__has_form_of_block : He.DefD := ⟨("_has_form_of_block", none), "_has_form_of_block", "_has_form_of_block", defArgs s__has_form_of_block, defBody s__has_form_of_block, defScope s__has_form_of_block, [], []⟩
def dd__is_at_its_place : He.DefD := ⟨("_is_at_its_place", none), "_is_at_its_place", "_is_at_its_place", defArgs s__is_at_its_place, defBody s__is_at_its_place, defScope s__is_at_its_place, [], []⟩
def dd__day_of : He.DefD := ⟨("_day_of", none), "_day_of", "_day_of", defArgs s__day_of, defBody s__day_of, defScope s__day_of, [], []⟩
def dd__heard_of : He.DefD := ⟨("_heard_of", none), "_heard_of", "_heard_of", defArgs s__heard_of, defBody s__heard_of, defScope s__heard_of, [], []⟩
def dd__number_of : He.DefD := ⟨("_number_of", none), "_number_of", "_number_of", defArgs s__number_of, defBody s__number_of, defScope s__number_of, [], []⟩
def dd__block_of : He.DefD := ⟨("_block_of", none), "_block_of", "_block_of", defArgs s__block_of, defBody s__block_of, defScope s__block_of, [], []⟩
def dd__law_purse : He.DefD := ⟨("_law_purse", none), "_law_purse", "_law_purse", defArgs s__law_purse, defBody s__law_purse, defScope s__law_purse, [], []⟩
def dd__law_coin : He.DefD := ⟨("_law_coin", none), "_law_coin", "_law_coin", defArgs s__law_coin, defBody s__law_coin, defScope s__law_coin, [], []⟩
def dd__law_sight : He.DefD := ⟨("_law_sight", none), "_law_sight", "_law_sight", defArgs s__law_sight, defBody s__law_sight, defScope s__law_sight, [], []⟩
def dd__law_block : He.DefD := ⟨("_law_block", none), "_law_block", "_law_block", defArgs s__law_block, defBody s__law_block, defScope s__law_block, [], []⟩
def dd__law_day : He.DefD := ⟨("_law_day", none), "_law_day", "_law_day", defArgs s__law_day, defBody s__law_day, defScope s__law_day, [], []⟩
def dd__law_other : He.DefD := ⟨("_law_other", none), "_law_other", "_law_other", defArgs s__law_other, defBody s__law_other, defScope s__law_other, [], []⟩
def dd__law_bent_row : He.DefD := ⟨("_law_bent_row", none), "_law_bent_row", "_law_bent_row", defArgs s__law_bent_row, defBody s__law_bent_row, defScope s__law_bent_row, [], []⟩
def dd__law_bent : He.DefD := ⟨("_law_bent", none), "_law_bent", "_law_bent", defArgs s__law_bent, defBody s__law_bent, defScope s__law_bent, [], []⟩
def dd__law_whole : He.DefD := ⟨("_law_whole", none), "_law_whole", "_law_whole", defArgs s__law_whole, defBody s__law_whole, defScope s__law_whole, [], []⟩
def dd__law_each : He.DefD := ⟨("_law_each", none), "_law_each", "_law_each", defArgs s__law_each, defBody s__law_each, defScope s__law_each, [], []⟩
def dd__law_is_sight : He.DefD := ⟨("_law_is_sight", none), "_law_is_sight", "_law_is_sight", defArgs s__law_is_sight, defBody s__law_is_sight, defScope s__law_is_sight, [], []⟩
def dd__law_is_block : He.DefD := ⟨("_law_is_block", none), "_law_is_block", "_law_is_block", defArgs s__law_is_block, defBody s__law_is_block, defScope s__law_is_block, [], []⟩
def dd__law_is_day : He.DefD := ⟨("_law_is_day", none), "_law_is_day", "_law_is_day", defArgs s__law_is_day, defBody s__law_is_day, defScope s__law_is_day, [], []⟩
def dd__law_kinds : He.DefD := ⟨("_law_kinds", none), "_law_kinds", "_law_kinds", defArgs s__law_kinds, defBody s__law_kinds, defScope s__law_kinds, [], []⟩
def dd__law_word : He.DefD := ⟨("_law_word", none), "_law_word", "_law_word", defArgs s__law_word, defBody s__law_word, defScope s__law_word, [], []⟩
def dd_law : He.DefD := ⟨("law", none), "law", "law", defArgs s_law, defBody s_law, defScope s_law, [], []⟩
def dd_NoText___init__ : He.DefD := ⟨("NoText", some "__init__"), "__init__", "NoText.__init__", defArgs s_NoText___init__, defBody s_NoText___init__, defScope s_NoText___init__, [.non], []⟩
def fns : List He.DefD := [dd_is_number, dd_is_whole, dd_is_list, dd_is_tuple, dd_rises, dd_is_day, dd__are_stores, dd__are_sights, dd__is_sight, dd__are_heard, dd__are_asks, dd__are_blocks, dd_is_block, dd_need_day, dd_show_day, dd__dish_row, dd__heard_word, dd__block_row, dd_read_day, dd_is_figures, dd__has_form, dd__has_form_of_dish, dd__is_heard_word, dd__has_form_of_block, dd__is_at_its_place, dd__day_of, dd__heard_of, dd__number_of, dd__block_of, dd__law_purse, dd__law_coin, dd__law_sight, dd__law_block, dd__law_day, dd__law_other, dd__law_bent_row, dd__law_bent, dd__law_whole, dd__law_each, dd__law_is_sight, dd__law_is_block, dd__law_is_day, dd__law_kinds, dd__law_word, dd_law, dd_NoText___init__]
def fas : List He.Fa := [.glo "is_number", .glo "is_whole", .glo "is_list", .glo "is_tuple", .glo "rises", .glo "is_day", .glo "_are_stores", .glo "_are_sights", .glo "_is_sight", .glo "_are_heard", .glo "_are_asks", .glo "_are_blocks", .glo "is_block", .glo "need_day", .glo "show_day", .glo "_dish_row", .glo "_heard_word", .glo "_block_row", .glo "read_day", .glo "is_figures", .glo "_has_form", .glo "_has_form_of_dish", .glo "_is_heard_word", .glo "_has_form_of_block", .glo "_is_at_its_place", .glo "_day_of", .glo "_heard_of", .glo "_number_of", .glo "_block_of", .glo "_law_purse", .glo "_law_coin", .glo "_law_sight", .glo "_law_block", .glo "_law_day", .glo "_law_other", .glo "_law_bent_row", .glo "_law_bent", .glo "_law_whole", .glo "_law_each", .glo "_law_is_sight", .glo "_law_is_block", .glo "_law_is_day", .glo "_law_kinds", .glo "_law_word", .glo "law", .int "MOST_HOURS" 10, .int "MOST_CRAFT" 4, .int "MOST_STORE" 5, .int "MOST_DISHES" 3, .int "MOST_ASK" 999, .int "MOST_BLOCKS" 14, .int "MOST_HOUSE" 5, .int "MOST_WORTH" 9999, .free "len", .free "range", .free "isinstance", .free "int", .free "bool", .free "str", .free "list", .free "tuple", .free "set", .free "dict", .free "sorted", .free "repr", .free "max", .free "min", .free "sum", .free "all", .free "any", .free "ValueError", .exc "NoDay", .exm "NoDay" "NoText" false, .exm "NoDay" "SkyError" true, .noat "NoText" "at", .exm "NoText" "NoText" true, .exm "NoText" "SkyError" true, .glo "DayOver", .glo "NoBlock", .glo "NoDay", .glo "NoHour", .glo "NoLost", .glo "NoName", .glo "NoNumbers", .glo "NoPlace", .glo "NoPlan", .glo "NoRests", .glo "NoRow", .glo "NoText", .glo "NoWorth", .glo "SkyError", .glo "TooMany", .glo "KINDS"]
def tfs : List He.Defn := [("rises", none), ("_are_stores", none), ("_are_sights", none), ("_is_sight", none), ("_are_heard", none), ("_are_asks", none), ("_are_blocks", none), ("is_figures", none), ("_has_form_of_dish", none), ("_is_heard_word", none), ("_has_form_of_block", none)]
def looseN : List Str := (["SkyError", "NoDay", "NoPlan", "NoNumbers", "NoRests", "NoLost", "NoBlock", "NoWorth", "NoHour", "TooMany", "DayOver", "NoName", "NoPlace", "NoRow", "NoText", "MOST_HOURS", "MOST_CRAFT", "MOST_STORE", "MOST_DISHES", "MOST_ASK", "MOST_BLOCKS", "MOST_HOUSE", "MOST_WORTH", "is_number", "is_whole", "is_list", "is_tuple", "rises", "is_day", "_are_stores"] : List Str) ++ (["_are_sights", "_is_sight", "_are_heard", "_are_asks", "_are_blocks", "is_block", "need_day", "KINDS", "show_day", "_dish_row", "_heard_word", "_block_row", "read_day", "is_figures", "_has_form", "_has_form_of_dish", "_is_heard_word", "_has_form_of_block", "_is_at_its_place", "_day_of", "_heard_of", "_number_of", "_block_of", "_law_purse", "_law_coin", "_law_sight", "_law_block", "_law_day", "_law_other", "_law_bent_row"] : List Str) ++ (["_law_bent", "_law_whole", "_law_each", "_law_is_sight", "_law_is_block", "_law_is_day", "_law_kinds", "_law_word"] : List Str)
abbrev R : PySem.W.OpenRow := PySem.W.OpenLaw.row PySem.Challenge.rw_skyprices_k19_no_texts_and_no_days
def lawAt : Nat := 72
/-- sys.modules is a dict -/
def smB (g : Addr → Option Obj) : Bool := match g sysModules with
  | some o => decide (o.cls = .type "dict")
  | none => false
theorem smB_ok {h : Heap} (e : smB h.get? = true) : ∃ o, h.get? sysModules = some o ∧ o.cls = .type "dict" := by
  unfold smB at e
  cases q : h.get? sysModules with
  | none => rw [q] at e; cases e
  | some o => rw [q] at e; exact ⟨o, rfl, of_decide_eq_true e⟩
abbrev exT : PySem.W.Frag → Bool := fun K => (Caught.excIsB K (He.ga K "NoDay") && (decide (PySem.W.kitOne K (.ref (He.ga K "NoDay")) (.ref (He.ga K "NoDay")) = some true) && (decide (PySem.W.kitOne K (.ref (He.ga K "NoDay")) (.ref (He.ga K "NoPlan")) = some false) && (decide (PySem.W.kitOne K (.ref (He.ga K "NoDay")) (.ref (He.ga K "NoNumbers")) = some false) && (decide (PySem.W.kitOne K (.ref (He.ga K "NoDay")) (.ref (He.ga K "NoRests")) = some false) && (decide (PySem.W.kitOne K (.ref (He.ga K "NoDay")) (.ref (He.ga K "NoLost")) = some false) && (decide (PySem.W.kitOne K (.ref (He.ga K "NoDay")) (.ref (He.ga K "NoBlock")) = some false) && (decide (PySem.W.kitOne K (.ref (He.ga K "NoDay")) (.ref (He.ga K "NoWorth")) = some false) && (decide (PySem.W.kitOne K (.ref (He.ga K "NoDay")) (.ref (He.ga K "NoHour")) = some false) && (decide (PySem.W.kitOne K (.ref (He.ga K "NoDay")) (.ref (He.ga K "TooMany")) = some false) && (decide (PySem.W.kitOne K (.ref (He.ga K "NoDay")) (.ref (He.ga K "DayOver")) = some false) && (decide (PySem.W.kitOne K (.ref (He.ga K "NoDay")) (.ref (He.ga K "NoName")) = some false) && (decide (PySem.W.kitOne K (.ref (He.ga K "NoDay")) (.ref (He.ga K "NoPlace")) = some false) && (decide (PySem.W.kitOne K (.ref (He.ga K "NoDay")) (.ref (He.ga K "NoRow")) = some false) && (decide (PySem.W.kitOne K (.ref (He.ga K "NoDay")) (.ref (He.ga K "NoText")) = some false) && (decide (PySem.W.kitOne K (.ref (He.ga K "NoDay")) (.type "ValueError") = some true) && (Raised.oxB K (He.ga K "NoText") (He.ma K (He.ga K "NoText") "__init__") && (Caught.excIsB K (He.ga K "NoText") && (decide (PySem.W.kitOne K (.ref (He.ga K "NoText")) (.ref (He.ga K "NoDay")) = some false) && (decide (PySem.W.kitOne K (.ref (He.ga K "NoText")) (.ref (He.ga K "NoPlan")) = some false) && (decide (PySem.W.kitOne K (.ref (He.ga K "NoText")) (.ref (He.ga K "NoNumbers")) = some false) && (decide (PySem.W.kitOne K (.ref (He.ga K "NoText")) (.ref (He.ga K "NoRests")) = some false) && (decide (PySem.W.kitOne K (.ref (He.ga K "NoText")) (.ref (He.ga K "NoLost")) = some false) && (decide (PySem.W.kitOne K (.ref (He.ga K "NoText")) (.ref (He.ga K "NoBlock")) = some false) && (decide (PySem.W.kitOne K (.ref (He.ga K "NoText")) (.ref (He.ga K "NoWorth")) = some false) && (decide (PySem.W.kitOne K (.ref (He.ga K "NoText")) (.ref (He.ga K "NoHour")) = some false) && (decide (PySem.W.kitOne K (.ref (He.ga K "NoText")) (.ref (He.ga K "TooMany")) = some false) && (decide (PySem.W.kitOne K (.ref (He.ga K "NoText")) (.ref (He.ga K "DayOver")) = some false) && (decide (PySem.W.kitOne K (.ref (He.ga K "NoText")) (.ref (He.ga K "NoName")) = some false) && (decide (PySem.W.kitOne K (.ref (He.ga K "NoText")) (.ref (He.ga K "NoPlace")) = some false) && (decide (PySem.W.kitOne K (.ref (He.ga K "NoText")) (.ref (He.ga K "NoRow")) = some false) && (decide (PySem.W.kitOne K (.ref (He.ga K "NoText")) (.ref (He.ga K "NoText")) = some true) && (decide (PySem.W.kitOne K (.ref (He.ga K "NoText")) (.type "ValueError") = some true) && (He.tupB K "KINDS" [.str "hours", .str "store", .str "dish", .str "block"] && Txts.tupDB K (He.ga K "KINDS")))))))))))))))))))))))))))))))))))
def hookS (n : Nat) (fa : List He.Fa) (fn : List He.DefD) (tf : List He.Defn) : PySem.W.Hook where
  α := He.AlX × Bool
  obs := fun s => (He.obsX n fa fn [] tf exT s.heap.get?, smB s.heap.get?)
  val := fun w => (He.valX fn [] w, true)
  says := fun w h => (∃ K : PySem.W.Frag, K.In h ∧ He.SaysX fa fn [] tf exT w h K) ∧ ∃ o, h.get? sysModules = some o ∧ o.cls = .type "dict"
  of := fun _ _ e => ⟨⟨_, He.frT_in, He.saysX_of (congrArg (fun z : He.AlX × Bool => z.1) e)⟩, smB_ok (congrArg (fun z : He.AlX × Bool => z.2) e)⟩
  keeps := fun _ _ _ ⟨⟨K, hK, c⟩, o, e, c2⟩ k => ⟨⟨K, PySem.W.Frag.In.keeps hK k, ⟨c.t, c.more, c.hd, c.out, fun p hp => k _ _ (c.empty p hp)⟩⟩, o, k _ _ e, c2⟩
abbrev hk : PySem.W.Hook := hookS 6 fas fns tfs
def ob (s : PySem.W.SharedT) : He.AlX × Bool := (He.obsX 6 fas fns [] tfs exT (HandSHeadRun.getT s), smB (HandSHeadRun.getT s))
theorem ob_eq (s : PySem.W.SharedT) : ob s = hk.obs s.abs := by
  have e : HandSHeadRun.getT s = s.abs.heap.get? := funext (HandSHeadRun.getT_eq s)
  unfold ob
  rw [e]
  rfl
theorem run (w : World) : HandSHeadRun.RunEq R (PySem.W.view R.prog [lawAt]) hk ob 9000 looseN w := by
  intro os
  kernel_rfl
def fdOf (K : PySem.W.Frag) (d0 : FuncData) (x : String) : FuncData := match K.lookup (He.ga K x) with
  | some ⟨_, _, .func fd, _⟩ => fd
  | _ => d0
theorem fdOf_eq {K : PySem.W.Frag} {d0 : FuncData} {x : String} {q : Str} {pa : Arguments} {b : List Stmt} {sc : Scope} {fd : FuncData} (F : FunD K x q pa b sc [] [] (He.ga K x) fd) : fdOf K d0 x = fd := by
  obtain ⟨oc, od, dV, kV, doc, pm, an, cdv, ct, osl, rfl, lk, hcd, _, _⟩ := F.ex
  unfold fdOf
  rw [lk]
theorem code_at {K : PySem.W.Frag} {x : String} {q : Str} {pa : Arguments} {b : List Stmt} {sc : Scope} {fd : FuncData} (F : FunD K x q pa b sc [] [] (He.ga K x) fd) : fd.code = .ref (He.codeOf K (x, none)) := by
  obtain ⟨oc, od, dV, kV, doc, pm, an, cdv, ct, osl, rfl, lk, hcd, _, _⟩ := F.ex
  obtain ⟨c, rfl⟩ := He.codeIn_ref hcd
  rw [He.codeOf_eq (p := (x, none)) lk rfl]
theorem facts {w : World} {K : PySem.W.Frag} {h : Heap} {mg : Str → Option Value} (X : K.In h) (G : h.Ns mainGlobals mg) (c : He.SaysX fas fns [] tfs exT w h K) (d0 : FuncData) (base : Heap) (hB : ∀ p ∈ tfs.map (He.cT K), LamX.TabB base mg p.1 p.2) :
    Facts K mg base (fun x => He.ga K x) (fdOf K d0) (fun x => He.codeOf K (x, none)) (fun x => He.tabOf K (He.codeOf K (x, none))) := by
  have d := c.t.d
  have mo := c.more
  simp only [exT, Bool.and_eq_true] at mo
  obtain ⟨f_is_number, F_is_number⟩ := d.def_ 0 (d := dd_is_number) rfl
  obtain ⟨f_is_whole, F_is_whole⟩ := d.def_ 1 (d := dd_is_whole) rfl
  obtain ⟨f_is_list, F_is_list⟩ := d.def_ 2 (d := dd_is_list) rfl
  obtain ⟨f_is_tuple, F_is_tuple⟩ := d.def_ 3 (d := dd_is_tuple) rfl
  obtain ⟨f_rises, F_rises⟩ := d.def_ 4 (d := dd_rises) rfl
  obtain ⟨f_is_day, F_is_day⟩ := d.def_ 5 (d := dd_is_day) rfl
  obtain ⟨f__are_stores, F__are_stores⟩ := d.def_ 6 (d := dd__are_stores) rfl
  obtain ⟨f__are_sights, F__are_sights⟩ := d.def_ 7 (d := dd__are_sights) rfl
  obtain ⟨f__is_sight, F__is_sight⟩ := d.def_ 8 (d := dd__is_sight) rfl
  obtain ⟨f__are_heard, F__are_heard⟩ := d.def_ 9 (d := dd__are_heard) rfl
  obtain ⟨f__are_asks, F__are_asks⟩ := d.def_ 10 (d := dd__are_asks) rfl
  obtain ⟨f__are_blocks, F__are_blocks⟩ := d.def_ 11 (d := dd__are_blocks) rfl
  obtain ⟨f_is_block, F_is_block⟩ := d.def_ 12 (d := dd_is_block) rfl
  obtain ⟨f_need_day, F_need_day⟩ := d.def_ 13 (d := dd_need_day) rfl
  obtain ⟨f_show_day, F_show_day⟩ := d.def_ 14 (d := dd_show_day) rfl
  obtain ⟨f__dish_row, F__dish_row⟩ := d.def_ 15 (d := dd__dish_row) rfl
  obtain ⟨f__heard_word, F__heard_word⟩ := d.def_ 16 (d := dd__heard_word) rfl
  obtain ⟨f__block_row, F__block_row⟩ := d.def_ 17 (d := dd__block_row) rfl
  obtain ⟨f_read_day, F_read_day⟩ := d.def_ 18 (d := dd_read_day) rfl
  obtain ⟨f_is_figures, F_is_figures⟩ := d.def_ 19 (d := dd_is_figures) rfl
  obtain ⟨f__has_form, F__has_form⟩ := d.def_ 20 (d := dd__has_form) rfl
  obtain ⟨f__has_form_of_dish, F__has_form_of_dish⟩ := d.def_ 21 (d := dd__has_form_of_dish) rfl
  obtain ⟨f__is_heard_word, F__is_heard_word⟩ := d.def_ 22 (d := dd__is_heard_word) rfl
  obtain ⟨f__has_form_of_block, F__has_form_of_block⟩ := d.def_ 23 (d := dd__has_form_of_block) rfl
  obtain ⟨f__is_at_its_place, F__is_at_its_place⟩ := d.def_ 24 (d := dd__is_at_its_place) rfl
  obtain ⟨f__day_of, F__day_of⟩ := d.def_ 25 (d := dd__day_of) rfl
  obtain ⟨f__heard_of, F__heard_of⟩ := d.def_ 26 (d := dd__heard_of) rfl
  obtain ⟨f__number_of, F__number_of⟩ := d.def_ 27 (d := dd__number_of) rfl
  obtain ⟨f__block_of, F__block_of⟩ := d.def_ 28 (d := dd__block_of) rfl
  obtain ⟨f__law_purse, F__law_purse⟩ := d.def_ 29 (d := dd__law_purse) rfl
  obtain ⟨f__law_coin, F__law_coin⟩ := d.def_ 30 (d := dd__law_coin) rfl
  obtain ⟨f__law_sight, F__law_sight⟩ := d.def_ 31 (d := dd__law_sight) rfl
  obtain ⟨f__law_block, F__law_block⟩ := d.def_ 32 (d := dd__law_block) rfl
  obtain ⟨f__law_day, F__law_day⟩ := d.def_ 33 (d := dd__law_day) rfl
  obtain ⟨f__law_other, F__law_other⟩ := d.def_ 34 (d := dd__law_other) rfl
  obtain ⟨f__law_bent_row, F__law_bent_row⟩ := d.def_ 35 (d := dd__law_bent_row) rfl
  obtain ⟨f__law_bent, F__law_bent⟩ := d.def_ 36 (d := dd__law_bent) rfl
  obtain ⟨f__law_whole, F__law_whole⟩ := d.def_ 37 (d := dd__law_whole) rfl
  obtain ⟨f__law_each, F__law_each⟩ := d.def_ 38 (d := dd__law_each) rfl
  obtain ⟨f__law_is_sight, F__law_is_sight⟩ := d.def_ 39 (d := dd__law_is_sight) rfl
  obtain ⟨f__law_is_block, F__law_is_block⟩ := d.def_ 40 (d := dd__law_is_block) rfl
  obtain ⟨f__law_is_day, F__law_is_day⟩ := d.def_ 41 (d := dd__law_is_day) rfl
  obtain ⟨f__law_kinds, F__law_kinds⟩ := d.def_ 42 (d := dd__law_kinds) rfl
  obtain ⟨f__law_word, F__law_word⟩ := d.def_ 43 (d := dd__law_word) rfl
  obtain ⟨f_law, F_law⟩ := d.def_ 44 (d := dd_law) rfl
  refine ⟨?_,
    ?_,
    ?_,
    ?_,
    ?_,
    ?_,
    ?_,
    ?_,
    ?_,
    ?_,
    ?_,
    ?_,
    ?_,
    ?_,
    ?_,
    ?_,
    ?_,
    ?_,
    ?_,
    ?_,
    ?_,
    ?_,
    ?_,
    ?_,
    ?_,
    ?_,
    ?_,
    ?_,
    ?_,
    ?_,
    ?_,
    ?_,
    ?_,
    ?_,
    ?_,
    ?_,
    ?_,
    ?_,
    ?_,
    ?_,
    ?_,
    ?_,
    ?_,
    ?_,
    ?_,
    ?_,
    ?_,
    ?_,
    ?_,
    ?_,
    ?_,
    ?_,
    ?_,
    ?_,
    ?_,
    ?_,
    ?_,
    ?_,
    ?_,
    ?_,
    ?_,
    ?_,
    ?_,
    ?_,
    ?_,
    ?_,
    ?_,
    ?_⟩
  · exact ⟨He.free_ok X G (d.fact 53 (f := .free "len") rfl), He.free_ok X G (d.fact 54 (f := .free "range") rfl), He.free_ok X G (d.fact 55 (f := .free "isinstance") rfl), He.free_ok X G (d.fact 56 (f := .free "int") rfl), He.free_ok X G (d.fact 57 (f := .free "bool") rfl), He.free_ok X G (d.fact 58 (f := .free "str") rfl), He.free_ok X G (d.fact 59 (f := .free "list") rfl), He.free_ok X G (d.fact 60 (f := .free "tuple") rfl), He.free_ok X G (d.fact 61 (f := .free "set") rfl), He.free_ok X G (d.fact 62 (f := .free "dict") rfl), He.free_ok X G (d.fact 63 (f := .free "sorted") rfl), He.free_ok X G (d.fact 64 (f := .free "repr") rfl), He.free_ok X G (d.fact 65 (f := .free "max") rfl), He.free_ok X G (d.fact 66 (f := .free "min") rfl), He.free_ok X G (d.fact 67 (f := .free "sum") rfl), He.free_ok X G (d.fact 68 (f := .free "all") rfl), He.free_ok X G (d.fact 69 (f := .free "any") rfl)⟩
  · exact He.int_ok X G (d.fact 45 (f := .int "MOST_HOURS" 10) rfl)
  · exact He.int_ok X G (d.fact 46 (f := .int "MOST_CRAFT" 4) rfl)
  · exact He.int_ok X G (d.fact 47 (f := .int "MOST_STORE" 5) rfl)
  · exact He.int_ok X G (d.fact 48 (f := .int "MOST_DISHES" 3) rfl)
  · exact He.int_ok X G (d.fact 49 (f := .int "MOST_ASK" 999) rfl)
  · exact He.int_ok X G (d.fact 50 (f := .int "MOST_BLOCKS" 14) rfl)
  · exact He.int_ok X G (d.fact 51 (f := .int "MOST_HOUSE" 5) rfl)
  · exact He.int_ok X G (d.fact 52 (f := .int "MOST_WORTH" 9999) rfl)
  · exact He.glo_ok X G (d.fact 92 (f := .glo "KINDS") rfl)
  · exact Txts.tupDB_ok mo.2.2.2.2.2.2.2.2.2.2.2.2.2.2.2.2.2.2.2.2.2.2.2.2.2.2.2.2.2.2.2.2.2.2
  · exact fun H => He.tupB_ok mo.2.2.2.2.2.2.2.2.2.2.2.2.2.2.2.2.2.2.2.2.2.2.2.2.2.2.2.2.2.2.2.2.2.1 H
  · rw [fdOf_eq F_is_number]
    exact ⟨F_is_number, He.glo_ok X G (d.fact 0 (f := .glo "is_number") rfl), FunD.bindsN F_is_number fun _ _ _ _ _ _ us hl => match us, hl with | [_], _ => rfl⟩
  · rw [fdOf_eq F_is_whole]
    exact ⟨F_is_whole, He.glo_ok X G (d.fact 1 (f := .glo "is_whole") rfl), FunD.bindsN F_is_whole fun _ _ _ _ _ _ us hl => match us, hl with | [_, _, _], _ => rfl⟩
  · rw [fdOf_eq F_is_list]
    exact ⟨F_is_list, He.glo_ok X G (d.fact 2 (f := .glo "is_list") rfl), FunD.bindsN F_is_list fun _ _ _ _ _ _ us hl => match us, hl with | [_, _, _], _ => rfl⟩
  · rw [fdOf_eq F_is_tuple]
    exact ⟨F_is_tuple, He.glo_ok X G (d.fact 3 (f := .glo "is_tuple") rfl), FunD.bindsN F_is_tuple fun _ _ _ _ _ _ us hl => match us, hl with | [_, _], _ => rfl⟩
  · rw [fdOf_eq F_rises]
    exact ⟨F_rises, He.glo_ok X G (d.fact 4 (f := .glo "rises") rfl), FunD.bindsN F_rises fun _ _ _ _ _ _ us hl => match us, hl with | [_], _ => rfl⟩
  · rw [fdOf_eq F_is_day]
    exact ⟨F_is_day, He.glo_ok X G (d.fact 5 (f := .glo "is_day") rfl), FunD.bindsN F_is_day fun _ _ _ _ _ _ us hl => match us, hl with | [_], _ => rfl⟩
  · rw [fdOf_eq F__are_stores]
    exact ⟨F__are_stores, He.glo_ok X G (d.fact 6 (f := .glo "_are_stores") rfl), FunD.bindsN F__are_stores fun _ _ _ _ _ _ us hl => match us, hl with | [_], _ => rfl⟩
  · rw [fdOf_eq F__are_sights]
    exact ⟨F__are_sights, He.glo_ok X G (d.fact 7 (f := .glo "_are_sights") rfl), FunD.bindsN F__are_sights fun _ _ _ _ _ _ us hl => match us, hl with | [_, _, _], _ => rfl⟩
  · rw [fdOf_eq F__is_sight]
    exact ⟨F__is_sight, He.glo_ok X G (d.fact 8 (f := .glo "_is_sight") rfl), FunD.bindsN F__is_sight fun _ _ _ _ _ _ us hl => match us, hl with | [_, _, _], _ => rfl⟩
  · rw [fdOf_eq F__are_heard]
    exact ⟨F__are_heard, He.glo_ok X G (d.fact 9 (f := .glo "_are_heard") rfl), FunD.bindsN F__are_heard fun _ _ _ _ _ _ us hl => match us, hl with | [_, _], _ => rfl⟩
  · rw [fdOf_eq F__are_asks]
    exact ⟨F__are_asks, He.glo_ok X G (d.fact 10 (f := .glo "_are_asks") rfl), FunD.bindsN F__are_asks fun _ _ _ _ _ _ us hl => match us, hl with | [_, _], _ => rfl⟩
  · rw [fdOf_eq F__are_blocks]
    exact ⟨F__are_blocks, He.glo_ok X G (d.fact 11 (f := .glo "_are_blocks") rfl), FunD.bindsN F__are_blocks fun _ _ _ _ _ _ us hl => match us, hl with | [_, _, _], _ => rfl⟩
  · rw [fdOf_eq F_is_block]
    exact ⟨F_is_block, He.glo_ok X G (d.fact 12 (f := .glo "is_block") rfl), FunD.bindsN F_is_block fun _ _ _ _ _ _ us hl => match us, hl with | [_, _, _], _ => rfl⟩
  · rw [fdOf_eq F_need_day]
    exact ⟨F_need_day, He.glo_ok X G (d.fact 13 (f := .glo "need_day") rfl), FunD.bindsN F_need_day fun _ _ _ _ _ _ us hl => match us, hl with | [_], _ => rfl⟩
  · rw [fdOf_eq F_show_day]
    exact ⟨F_show_day, He.glo_ok X G (d.fact 14 (f := .glo "show_day") rfl), FunD.bindsN F_show_day fun _ _ _ _ _ _ us hl => match us, hl with | [_], _ => rfl⟩
  · rw [fdOf_eq F__dish_row]
    exact ⟨F__dish_row, He.glo_ok X G (d.fact 15 (f := .glo "_dish_row") rfl), FunD.bindsN F__dish_row fun _ _ _ _ _ _ us hl => match us, hl with | [_, _], _ => rfl⟩
  · rw [fdOf_eq F__heard_word]
    exact ⟨F__heard_word, He.glo_ok X G (d.fact 16 (f := .glo "_heard_word") rfl), FunD.bindsN F__heard_word fun _ _ _ _ _ _ us hl => match us, hl with | [_], _ => rfl⟩
  · rw [fdOf_eq F__block_row]
    exact ⟨F__block_row, He.glo_ok X G (d.fact 17 (f := .glo "_block_row") rfl), FunD.bindsN F__block_row fun _ _ _ _ _ _ us hl => match us, hl with | [_], _ => rfl⟩
  · rw [fdOf_eq F_read_day]
    exact ⟨F_read_day, He.glo_ok X G (d.fact 18 (f := .glo "read_day") rfl), FunD.bindsN F_read_day fun _ _ _ _ _ _ us hl => match us, hl with | [_], _ => rfl⟩
  · rw [fdOf_eq F_is_figures]
    exact ⟨F_is_figures, He.glo_ok X G (d.fact 19 (f := .glo "is_figures") rfl), FunD.bindsN F_is_figures fun _ _ _ _ _ _ us hl => match us, hl with | [_], _ => rfl⟩
  · rw [fdOf_eq F__has_form]
    exact ⟨F__has_form, He.glo_ok X G (d.fact 20 (f := .glo "_has_form") rfl), FunD.bindsN F__has_form fun _ _ _ _ _ _ us hl => match us, hl with | [_], _ => rfl⟩
  · rw [fdOf_eq F__has_form_of_dish]
    exact ⟨F__has_form_of_dish, He.glo_ok X G (d.fact 21 (f := .glo "_has_form_of_dish") rfl), FunD.bindsN F__has_form_of_dish fun _ _ _ _ _ _ us hl => match us, hl with | [_], _ => rfl⟩
  · rw [fdOf_eq F__is_heard_word]
    exact ⟨F__is_heard_word, He.glo_ok X G (d.fact 22 (f := .glo "_is_heard_word") rfl), FunD.bindsN F__is_heard_word fun _ _ _ _ _ _ us hl => match us, hl with | [_], _ => rfl⟩
  · rw [fdOf_eq F__has_form_of_block]
    exact ⟨F__has_form_of_block, He.glo_ok X G (d.fact 23 (f := .glo "_has_form_of_block") rfl), FunD.bindsN F__has_form_of_block fun _ _ _ _ _ _ us hl => match us, hl with | [_], _ => rfl⟩
  · rw [fdOf_eq F__is_at_its_place]
    exact ⟨F__is_at_its_place, He.glo_ok X G (d.fact 24 (f := .glo "_is_at_its_place") rfl), FunD.bindsN F__is_at_its_place fun _ _ _ _ _ _ us hl => match us, hl with | [_, _], _ => rfl⟩
  · rw [fdOf_eq F__day_of]
    exact ⟨F__day_of, He.glo_ok X G (d.fact 25 (f := .glo "_day_of") rfl), FunD.bindsN F__day_of fun _ _ _ _ _ _ us hl => match us, hl with | [_], _ => rfl⟩
  · rw [fdOf_eq F__heard_of]
    exact ⟨F__heard_of, He.glo_ok X G (d.fact 26 (f := .glo "_heard_of") rfl), FunD.bindsN F__heard_of fun _ _ _ _ _ _ us hl => match us, hl with | [_], _ => rfl⟩
  · rw [fdOf_eq F__number_of]
    exact ⟨F__number_of, He.glo_ok X G (d.fact 27 (f := .glo "_number_of") rfl), FunD.bindsN F__number_of fun _ _ _ _ _ _ us hl => match us, hl with | [_, _], _ => rfl⟩
  · rw [fdOf_eq F__block_of]
    exact ⟨F__block_of, He.glo_ok X G (d.fact 28 (f := .glo "_block_of") rfl), FunD.bindsN F__block_of fun _ _ _ _ _ _ us hl => match us, hl with | [_], _ => rfl⟩
  · rw [fdOf_eq F__law_purse]
    exact ⟨F__law_purse, He.glo_ok X G (d.fact 29 (f := .glo "_law_purse") rfl), FunD.bindsN F__law_purse fun _ _ _ _ _ _ us hl => match us, hl with | [_, _], _ => rfl⟩
  · rw [fdOf_eq F__law_coin]
    exact ⟨F__law_coin, He.glo_ok X G (d.fact 30 (f := .glo "_law_coin") rfl), FunD.bindsN F__law_coin fun _ _ _ _ _ _ us hl => match us, hl with | [_, _], _ => rfl⟩
  · rw [fdOf_eq F__law_sight]
    exact ⟨F__law_sight, He.glo_ok X G (d.fact 31 (f := .glo "_law_sight") rfl), FunD.bindsN F__law_sight fun _ _ _ _ _ _ us hl => match us, hl with | [_, _, _], _ => rfl⟩
  · rw [fdOf_eq F__law_block]
    exact ⟨F__law_block, He.glo_ok X G (d.fact 32 (f := .glo "_law_block") rfl), FunD.bindsN F__law_block fun _ _ _ _ _ _ us hl => match us, hl with | [_, _, _], _ => rfl⟩
  · rw [fdOf_eq F__law_day]
    exact ⟨F__law_day, He.glo_ok X G (d.fact 33 (f := .glo "_law_day") rfl), FunD.bindsN F__law_day fun _ _ _ _ _ _ us hl => match us, hl with | [_, _, _], _ => rfl⟩
  · rw [fdOf_eq F__law_other]
    exact ⟨F__law_other, He.glo_ok X G (d.fact 34 (f := .glo "_law_other") rfl), FunD.bindsN F__law_other fun _ _ _ _ _ _ us hl => match us, hl with | [_, _], _ => rfl⟩
  · rw [fdOf_eq F__law_bent_row]
    exact ⟨F__law_bent_row, He.glo_ok X G (d.fact 35 (f := .glo "_law_bent_row") rfl), FunD.bindsN F__law_bent_row fun _ _ _ _ _ _ us hl => match us, hl with | [_, _], _ => rfl⟩
  · rw [fdOf_eq F__law_bent]
    exact ⟨F__law_bent, He.glo_ok X G (d.fact 36 (f := .glo "_law_bent") rfl), FunD.bindsN F__law_bent fun _ _ _ _ _ _ us hl => match us, hl with | [_, _], _ => rfl⟩
  · rw [fdOf_eq F__law_whole]
    exact ⟨F__law_whole, He.glo_ok X G (d.fact 37 (f := .glo "_law_whole") rfl), FunD.bindsN F__law_whole fun _ _ _ _ _ _ us hl => match us, hl with | [_, _, _], _ => rfl⟩
  · rw [fdOf_eq F__law_each]
    exact ⟨F__law_each, He.glo_ok X G (d.fact 38 (f := .glo "_law_each") rfl), FunD.bindsN F__law_each fun _ _ _ _ _ _ us hl => match us, hl with | [_, _, _], _ => rfl⟩
  · rw [fdOf_eq F__law_is_sight]
    exact ⟨F__law_is_sight, He.glo_ok X G (d.fact 39 (f := .glo "_law_is_sight") rfl), FunD.bindsN F__law_is_sight fun _ _ _ _ _ _ us hl => match us, hl with | [_, _, _], _ => rfl⟩
  · rw [fdOf_eq F__law_is_block]
    exact ⟨F__law_is_block, He.glo_ok X G (d.fact 40 (f := .glo "_law_is_block") rfl), FunD.bindsN F__law_is_block fun _ _ _ _ _ _ us hl => match us, hl with | [_, _, _], _ => rfl⟩
  · rw [fdOf_eq F__law_is_day]
    exact ⟨F__law_is_day, He.glo_ok X G (d.fact 41 (f := .glo "_law_is_day") rfl), FunD.bindsN F__law_is_day fun _ _ _ _ _ _ us hl => match us, hl with | [_], _ => rfl⟩
  · rw [fdOf_eq F__law_kinds]
    exact ⟨F__law_kinds, He.glo_ok X G (d.fact 42 (f := .glo "_law_kinds") rfl), FunD.bindsN F__law_kinds fun _ _ _ _ _ _ us hl => match us, hl with | [_], _ => rfl⟩
  · rw [fdOf_eq F__law_word]
    exact ⟨F__law_word, He.glo_ok X G (d.fact 43 (f := .glo "_law_word") rfl), FunD.bindsN F__law_word fun _ _ _ _ _ _ us hl => match us, hl with | [_, _], _ => rfl⟩
  · exact He.free_ok X G (d.fact 70 (f := .free "ValueError") rfl)
  · rw [fdOf_eq F_rises]
    exact ⟨code_at F_rises, hB _ (List.mem_map.mpr ⟨("rises", none), by simp [tfs], rfl⟩)⟩
  · rw [fdOf_eq F__are_stores]
    exact ⟨code_at F__are_stores, hB _ (List.mem_map.mpr ⟨("_are_stores", none), by simp [tfs], rfl⟩)⟩
  · rw [fdOf_eq F__are_sights]
    exact ⟨code_at F__are_sights, hB _ (List.mem_map.mpr ⟨("_are_sights", none), by simp [tfs], rfl⟩)⟩
  · rw [fdOf_eq F__is_sight]
    exact ⟨code_at F__is_sight, hB _ (List.mem_map.mpr ⟨("_is_sight", none), by simp [tfs], rfl⟩)⟩
  · rw [fdOf_eq F__are_heard]
    exact ⟨code_at F__are_heard, hB _ (List.mem_map.mpr ⟨("_are_heard", none), by simp [tfs], rfl⟩)⟩
  · rw [fdOf_eq F__are_asks]
    exact ⟨code_at F__are_asks, hB _ (List.mem_map.mpr ⟨("_are_asks", none), by simp [tfs], rfl⟩)⟩
  · rw [fdOf_eq F__are_blocks]
    exact ⟨code_at F__are_blocks, hB _ (List.mem_map.mpr ⟨("_are_blocks", none), by simp [tfs], rfl⟩)⟩
  · rw [fdOf_eq F_is_figures]
    exact ⟨code_at F_is_figures, hB _ (List.mem_map.mpr ⟨("is_figures", none), by simp [tfs], rfl⟩)⟩
  · rw [fdOf_eq F__has_form_of_dish]
    exact ⟨code_at F__has_form_of_dish, hB _ (List.mem_map.mpr ⟨("_has_form_of_dish", none), by simp [tfs], rfl⟩)⟩
  · rw [fdOf_eq F__is_heard_word]
    exact ⟨code_at F__is_heard_word, hB _ (List.mem_map.mpr ⟨("_is_heard_word", none), by simp [tfs], rfl⟩)⟩
  · rw [fdOf_eq F__has_form_of_block]
    exact ⟨code_at F__has_form_of_block, hB _ (List.mem_map.mpr ⟨("_has_form_of_block", none), by simp [tfs], rfl⟩)⟩
def fdMOf (K : PySem.W.Frag) (d0 : FuncData) (C m : String) : FuncData := match K.lookup (He.ma K (He.ga K C) m) with
  | some ⟨_, _, .func fd, _⟩ => fd
  | _ => d0
theorem fdMOf_eq {K : PySem.W.Frag} {d0 : FuncData} {C m : String} {x q : Str} {pa : Arguments} {b : List Stmt} {sc : Scope} {dl : List V} {fd : FuncData} (F : FunD K x q pa b sc dl [] (He.ma K (He.ga K C) m) fd) : fdMOf K d0 C m = fd := by
  obtain ⟨oc, od, dV, kV, doc, pm, an, cdv, ct, osl, rfl, lk, hcd, _, _⟩ := F.ex
  unfold fdMOf
  rw [lk]
theorem cfacts {w : World} {K : PySem.W.Frag} {h : Heap} {mg : Str → Option Value} (X : K.In h) (G : h.Ns mainGlobals mg) (c_ : He.SaysX fas fns [] tfs exT w h K) (d0 : FuncData) : CFacts K mg (fun x => He.ga K x) (fun C m => He.ma K (He.ga K C) m) (fdMOf K d0) := by
  have d := c_.t.d
  obtain ⟨f_NoText___init__, F_NoText___init__⟩ := d.def_ 45 (d := dd_NoText___init__) rfl
  have mo := c_.more
  simp only [exT, Bool.and_eq_true] at mo
  refine ⟨?_, ?_, ?_, ?_, ?_, ?_, ?_, ?_, ?_, ?_, ?_, ?_, ?_, ?_, ?_, ?_, ?_, ?_, ?_, ?_, ?_, ?_, ?_, ?_, ?_, ?_, ?_, ?_, ?_, ?_, ?_, ?_, ?_, ?_, ?_, ?_, ?_, ?_, ?_, ?_, ?_, ?_, ?_, ?_, ?_, ?_, ?_, ?_, ?_, ?_, ?_, ?_, ?_, ?_, ?_, ?_, ?_, ?_, ?_⟩
  · rw [fdMOf_eq F_NoText___init__]
    exact ⟨F_NoText___init__, Raised.binds_full F_NoText___init__ (List.cons_ne_nil _ _) fun T kV doc pm an cdv ct us its l1 l2 => match us, its, l1, l2 with | [_, _], [_], _, _ => ⟨_, rfl, rfl⟩⟩
  · rw [fdMOf_eq F_NoText___init__]
    exact Two.binds_less F_NoText___init__ (List.cons_ne_nil _ _) (show 1 ≤ 2 by decide) fun T kV doc pm an cdv ct us its l1 l2 => match us, its, l1, l2 with | [_], [_], _, _ => ⟨_, rfl, rfl⟩
  · exact Raised.oxB_ok mo.2.2.2.2.2.2.2.2.2.2.2.2.2.2.2.2.1
  · exact He.noat_ok (d.fact 74 (f := .noat "NoText" "at") rfl)
  · exact (He.exc_ok (d.fact 71 (f := .exc "NoDay") rfl)).1
  · exact (He.exc_ok (d.fact 71 (f := .exc "NoDay") rfl)).2.1
  · exact (He.exc_ok (d.fact 71 (f := .exc "NoDay") rfl)).2.2.1
  · exact (He.exc_ok (d.fact 71 (f := .exc "NoDay") rfl)).2.2.2
  · exact He.glo_ok X G (d.fact 77 (f := .glo "DayOver") rfl)
  · exact He.glo_ok X G (d.fact 78 (f := .glo "NoBlock") rfl)
  · exact He.glo_ok X G (d.fact 79 (f := .glo "NoDay") rfl)
  · exact He.glo_ok X G (d.fact 80 (f := .glo "NoHour") rfl)
  · exact He.glo_ok X G (d.fact 81 (f := .glo "NoLost") rfl)
  · exact He.glo_ok X G (d.fact 82 (f := .glo "NoName") rfl)
  · exact He.glo_ok X G (d.fact 83 (f := .glo "NoNumbers") rfl)
  · exact He.glo_ok X G (d.fact 84 (f := .glo "NoPlace") rfl)
  · exact He.glo_ok X G (d.fact 85 (f := .glo "NoPlan") rfl)
  · exact He.glo_ok X G (d.fact 86 (f := .glo "NoRests") rfl)
  · exact He.glo_ok X G (d.fact 87 (f := .glo "NoRow") rfl)
  · exact He.glo_ok X G (d.fact 88 (f := .glo "NoText") rfl)
  · exact He.glo_ok X G (d.fact 89 (f := .glo "NoWorth") rfl)
  · exact He.glo_ok X G (d.fact 90 (f := .glo "SkyError") rfl)
  · exact He.glo_ok X G (d.fact 91 (f := .glo "TooMany") rfl)
  · exact He.exm_ok (d.fact 72 (f := .exm "NoDay" "NoText" false) rfl)
  · exact He.exm_ok (d.fact 73 (f := .exm "NoDay" "SkyError" true) rfl)
  · exact Caught.ExcIs.of mo.1
  · exact of_decide_eq_true mo.2.1
  · exact of_decide_eq_true mo.2.2.1
  · exact of_decide_eq_true mo.2.2.2.1
  · exact of_decide_eq_true mo.2.2.2.2.1
  · exact of_decide_eq_true mo.2.2.2.2.2.1
  · exact of_decide_eq_true mo.2.2.2.2.2.2.1
  · exact of_decide_eq_true mo.2.2.2.2.2.2.2.1
  · exact of_decide_eq_true mo.2.2.2.2.2.2.2.2.1
  · exact of_decide_eq_true mo.2.2.2.2.2.2.2.2.2.1
  · exact of_decide_eq_true mo.2.2.2.2.2.2.2.2.2.2.1
  · exact of_decide_eq_true mo.2.2.2.2.2.2.2.2.2.2.2.1
  · exact of_decide_eq_true mo.2.2.2.2.2.2.2.2.2.2.2.2.1
  · exact of_decide_eq_true mo.2.2.2.2.2.2.2.2.2.2.2.2.2.1
  · exact of_decide_eq_true mo.2.2.2.2.2.2.2.2.2.2.2.2.2.2.1
  · exact of_decide_eq_true mo.2.2.2.2.2.2.2.2.2.2.2.2.2.2.2.1
  · exact He.exm_ok (d.fact 75 (f := .exm "NoText" "NoText" true) rfl)
  · exact He.exm_ok (d.fact 76 (f := .exm "NoText" "SkyError" true) rfl)
  · exact Caught.ExcIs.of mo.2.2.2.2.2.2.2.2.2.2.2.2.2.2.2.2.2.1
  · exact of_decide_eq_true mo.2.2.2.2.2.2.2.2.2.2.2.2.2.2.2.2.2.2.1
  · exact of_decide_eq_true mo.2.2.2.2.2.2.2.2.2.2.2.2.2.2.2.2.2.2.2.1
  · exact of_decide_eq_true mo.2.2.2.2.2.2.2.2.2.2.2.2.2.2.2.2.2.2.2.2.1
  · exact of_decide_eq_true mo.2.2.2.2.2.2.2.2.2.2.2.2.2.2.2.2.2.2.2.2.2.1
  · exact of_decide_eq_true mo.2.2.2.2.2.2.2.2.2.2.2.2.2.2.2.2.2.2.2.2.2.2.1
  · exact of_decide_eq_true mo.2.2.2.2.2.2.2.2.2.2.2.2.2.2.2.2.2.2.2.2.2.2.2.1
  · exact of_decide_eq_true mo.2.2.2.2.2.2.2.2.2.2.2.2.2.2.2.2.2.2.2.2.2.2.2.2.1
  · exact of_decide_eq_true mo.2.2.2.2.2.2.2.2.2.2.2.2.2.2.2.2.2.2.2.2.2.2.2.2.2.1
  · exact of_decide_eq_true mo.2.2.2.2.2.2.2.2.2.2.2.2.2.2.2.2.2.2.2.2.2.2.2.2.2.2.1
  · exact of_decide_eq_true mo.2.2.2.2.2.2.2.2.2.2.2.2.2.2.2.2.2.2.2.2.2.2.2.2.2.2.2.1
  · exact of_decide_eq_true mo.2.2.2.2.2.2.2.2.2.2.2.2.2.2.2.2.2.2.2.2.2.2.2.2.2.2.2.2.1
  · exact of_decide_eq_true mo.2.2.2.2.2.2.2.2.2.2.2.2.2.2.2.2.2.2.2.2.2.2.2.2.2.2.2.2.2.1
  · exact of_decide_eq_true mo.2.2.2.2.2.2.2.2.2.2.2.2.2.2.2.2.2.2.2.2.2.2.2.2.2.2.2.2.2.2.1
  · exact of_decide_eq_true mo.2.2.2.2.2.2.2.2.2.2.2.2.2.2.2.2.2.2.2.2.2.2.2.2.2.2.2.2.2.2.2.1
  · exact of_decide_eq_true mo.2.2.2.2.2.2.2.2.2.2.2.2.2.2.2.2.2.2.2.2.2.2.2.2.2.2.2.2.2.2.2.2.1
theorem lawAtG_ok {w : World} {K : PySem.W.Frag} {h : Heap} {mg : Str → Option Value} {f : Addr} (X : K.In h) (G : h.Ns mainGlobals mg) (hf : mg ("law" : Str) = some (.ref f)) (c : He.SaysX fas fns [] tfs exT w h K) (hsm : ∃ o, h.get? sysModules = some o ∧ o.cls = .type "dict") :
    LawAtG PySem.Challenge.rw_skyprices_k19_no_texts_and_no_days w K 15 63 ("script" : Str) mg f h := by
  have d := c.t.d
  obtain ⟨fl, FL⟩ := d.def_ 44 (d := dd_law) rfl
  have e := hf.symm.trans (He.glo_ok X G (d.fact 44 (f := .glo "law") rfl))
  cases e
  refine ⟨fl, tfs.map (He.cT K), sp_law K (fun x => He.tabOf K (He.codeOf K (x, none))), fun p hp => ?_, fun p hp => ?_, fun p hp => ?_, hsm, fun s u => ?_, fun H a ns hn _ hH hS => ?_, fun base hB hN hT hs => ?_⟩
  · obtain ⟨q, hq, rfl⟩ := List.mem_map.mp hp
    exact c.empty q hq
  · obtain ⟨q, hq, rfl⟩ := List.mem_map.mp hp
    exact c.out q hq
  · obtain ⟨q, hq, rfl⟩ := List.mem_map.mp hp
    exact PySem.W.codeHd_of_K X (c.hd q hq)
  · exact FunD.bindsA (ps := ["script"]) FL (fun _ _ _ _ _ _ us hl => match us, hl with | [_], _ => rfl) s [u] rfl
  · refine ⟨a, ns, rfl, hS, hn, fun P hP => ?_, fun _ => rfl⟩
    have key : ∀ x : String, ((x : Str), (none : Option Str)) ∈ tfs → TabG H (He.tabOf K (He.codeOf K (x, none))) := fun x hx => ⟨#[], hH _ (List.mem_map.mpr ⟨_, hx, rfl⟩), by simp [TriplesOk]⟩
    simp only [Ts, List.mem_cons, List.not_mem_nil, or_false] at hP
    rcases hP with rfl | rfl | rfl | rfl | rfl | rfl | rfl | rfl | rfl | rfl | rfl
    · exact key "rises" (by simp [tfs])
    · exact key "_are_stores" (by simp [tfs])
    · exact key "_are_sights" (by simp [tfs])
    · exact key "_is_sight" (by simp [tfs])
    · exact key "_are_heard" (by simp [tfs])
    · exact key "_are_asks" (by simp [tfs])
    · exact key "_are_blocks" (by simp [tfs])
    · exact key "is_figures" (by simp [tfs])
    · exact key "_has_form_of_dish" (by simp [tfs])
    · exact key "_is_heard_word" (by simp [tfs])
    · exact key "_has_form_of_block" (by simp [tfs])
  · exact ok_law (facts X G c fl base hT) (cfacts X G c fl) FL hs
end Law

set_option Elab.async false
open PySem PySem.W PySem.Calls PyProof.Rows
set_option maxRecDepth 100000 in
set_option maxHeartbeats 0 in
theorem PySem.Challenge.cw_skyprices_k19_no_texts_and_no_days_holds : PySem.Challenge.rw_skyprices_k19_no_texts_and_no_days.Holds := by
  w_on; o_law
  refine HandSHeadRun.head_any (r := OpenLaw.row PySem.Challenge.rw_skyprices_k19_no_texts_and_no_days) (q := view (OpenLaw.row PySem.Challenge.rw_skyprices_k19_no_texts_and_no_days).prog [Law.lawAt]) (H := Law.hk) (ob := Law.ob) (M := 9000) (loose := Law.looseN) (d := HandSHeadRun.topDef (OpenLaw.row PySem.Challenge.rw_skyprices_k19_no_texts_and_no_days).prog Law.lawAt) (kwd := []) Law.ob_eq
    (by kernel_rfl) (fun s => by kernel_rfl) Law.run (by kernel_rfl) (by kernel_rfl) (by kernel_rfl) (by rfl) (by first | assumption | decide +kernel) (by decide +kernel) ⟨rfl, rfl, rfl, rfl, rfl, by decide +kernel⟩ ?hw ?hc
  case hw => w_witness2
  case hc =>
    refine EndG.walk_ofG (l := PySem.Challenge.rw_skyprices_k19_no_texts_and_no_days) (n := 63) (k := 15) (x := "script") rfl (by decide) (by kernel_rfl) ⟨rfl, by decide, by decide⟩ ?F
    intro w mg fa h Y G hmg0
    obtain ⟨⟨K, KX, c⟩, hsm⟩ := Y
    have hmg : mg ("law" : PySem.Str) = some (.ref fa) := by
      have e : (HandSHeadRun.topDef (OpenLaw.row PySem.Challenge.rw_skyprices_k19_no_texts_and_no_days).prog Law.lawAt).name = ("law" : PySem.Str) := by kernel_rfl
      rw [← e]
      exact hmg0
    exact ⟨K, KX, Law.lawAtG_ok KX G hmg c hsm⟩
