import PyProof.Rows.All
import Wide.All
import OpenK.AllK
import Wide.FinOn
import PyProof.EqAt
import PyProof.EqKinds
import PyProof.TupleCall
import KE.KNest
import HandS.Base
import HandS.Call
import HandS.List
import HandS.Comp
import HandS.AnyAll
import HandS.Lambda
import HandS.GenList
import PyProof.ReprRoads
import HandS.ForMost
import HandS.Wide
import HandS.IsInst
import HandS.Words
import HandS.EndBits
import HandS.EndTab
import HandS.Defaults
import HandS.Style
import HandS.Conv
import HandS.TupAny
import HandS.Sort
import HandS.Strs
import HandS.SetFor
import PyProof.NeData
import HandS.SetBool
import HandS.TupSets
import PyProof.Rows.IntBool
import PyProof.CallStr
import PyProof.FitsInt
import PyProof.ReprLen
import HandS.Iter
import HandS.Deep
import HandS.Exc
import HandS.ExcOwn
import HandS.WordsExc
import KE.KExcIs
import PySem.Challenge.RW_skyprices_k05_whole_plans_and_parts
import HandS.SortInts
import KE.KStateDown
import HandS.Head0
import HandS.Head1
import HandS.Head2
import HandS.HeadEnd
import HandS.HeadHook1
import HandS.HeadHook2
import HandS.HeadHook3
import HandS.HeadHook4
import HandS.HeadWalk
set_option Elab.async false
set_option linter.all false
set_option maxRecDepth 100000
set_option maxHeartbeats 2000000
/-! Gx: a generator expression over anything that PI serves, its element any expression of the layer (own calls too), drawn by all and any. -/
namespace GX
open PySem PySem.Spec PyProof.Rows L2 GxR GenW

/-- where the element runs -/
abbrev gA (A : Around) (cenv : Env) : Around := A.in1.in1.deeper cenv
abbrev gX (X : Cx) (s : Shared) (H : Hp) (cenv : Env) (fp : List Addr) (pn : List (Addr × Obj)) : Cx :=
  { X with A := gA X.A cenv, s_0 := s, H_0 := H, env := cenv, outer := X.stack, stack := cenv :: X.stack, ex := fp, fn := fun _ => false, pn := pn, xe := fun _ _ => False }
theorem over_loop0 {A : Around} {elt : Expr} {gs : List Comprehension} {scope : Scope} {pos : Pos} {it acc : Value} {cenv : Env} :
    A.over (.compLoop (.GeneratorExp elt gs scope pos) 0 it acc cenv) [] = A.deeper cenv := by
  first
    | rfl
    | (obtain ⟨hd, d, fr, gs, u⟩ := A; simp [Around.over, Around.deeper, marksOver, frameCount, unitsOf, envsOf, guardsOf, pushEnvs, pushGuards, Code.envs, Code.env?, Code.isFrame, Code.guards, Code.isGuard, Code.weight, Code.frames, Code.isCreation, Code.isCaller, Code.cUnits])
theorem over_start0 {A : Around} {elt : Expr} {gs : List Comprehension} {scope : Scope} {pos : Pos} {it acc : Value} {cenv : Env} :
    A.over (.compStart (.GeneratorExp elt gs scope pos) 0 it acc cenv) [] = A.deeper cenv := by
  first
    | rfl
    | (obtain ⟨hd, d, fr, gs, u⟩ := A; simp [Around.over, Around.deeper, marksOver, frameCount, unitsOf, envsOf, guardsOf, pushEnvs, pushGuards, Code.envs, Code.env?, Code.isFrame, Code.guards, Code.isGuard, Code.weight, Code.frames, Code.isCreation, Code.isCaller, Code.cUnits])
theorem room_gen {k : Nat} {A : Around} (r : Room (k + 1) A) (env : Env) : Room k (gA A env) :=
  ⟨r.hd, by have := r.dp; show A.depth + 1 + 3 * k + 5 < _; omega, by have := r.un; show A.units + 1 + 1 + 3 + 16 * k + 200 < _; omega⟩

/-- the generator expression's own scope, over the def's -/
structure GOk (N : List Str) (sc scope : Scope) (own : List (Str × Nat)) : Prop where
  blk : BlkOk N sc scope own
  co : scope.isCoroutine = false
  cell : ∀ y ∈ scope.names, y.2 ≠ .cell
  dot : scope.names.lookup (".0" : Str) = some NameKind.local
def gokC (N : List Str) (sc scope : Scope) (own : List (Str × Nat)) : Bool :=
  blkC N sc scope own && (!scope.isCoroutine && (scope.names.all (fun y => match y.2 with | .cell => false | _ => true) && (match scope.names.lookup (".0" : Str) with | some .local => true | _ => false)))
theorem gok_by {N : List Str} {sc scope : Scope} {own : List (Str × Nat)} (h : gokC N sc scope own = true) : GOk N sc scope own := by
  unfold gokC at h
  obtain ⟨h1, h2⟩ := Bool.and_eq_true_iff.mp h
  obtain ⟨h3, h4⟩ := Bool.and_eq_true_iff.mp h2
  obtain ⟨h5, h6⟩ := Bool.and_eq_true_iff.mp h4
  refine ⟨blkOk_by h1, by simpa using h3, fun y hy e => ?_, ?_⟩
  · have q := List.all_eq_true.mp h5 y hy
    rw [e] at q
    cases q
  · revert h6
    cases e : scope.names.lookup (".0" : Str) with
    | none => intro h6; cases h6
    | some k => cases k <;> intro h6 <;> first | rfl | cases h6

theorem cenv_cells {scope : Scope} {cl : List (Str × Addr)} {C : Addr} {code : Value} {bi : Addr} {env : Env} : (genEnv scope cl C code bi env).cells = cl := rfl

section
variable {X : Cx} {pins : List (Addr × Obj)} {σ : L2.St} {H : Hp} {s : Shared}
theorem Inv.keepS {s' : Shared} (I : Inv X pins σ H s) (os : s'.os = s.os) (k : ∀ b o, s.heap.get? b = some o → s'.heap.get? b = some o) (hg : AllBare s'.gens) : Inv X pins σ H s' :=
  I.call' (ch := []) os (Un.kept k) (I.hok.kept k) hg fun b hb => absurd hb (by simp)

/-- the generator's frame as it begins -/
theorem gx_start {scope : Scope} {own : List (Str × Nat)} {fp : List Addr} {code : Value} {a : Addr} {go : Obj} {s5 : Shared} (I : Inv X pins σ H s) (ok : GOk X.N X.env.scope scope own) (hN : X.N.Nodup) (hh : X.A.handled = none)
    (hfp : ∀ b ∈ fp, FpOk X pins H b ∧ b < s.heap.objs.size) (os : s5.os = s.os) (hb : AllBare s5.gens) (k : ∀ b o, s.heap.get? b = some o → s5.heap.get? b = some o)
    (hn : ∃ m, s5.heap.Ns s.heap.objs.size m) (ha : s.heap.objs.size < a) (hga : s5.heap.get? a = some go) (hgd : ∀ v, go.data ≠ .cell v) :
    Inv (gX X s H (genEnv scope (cloFrom X.env.cells scope.names []) s.heap.objs.size code builtinsNs X.env) fp [(a, go)]) [] (wipe σ (own.map (·.2))) H s5 := by
  have hfree : ∀ y ∈ scope.names, y.2 = .free → ∃ c, X.env.cells.lookup y.1 = some c := fun y hy e => by
    rcases ok.blk.free y hy e with k | k
    · exact I.ok.has _ (.inl k)
    · exact I.ok.has _ (.inr k)
  have cm : ∀ {y c}, (cloFrom X.env.cells scope.names []).lookup y = some c → X.env.cells.lookup y = some c ∧ c < s.heap.objs.size := fun {y c} e => by
    rcases cloFrom_mem (PySem.mem_of_lookup e) with hm | ⟨h1, rfl⟩
    · cases hm
    · obtain ⟨c, hc⟩ := hfree _ h1 rfl
      rw [hc]
      obtain ⟨w, z⟩ := I.cell _ _ hc
      exact ⟨rfl, z.lt⟩
  have look : ∀ {y}, scope.names.lookup y = some .free → ∃ c, (cloFrom X.env.cells scope.names []).lookup y = some c ∧ X.env.cells.lookup y = some c := fun {y} hl => by
    have hy : (y, NameKind.free) ∈ scope.names := PySem.mem_of_lookup hl
    obtain ⟨c', e'⟩ := mem_lookup (cloFrom_has (cells := X.env.cells) (acc := []) hy)
    exact ⟨c', e', (cm e').1⟩
  refine ⟨⟨I.ok.mod, ok.blk.kind, I.ok.glob, rfl, Nat.le_refl _, fun y z c e1 e2 => I.ok.inj y z c (cm e1).1 (cm e2).1, fun y hy => ?_, fun y c z _ => (by cases z), fun _ => hh, ?_, .inr ⟨rfl, rfl⟩, fun b hb => ⟨Nat.ne_of_lt (hfp b hb).2, fun y c e z => ?_⟩, I.bs, Nat.le_trans I.ok.bsz I.sz, fun b o e hb => ?_, fun b hb z => ?_, I.stack, I.stkFree⟩,
    os, hb, Un.kept k, ?_, fun y c e => ?_, ?_, fun y c e => ?_, fun p hp => ?_, I.hok.kept k, by rw [wipe_length]; exact I.len⟩
  · show ∃ c, (cloFrom X.env.cells scope.names []).lookup y = some c
    have hy : scope.names.lookup y = some .cell ∨ scope.names.lookup y = some .free := hy
    rcases hy with hy | hy
    · exact absurd rfl (ok.cell _ (PySem.mem_of_lookup hy))
    · obtain ⟨c, h1, _⟩ := look hy
      exact ⟨c, h1⟩
  · exact Around.frames_deeper I.ok.frames
  · have e : (cloFrom X.env.cells scope.names []).lookup y = some c := e
    exact (hfp b hb).1.2.2.2.2.1 y c (cm e).1 z
  · rcases (hfp b hb).1.2.2.2.1 with z | z
    · exact I.ok.noex b o e z
    · exact absurd (Nat.lt_of_lt_of_le (Heap.lt_size e) (Nat.le_trans I.ok.bsz z)) (Nat.lt_irrefl _)
  · rcases List.mem_cons.mp (I.stkSub b z) with z | z
    · exact (hfp b hb).1.2.1 z
    · exact (hfp b hb).1.2.2.1 z
  · obtain ⟨m, hn⟩ := hn
    refine ⟨m, hn, fun i y av e1 e2 e3 => ?_⟩
    obtain ⟨e2, hne⟩ := wipe_some e2
    have no : ¬ (scope.names.lookup y = some .local) := fun hh => by
      rcases ok.blk.own _ (PySem.mem_of_lookup hh) (.inl rfl) with e' | e'
      · obtain ⟨p, hp, hpy⟩ := List.mem_map.mp e'
        have e3 := ok.blk.ix p hp
        have : p.1 = y := hpy
        rw [this] at e3
        exact hne (List.mem_map.mpr ⟨p, hp, nodup_ix hN e3 e1⟩)
      · exact e' (List.mem_of_getElem? e1)
    have e3 : Vis scope y := e3
    have hfr : scope.names.lookup y = some .free := by
      rcases e3 with e3 | e3 | e3
      · exact absurd e3 no
      · exact absurd rfl (ok.cell _ (PySem.mem_of_lookup e3))
      · exact e3
    obtain ⟨m, hn, hl⟩ := I.loc
    have hvis : Vis X.env.scope y := (ok.blk.free _ (PySem.mem_of_lookup hfr) rfl).elim (fun k => .inr (.inl k)) (fun k => .inr (.inr k))
    obtain ⟨w, r, q⟩ := hl i y av e1 e2 hvis
    refine ⟨w, r, .inr ⟨.inr hfr, ?_⟩⟩
    obtain ⟨c, h1, h2⟩ := look hfr
    rcases q with ⟨k, _⟩ | ⟨_, c', e', z⟩
    · have k : X.env.scope.names.lookup y = some .local := k
      rcases ok.blk.free _ (PySem.mem_of_lookup hfr) rfl with k' | k' <;> rw [show X.env.scope.names.lookup y = _ from k'] at k <;> cases k
    · rw [h2] at e'; cases e'
      exact ⟨c, h1, z.keeps (by assumption)⟩
  · have e : (cloFrom X.env.cells scope.names []).lookup y = some c := e
    obtain ⟨w, z⟩ := I.cell y c (cm e).1
    exact ⟨w, z.keeps k⟩
  · exact I.hok.fresh (Nat.le_refl _)
  · have e : (cloFrom X.env.cells scope.names []).lookup y = some c := e
    exact I.freeC y c (cm e).1
  · have e : p = (a, go) := by simpa using hp
    subst e
    refine ⟨hga, I.hok.fresh (Nat.le_of_lt ha), Nat.ne_of_gt ha, fun z => ?_, hgd⟩
    rcases List.mem_cons.mp (I.stkSub a z) with z | z
    · have h1 := I.lt
      rw [← z] at h1
      exact absurd (Nat.lt_trans h1 ha) (Nat.lt_irrefl _)
    · exact I.nofs (Nat.le_of_lt ha) z
end

/-! ### the turns -/
section
variable {X : Cx} {s4 : Shared} {H4 : Hp} {cenv : Env} {fp : List Addr} {pn : List (Addr × Obj)} {σw : L2.St} {tg : Expr}
/-- the end: nothing more comes -/
def GRe (Xg : Cx) (σw : L2.St) (fp : List Addr) (Qe : Hp → Prop) : Shared → Prop := fun s => ∃ H, Inv Xg [] σw H s ∧ (∀ b ∈ fp, H b = none) ∧ Qe H
/-- y is handed out; N: what is to hold for the next draw -/
def GYe (Xg : Cx) (cons : V → Hp → Prop → Prop) : Protocol := fun _ _ v s kap => ∃ pins' σ' y H N, Inv Xg pins' σ' H s ∧ RelV y v ∧ cons y H N ∧
  ∀ s' : Shared, (∀ b o, s.heap.get? b = some o → s'.heap.get? b = some o) → s'.os = s.os → AllBare s'.gens → N → kap (.send .none) s'
/-- what is to be shown of the turns: W by the turn and a measure -/
def GTurns (J : It) (g : TG) (tt : TT) (te : TE) (vs : List Nat) (σ : L2.St) (W : Nat → Nat → Hp → Prop) (Qe : Hp → Prop) (cons : V → Hp → Prop → Prop) : Prop := ∀ i m H, W i m H →
  (J.stop i H ∧ Qe H) ∨ (J.go i H ∧ ∃ Nx : Hp → Prop, (∀ H', Nx H' → ∃ m', m' < m ∧ W (i + 1) m' H') ∧ ∀ x H', J.yld i H x H' → g x (wipe σ vs) H' fun σ2 H2 => wipe σ2 vs = wipe σ vs ∧ tt σ2 H2 fun b H3 =>
    if b = true then te σ2 H3 fun y H4 => cons y H4 (Nx H4) else Nx H3)
theorem gx_loop {elt iter : Expr} {ifs : List Expr} {scope : Scope} {pos : Pos} {it : Addr} {J : It} {tn : Nat → Heap → Prop} {g : TG} {tt : TT} {te : TE} {vs : List Nat} {σ : L2.St} {W : Nat → Nat → Hp → Prop} {Qe : Hp → Prop} {cons : V → Hp → Prop → Prop}
    (hc : X.calm = true) (hco : cenv.scope.isCoroutine = false) (T : Turn X.prog X.w X.K tg J fp it tn) (hg : PG (gX X s4 H4 cenv fp pn) tg g) (ht : PTs (gX X s4 H4 cenv fp pn) ifs tt) (he : PE (gX X s4 H4 cenv fp pn) elt te)
    (turn : GTurns J g tt te vs σ W Qe cons) (hpf : ∀ b ∈ fp, ∀ p ∈ pn, p.1 ≠ b) :
    ∀ (n m i : Nat) (s₀ s : Shared) (H : Hp), m < n → Inv (gX X s4 H4 cenv fp pn) [] (wipe σ vs) H s → tn i s.heap → (∀ b ∈ fp, H b = none) → W i m H →
      Seg (model X.prog X.w) X.A.in1.in1 (fun _ _ r s1 => r = .ok .next ∧ GRe (gX X s4 H4 cenv fp pn) (wipe σ vs) fp Qe s1) (GYe (gX X s4 H4 cenv fp pn) cons) n s₀
        (.compLoop (.GeneratorExp elt [⟨tg, iter, ifs, 0⟩] scope pos) 0 (.ref it) .none cenv)
        ((model X.prog X.w).den (.compLoop (.GeneratorExp elt [⟨tg, iter, ifs, 0⟩] scope pos) 0 (.ref it) .none cenv)) [] s := by
  have ov : X.A.in1.in1.over (.compLoop (.GeneratorExp elt [⟨tg, iter, ifs, 0⟩] scope pos) 0 (.ref it) .none cenv) [] = gA X.A cenv := over_loop0
  have stat : ∀ {σ' : L2.St} {H' : Hp} {s' : Shared}, Inv (gX X s4 H4 cenv fp pn) [] σ' H' s' → (∀ b ∈ fp, H' b = none) → ∀ b ∈ fp, FpOk (gX X s4 H4 cenv fp pn) [] H' b := fun {σ' H' s'} I' hn b hb =>
    ⟨hn b hb, (I'.ok.exf b hb).1, I'.ok.exfs b hb, .inl hb, fun x c e => (I'.ok.exf b hb).2 x c e, fun p hp' => hpf b hb p (by simpa using hp')⟩
  intro n
  induction n with
  | zero => intro m i s₀ s H hm; exact absurd hm (Nat.not_lt_zero _)
  | succ n ihn =>
    intro m
    induction m using Nat.strongRecOn with
    | ind m ihm =>
      intro i s₀ s H hm I st nf w
      show Seg _ X.A.in1.in1 _ _ _ s₀ _ ((compTurn (.GeneratorExp elt [⟨tg, iter, ifs, 0⟩] scope pos) 0 (.ref it) .none cenv).onRaise (leaving cenv)) [] s
      rw [compTurn_gen, Sem.onRaise_eq_wrap]
      refine seg_bind_wrap (wpAny_standAt ?_)
      refine seg_bind_wrap ?_
      rw [ov]
      rcases turn i m H w with ⟨stop, qe⟩ | ⟨go, Nx, hNx, step⟩
      · have td := T.done (gX X s4 H4 cenv fp pn) rfl rfl rfl hc i [] s _ H (fun _ _ => False) I (stat I nf) st stop
        refine thnF td fun r s6 ⟨hr, I6⟩ => ?_
        subst hr
        exact seg_end (.ok .next) ⟨rfl, H, I6, nf, qe⟩
      · have ti := T.item (gX X s4 H4 cenv fp pn) rfl rfl rfl hc i [] s _ H (fun _ _ => False) I (stat I nf) st go
        refine thnF ti fun r s6 ⟨u, hr, h6⟩ => ?_
        subst hr
        refine seg_bind_wrap ?_
        rw [ov]
        refine thnF h6 fun _ s7 ⟨x, H7, I7, r7, y7, st7, n7⟩ => ?_
        have I7' := I7.pinned (stat I7 n7) (T.obj _ _ st7)
        refine seg_bind_wrap ?_
        rw [ov]
        refine thnF (hg.run _ s7 _ H7 x u _ I7' r7 (step x H7 y7)) fun _ s8 ⟨σ8, H8, I8, hw8, q8⟩ => ?_
        refine seg_bind_wrap ?_
        rw [ov]
        refine thnF (ht.run _ s8 σ8 H8 _ I8 q8) fun b s9 ⟨H9, I9, q9⟩ => ?_
        -- the turn's end
        have fin : ∀ {s' : Shared} {H' : Hp}, Inv (gX X s4 H4 cenv fp pn) ([] ++ pinsAt fp s7.heap) σ8 H' s' → Nx H' → ∃ m', m' < m ∧ Inv (gX X s4 H4 cenv fp pn) [] (wipe σ vs) H' s' ∧ tn (i + 1) s'.heap ∧ (∀ b ∈ fp, H' b = none) ∧ W (i + 1) m' H' := fun {s' H'} I' nx => by
          obtain ⟨m', hm, w'⟩ := hNx H' nx
          have pin' : ∀ b ∈ fp, ∀ o, s7.heap.get? b = some o → s'.heap.get? b = some o ∧ H' b = none := fun b hb o e =>
            let z := I'.pin (b, o) (List.mem_append_right _ (List.mem_append_right _ (mem_pinsAt hb e)))
            ⟨z.1, z.2.1⟩
          have hl : (wipe σ vs).length = σ8.length := by rw [← hw8, wipe_length]
          refine ⟨m', hm, (I'.unpinned (pins := [])).weak hl (fun j v e => ?_), T.keep _ _ _ st7 fun b hb o e => (pin' b hb o e).1, fun b hb => ?_, w'⟩
          · rw [← hw8] at e
            exact (wipe_some e).1
          · obtain ⟨o, e, _⟩ := T.obj _ _ st7 b hb
            exact (pin' b hb o e).2
        cases b with
        | false =>
          simp only [Bool.false_eq_true, if_false] at q9 ⊢
          obtain ⟨m', hm', I', st', nf', w'⟩ := fin I9 q9
          exact seg_again rfl (ihm m' hm' (i + 1) s₀ s9 H9 (by omega) I' st' nf' w')
        | true =>
          simp only [if_true] at q9 ⊢
          have hy : ∀ v, yieldOut cenv v = yieldValue v := fun v => by simp only [yieldOut, hco, Bool.false_eq_true, if_false]
          simp only [hy]
          rw [Sem.bind_eq_wrap', Sem.bind_eq_wrap', Sem.wrap_wrap, Sem.wrap_wrap]
          refine seg_wrap ?_
          rw [ov]
          refine thnF (he.run _ s9 σ8 H9 _ I9 q9) fun z s10 ⟨yv, H10, I10, r10, c10⟩ => ?_
          refine seg_at (seg_yield rfl rfl rfl ⟨_, σ8, yv, H10, Nx H10, I10, r10, c10, fun s' k os hb nx => ?_⟩)
          obtain ⟨m', hm', I', st', nf', w'⟩ := fin (Inv.keepS I10 os k hb) nx
          exact seg_again rfl (ihn m' (i + 1) s' s' H10 (by omega) I' st' nf' w')
theorem gx_begin {elt iter : Expr} {ifs : List Expr} {scope : Scope} {pos : Pos} {it : Addr} {J : It} {tn : Nat → Heap → Prop} {g : TG} {tt : TT} {te : TE} {vs : List Nat} {σ : L2.St} {W : Nat → Nat → Hp → Prop} {Qe : Hp → Prop} {cons : V → Hp → Prop → Prop}
    (hc : X.calm = true) (hco : cenv.scope.isCoroutine = false) (T : Turn X.prog X.w X.K tg J fp it tn) (hg : PG (gX X s4 H4 cenv fp pn) tg g) (ht : PTs (gX X s4 H4 cenv fp pn) ifs tt) (he : PE (gX X s4 H4 cenv fp pn) elt te)
    (turn : GTurns J g tt te vs σ W Qe cons) (hpf : ∀ b ∈ fp, ∀ p ∈ pn, p.1 ≠ b) (n m : Nat) (s₀ s : Shared) (H : Hp) (hm : m < n) (I : Inv (gX X s4 H4 cenv fp pn) [] (wipe σ vs) H s) (st : tn 0 s.heap) (nf : ∀ b ∈ fp, H b = none) (w : W 0 m H) :
      Seg (model X.prog X.w) X.A.in1.in1 (fun _ _ r s1 => r = .ok .next ∧ GRe (gX X s4 H4 cenv fp pn) (wipe σ vs) fp Qe s1) (GYe (gX X s4 H4 cenv fp pn) cons) n s₀
        (.compStart (.GeneratorExp elt [⟨tg, iter, ifs, 0⟩] scope pos) 0 (.ref it) .none cenv)
        ((model X.prog X.w).den (.compStart (.GeneratorExp elt [⟨tg, iter, ifs, 0⟩] scope pos) 0 (.ref it) .none cenv)) [] s := by
  have loop := gx_loop (iter := iter) (scope := scope) (pos := pos) hc hco T hg ht he turn hpf n m 0 s₀ s H hm I st nf w
  show Seg _ X.A.in1.in1 _ _ _ s₀ _ ((compStart (.GeneratorExp elt [⟨tg, iter, ifs, 0⟩] scope pos) 0 (.ref it) .none cenv).onRaise (leaving cenv)) [] s
  unfold compStart
  rw [Sem.onRaise_eq_wrap]
  show Seg _ X.A.in1.in1 _ _ _ s₀ _ ((ask >>= _).wrap _ _ _ _) [] s
  refine seg_bind_wrap (wpAny_askSetting ?_)
  split
  · exact seg_again rfl loop
  · first
      | exact seg_bind_wrap (wpAny_rule (seg_bind_wrap (wpAny_standAt (seg_bind_wrap (T.self _ 0 s _ _ st (seg_again rfl loop))))))
      | (refine seg_bind_wrap (wpAny_rule ?_); show Seg _ X.A.in1.in1 _ _ _ s₀ _ ((standAt iter.pos >>= _).wrap _ _ _ _) [] s; exact seg_bind_wrap (wpAny_standAt (seg_bind_wrap (T.self _ 0 s _ _ st (seg_again rfl loop)))))

/-- the generator stands ready: drawn at X.A's third level -/
def GReady (X : Cx) (Xg : Cx) (σw : L2.St) (fp : List Addr) (Qe : Hp → Prop) (cons : V → Hp → Prop → Prop) (a : Addr) (g n : Nat) (s : Shared) : Prop :=
  s.heap.IsGen a g ∧ s.heap.NoLimit ∧ ∃ gs, s.gens[g]? = some gs ∧ gs.Goes (model X.prog X.w) X.A.in1.in1 (fun _ _ r s1 => r = .ok .next ∧ GRe Xg σw fp Qe s1) (GYe Xg cons) n (.send .none) (s.setGen g .running)
/-- the generator's own object is pinned -/
def GPin (Xg : Cx) (a : Addr) (g : Nat) : Prop := ∃ (go : Obj) (nm qn : Value), (a, go) ∈ Xg.pn ∧ go.cls = .type "generator" ∧ go.data = .fields #[.int g 0, nm, qn] ∧ go.slots = #[]
theorem GPin.is {Xg : Cx} {a : Addr} {g : Nat} (h : GPin Xg a g) {pins : List (Addr × Obj)} {σ : L2.St} {H : Hp} {s : Shared} (I : Inv Xg pins σ H s) : s.heap.IsGen a g := by
  obtain ⟨go, nm, qn, hm, h1, h2, h3⟩ := h
  exact ⟨go, nm, qn, (I.pin (a, go) (List.mem_append_left _ hm)).1, h1, h2, h3⟩
/-- one draw -/
theorem gx_next {Xg : Cx} {fp : List Addr} {Qe : Hp → Prop} {cons : V → Hp → Prop → Prop} {a : Addr} {g n : Nat} {s : Shared} {Q : Option Value → Shared → Prop} {E : Value → Shared → Prop} (hr : Room 1 X.A) (hp : GPin Xg a g)
    (h : GReady X Xg σw fp Qe cons a g n s)
    (hend : ∀ H s', Inv Xg [] σw H s' → (∀ b ∈ fp, H b = none) → Qe H → Q none s')
    (hitem : ∀ (pins' : List (Addr × Obj)) (σ' : L2.St) (y : V) (H : Hp) (N : Prop) (v : Value) (s' : Shared), Inv Xg pins' σ' H s' → RelV y v → cons y H N → (N → ∃ k, n = k + 1 ∧ GReady X Xg σw fp Qe cons a g k s') → Q (some v) s') :
    wpAny (model X.prog X.w) X.A.in1 (pyNext (.ref a)) Q E s := by
  obtain ⟨hg, hl, gs, hgs, hgo⟩ := h
  have hgl : g < s.gens.size := (Array.getElem?_eq_some_iff.mp hgs).1
  refine wpAny_gsz (n := g + 1) hgl (wpAny_pyNext_genexpQ (A := X.A.in1) (P := fun _ _ s1 => GRe Xg σw fp Qe s1) hr.hd hl hr.depth hg hgs hgo (fun v s₁ gs' hb hv => ?_) (fun s₁ hpe h' hk => ?_))
  · intro hsz
    obtain ⟨pins', σ', y, H, N, I, ry, c, kap⟩ := hv
    have hsz1 : g < s₁.gens.size := by
      have q : (s₁.setGen g gs').gens.size = s₁.gens.size := setGen_size _ _ _
      have hsz' : g + 1 ≤ (s₁.setGen g gs').gens.size := hsz
      omega
    have hbare : AllBare (s₁.setGen g gs').gens := allBare_setGen I.bare hb
    have I2 : Inv Xg pins' σ' H (s₁.setGen g gs') := Inv.keepS I rfl (fun _ _ e => e) hbare
    refine hitem pins' σ' y H N v _ I2 ry c fun hN => ?_
    cases n with
    | zero => exact False.elim (kap s₁ (fun _ _ e => e) rfl I.bare hN)
    | succ k =>
      refine ⟨k, rfl, hp.is I2, I2.nolimit, gs', setGen_at hsz1, ?_⟩
      exact kap _ (fun _ _ e => e) rfl (allBare_setGen hbare rfl) hN
  · intro _
    obtain ⟨H, I, nf, qe⟩ := hpe
    exact hend H _ (Inv.keepS I rfl hk (allBare_setGen I.bare rfl)) nf qe
end

/-! ### all, any -/
section
variable {X : Cx}
def consAll (Q : Bool → Hp → Prop) : V → Hp → Prop → Prop := fun y H N => ∃ b, y = .bl b ∧ if b = true then N else Q false H
def consAny (Q : Bool → Hp → Prop) : V → Hp → Prop → Prop := fun y H N => ∃ b, y = .bl b ∧ if b = true then Q true H else N
theorem all_loop {Xg : Cx} {fp : List Addr} {Q : Bool → Hp → Prop} {a : Addr} {g : Nat} {σw : L2.St} {R : Result → Shared → Prop} (hr : Room 1 X.A) (hp : GPin Xg a g)
    (hR : ∀ b pins' σ' H s', Inv Xg pins' σ' H s' → Q b H → R (.ok (.ret (.bool b))) s') :
    ∀ (n : Nat) (s : Shared), GReady X Xg σw fp (Q true) (consAll Q) a g n s → codeAny (model X.prog X.w) X.A (.builtin "all.loop" ⟨[.ref a], []⟩) R s := by
  intro n
  induction n with
  | zero =>
    intro s h
    refine codeAny_builtin F.entry_all_loop ?_
    rw [Around.under_plainId F.plain_all_loop _]
    show wpAny _ X.A.in1 (pyNext (.ref a) >>= _) _ _ s
    refine wpAny_bind (gx_next hr hp h (fun H s' I nf qe => ?_) fun pins' σ' y H N v s' I ry c nx => ?_)
    · exact wpAny_bind (wpAny_rule (wpAny_pure (hR true _ _ H _ I qe)))
    · obtain ⟨b, rfl, c⟩ := c
      obtain rfl : v = Value.bool b := ry
      refine wpAny_bind (wpAny_holding (wpAny_truthy_bool ?_))
      refine wpAny_bind (wpAny_letGo ?_)
      cases b with
      | true =>
        simp only [if_true] at c ⊢
        obtain ⟨k, e, _⟩ := nx c
        cases e
      | false =>
        simp only [Bool.false_eq_true, if_false] at c ⊢
        exact wpAny_bind (wpAny_rule (wpAny_pure (hR false _ _ H _ I c)))
  | succ n ih =>
    intro s h
    refine codeAny_builtin F.entry_all_loop ?_
    rw [Around.under_plainId F.plain_all_loop _]
    show wpAny _ X.A.in1 (pyNext (.ref a) >>= _) _ _ s
    refine wpAny_bind (gx_next hr hp h (fun H s' I nf qe => ?_) fun pins' σ' y H N v s' I ry c nx => ?_)
    · exact wpAny_bind (wpAny_rule (wpAny_pure (hR true _ _ H _ I qe)))
    · obtain ⟨b, rfl, c⟩ := c
      obtain rfl : v = Value.bool b := ry
      refine wpAny_bind (wpAny_holding (wpAny_truthy_bool ?_))
      refine wpAny_bind (wpAny_letGo ?_)
      cases b with
      | true =>
        simp only [if_true] at c ⊢
        obtain ⟨k, e, h'⟩ := nx c
        cases e
        exact wpAny_pure ⟨plainId_quiet F.plain_all_loop _, ih s' h'⟩
      | false =>
        simp only [Bool.false_eq_true, if_false] at c ⊢
        exact wpAny_bind (wpAny_rule (wpAny_pure (hR false _ _ H _ I c)))
theorem any_loop {Xg : Cx} {fp : List Addr} {Q : Bool → Hp → Prop} {a : Addr} {g : Nat} {σw : L2.St} {R : Result → Shared → Prop} (hr : Room 1 X.A) (hp : GPin Xg a g)
    (hR : ∀ b pins' σ' H s', Inv Xg pins' σ' H s' → Q b H → R (.ok (.ret (.bool b))) s') :
    ∀ (n : Nat) (s : Shared), GReady X Xg σw fp (Q false) (consAny Q) a g n s → codeAny (model X.prog X.w) X.A (.builtin "any.loop" ⟨[.ref a], []⟩) R s := by
  intro n
  induction n with
  | zero =>
    intro s h
    refine codeAny_builtin F.entry_any_loop ?_
    rw [Around.under_plainId F.plain_any_loop _]
    show wpAny _ X.A.in1 (pyNext (.ref a) >>= _) _ _ s
    refine wpAny_bind (gx_next hr hp h (fun H s' I nf qe => ?_) fun pins' σ' y H N v s' I ry c nx => ?_)
    · exact wpAny_bind (wpAny_rule (wpAny_pure (hR false _ _ H _ I qe)))
    · obtain ⟨b, rfl, c⟩ := c
      obtain rfl : v = Value.bool b := ry
      refine wpAny_bind (wpAny_holding (wpAny_truthy_bool ?_))
      refine wpAny_bind (wpAny_letGo ?_)
      cases b with
      | false =>
        simp only [Bool.false_eq_true, if_false] at c ⊢
        obtain ⟨k, e, _⟩ := nx c
        cases e
      | true =>
        simp only [if_true] at c ⊢
        exact wpAny_bind (wpAny_rule (wpAny_pure (hR true _ _ H _ I c)))
  | succ n ih =>
    intro s h
    refine codeAny_builtin F.entry_any_loop ?_
    rw [Around.under_plainId F.plain_any_loop _]
    show wpAny _ X.A.in1 (pyNext (.ref a) >>= _) _ _ s
    refine wpAny_bind (gx_next hr hp h (fun H s' I nf qe => ?_) fun pins' σ' y H N v s' I ry c nx => ?_)
    · exact wpAny_bind (wpAny_rule (wpAny_pure (hR false _ _ H _ I qe)))
    · obtain ⟨b, rfl, c⟩ := c
      obtain rfl : v = Value.bool b := ry
      refine wpAny_bind (wpAny_holding (wpAny_truthy_bool ?_))
      refine wpAny_bind (wpAny_letGo ?_)
      cases b with
      | false =>
        simp only [Bool.false_eq_true, if_false] at c ⊢
        obtain ⟨k, e, h'⟩ := nx c
        cases e
        exact wpAny_pure ⟨plainId_quiet F.plain_any_loop _, ih s' h'⟩
      | true =>
        simp only [if_true] at c ⊢
        exact wpAny_bind (wpAny_rule (wpAny_pure (hR true _ _ H _ I c)))
end

/-! ### the making -/
section
variable {X : Cx} {pins : List (Addr × Obj)} {σ : L2.St} {H : Hp} {s : Shared}
/-- the generator expression's frame, whatever it captures -/
abbrev gE (X : Cx) (scope : Scope) (cl : List (Str × Addr)) (C : Addr) (code : Value) : Env := genEnv scope cl C code builtinsNs X.env
theorem gx_make {c P : Addr} {elt tg iter : Expr} {ifs : List Expr} {scope : Scope} {own : List (Str × Nat)} {gpos : Pos} {wi : TI} {g : TG} {tt : TT} {te : TE} {Qe : Hp → Prop} {cons : V → Hp → Prop → Prop} {Q' : Value → Shared → Prop}
    (hr : Room 1 X.A) (hc : X.calm = true) (hN : X.N.Nodup) (TB : LamX.TabB X.base X.mg c P) (hcode : X.env.code = .ref c) (ok : GOk X.N X.env.scope scope own) (hi : PI X tg iter wi)
    (hg : ∀ (s : Shared) (H : Hp) (C : Addr) (cl : List (Str × Addr)) (code : Value) (fp : List Addr) (pn : List (Addr × Obj)), PG (gX X s H (gE X scope cl C code) fp pn) tg g)
    (ht : ∀ (s : Shared) (H : Hp) (C : Addr) (cl : List (Str × Addr)) (code : Value) (fp : List Addr) (pn : List (Addr × Obj)), PTs (gX X s H (gE X scope cl C code) fp pn) ifs tt)
    (he : ∀ (s : Shared) (H : Hp) (C : Addr) (cl : List (Str × Addr)) (code : Value) (fp : List Addr) (pn : List (Addr × Obj)), PE (gX X s H (gE X scope cl C code) fp pn) elt te)
    (hs : ∀ v, genFold iter X.env v = pure v) (I : Inv X pins σ H s)
    (h : wi σ H fun J H1 => TabG H1 P ∧ ∀ H2, Tabbed P H1 H2 → ∃ W : Nat → Nat → Hp → Prop, (∃ m, W 0 m H2) ∧ GTurns J g tt te (own.map (·.2)) σ W Qe cons)
    (hQ : ∀ Xg fp a g n s5, GPin Xg a g → GReady X Xg (wipe σ (own.map (·.2))) fp Qe cons a g n s5 → (∀ pins' σ' H' s', Inv Xg pins' σ' H' s' → Inv X pins σ H' s') → Q' (.ref a) s5) :
    wpAny (model X.prog X.w) X.A (eval (.GeneratorExp elt [⟨tg, iter, ifs, 0⟩] scope gpos) X.env) Q' X.xe s := by
  have hfree : ∀ y ∈ scope.names, y.2 = .free → ∃ c, X.env.cells.lookup y.1 = some c := fun y hy e => by
    rcases ok.blk.free y hy e with k | k
    · exact I.ok.has _ (.inl k)
    · exact I.ok.has _ (.inr k)
  refine wpAny_GeneratorExp_make ok.co (closure_ok hfree) ok.cell ok.dot ok.blk.kind hr.depth ?_ hs
  refine thn (hi.run pins s σ H _ I h) fun xv s1 hx => thn hx fun itv s2 h2 => ?_
  obtain ⟨it, fp, tn, J, H2, rfl, I2, T, st2, f2, ⟨ps, hP, htr⟩, q2⟩ := h2
  have hPs : s2.heap.get? P = some { cls := .none, data := .fields ps } := I2.hok P _ hP
  have hPlt : P < s2.heap.objs.size := Heap.lt_size hPs
  have cd : PySem.W.CodeHd s2.heap c P := TB.code.keeps fun b u e => I2.bk b u e
  have lim2 : s2.heap.NoLimit := I2.nolimit
  have sz : ∀ b ∈ fp, b < s2.heap.objs.size := fun b hb => by
    obtain ⟨o, e, _⟩ := T.obj _ _ st2 b hb
    exact Heap.lt_size e
  have Pfp : ∀ b ∈ fp, b ≠ P := fun b hb e => by
    have z := (f2 b hb).1
    rw [e, hP] at z
    cases z
  have cont : ∀ (code : Value) (h3 : Heap) (tk : Nat) (ps' : Array Value), Heap.ExtBut P s2.heap h3 → s2.heap.objs.size ≤ h3.objs.size → h3.get? P = some { cls := .none, data := .fields ps' } → (∃ more, ps' = ps ++ more) → TriplesOk ps'.toList →
      wpAny (model X.prog X.w) X.A (builtinsFor X.env.globals X.env.builtins) (fun bi s₄ =>
        ∀ h', h'.Ns s₄.heap.objs.size (fun y => if y = ".0" then some (Value.ref it) else none) → Heap.SameBut s₄.heap.objs.size (s₄.heap.push { cls := .type "frame", data := .dict #[] }) h' →
          Q' (.ref h'.objs.size) { s₄ with
            gens := s₄.gens.push (.fresh (.compStart (.GeneratorExp elt [⟨tg, iter, ifs, 0⟩] scope gpos) 0 (.ref it) .none (genEnv scope (cloFrom X.env.cells scope.names []) s₄.heap.objs.size code bi X.env))),
            toks := s₄.toks + 1 + 1 + 1,
            heap := h'.push { cls := .type "generator", data := .fields #[.int s₄.gens.size 0, .str "<genexpr>" (s₄.toks + 1), .str (X.env.qual ++ "<genexpr>") (s₄.toks + 1 + 1)] } }) X.xe { s2 with heap := h3, toks := tk } := by
    intro code h3 tk ps' hx hsz hP3 hmore ht3
    obtain ⟨more, rfl⟩ := hmore
    obtain ⟨bm, ob, e1, e2, e3, e4, e5, e6, e7, e8⟩ := TB.bm
    refine wpAny_builtinsFor (m := X.mg) (by rw [I2.ok.glob]; exact (I2.mod.glob.keeps I2.bk).extBut hx TB.gP) e1 e2 (hx _ _ e4 (I2.bk _ _ e5)) e6 e7 e8 ?_
    intro h' hn' hs'
    -- the def's state behind the code
    have I4 : Inv X pins σ (upd H2 P (.tbl (ps ++ more))) { s2 with heap := h3, toks := tk } := inv_tab (g' := s2.gens) (d' := s2.drawn) I2 hP hx hP3 I2.bare
    obtain ⟨W, ⟨m0, w0⟩, turn⟩ := q2 _ (⟨⟨ps ++ more, upd_same, ht3⟩, fun b hb => upd_ne hb⟩ : Tabbed P H2 (upd H2 P (.tbl (ps ++ more))))
    generalize hH4 : upd H2 P (.tbl (ps ++ more)) = H4 at I4 w0
    have nf4 : ∀ b ∈ fp, H4 b = none := fun b hb => by rw [← hH4, upd_ne (Pfp b hb)]; exact (f2 b hb).1
    have f4 : ∀ b ∈ fp, FpOk X pins H4 b ∧ b < ({ s2 with heap := h3, toks := tk } : Shared).heap.objs.size := fun b hb => ⟨⟨nf4 b hb, (f2 b hb).2⟩, Nat.lt_of_lt_of_le (sz b hb) hsz⟩
    have st4 : tn 0 h3 := T.keep _ _ _ st2 fun b hb o e => hx b o (Pfp b hb) e
    have hsz' : h'.objs.size = h3.objs.size + 1 := by rw [hs'.1, Heap.size_push]
    have keep' : ∀ b o, h3.get? b = some o → h'.get? b = some o := fun b o e => hs'.extBut b o (Nat.ne_of_lt (Heap.lt_size e)) (Heap.get?_push_of_some _ e)
    generalize hgo : ({ cls := .type "generator", data := .fields #[.int ({ s2 with heap := h3, toks := tk } : Shared).gens.size 0, .str "<genexpr>" (({ s2 with heap := h3, toks := tk } : Shared).toks + 1), .str (X.env.qual ++ "<genexpr>") (({ s2 with heap := h3, toks := tk } : Shared).toks + 1 + 1)] } : Obj) = go
    have keep5 : ∀ b o, h3.get? b = some o → (h'.push go).get? b = some o := fun b o e => Heap.get?_push_of_some _ (keep' b o e)
    have hga : (h'.push go).get? h'.objs.size = some go := Heap.get?_push_size _ (by rw [← hgo]; rfl)
    have hgd : ∀ v, go.data ≠ .cell v := fun v z => by rw [← hgo] at z; cases z
    have apart : ∀ b ∈ fp, h'.objs.size ≠ b := fun b hb e => by
      have h1 : b < h3.objs.size := (f4 b hb).2
      have h2 : b < h'.objs.size := by rw [hsz']; exact Nat.lt_succ_of_lt h1
      rw [e] at h2
      exact Nat.lt_irrefl _ h2
    have start : ∀ s5 : Shared, s5.os = s2.os → AllBare s5.gens → (∀ b o, (h'.push go).get? b = some o → s5.heap.get? b = some o) →
        Inv (gX X { s2 with heap := h3, toks := tk } H4 (gE X scope (cloFrom X.env.cells scope.names []) h3.objs.size code) fp [(h'.objs.size, go)]) [] (wipe σ (own.map (·.2))) H4 s5 := fun s5 os hb k =>
      gx_start I4 ok hN hr.hd f4 os hb (fun b o e => k b o (keep5 b o e)) ⟨_, (hn'.push go).keeps k⟩ (by show h3.objs.size < h'.objs.size; omega) (k _ _ hga) hgd
    refine hQ (gX X { s2 with heap := h3, toks := tk } H4 (gE X scope (cloFrom X.env.cells scope.names []) h3.objs.size code) fp [(h'.objs.size, go)]) fp h'.objs.size s2.gens.size (m0 + 1) _ ⟨go, _, _, by simp, by rw [← hgo], by rw [← hgo], by rw [← hgo]⟩ ?_ fun pins' σ' H' s' I' => ?_
    · refine ⟨⟨go, _, _, hga, by rw [← hgo], by rw [← hgo], by rw [← hgo]⟩, ?_, _, Array.getElem?_push_size .., rfl, ?_⟩
      · exact (lim2.extBut hx (fun e => by
          obtain ⟨_, hns, _⟩ := lim2
          obtain ⟨o', es, ep, ho, hd, _⟩ := hns
          rw [e, hPs] at ho
          cases ho
          cases hd)).keeps keep5
      · refine gx_begin hc ok.co T (hg _ _ _ _ _ _ _) (ht _ _ _ _ _ _ _) (he _ _ _ _ _ _ _) turn (fun b hb p hp => ?_) (m0 + 1) m0 _ _ H4 (Nat.lt_succ_self _) (start _ rfl (allBare_setGen (AllBare.push I2.bare rfl) rfl) fun _ _ e => e) ?_ nf4 w0
        · have e : p = (h'.objs.size, go) := by simpa using hp
          subst e
          exact apart b hb
        · exact T.keep _ _ _ st4 fun b _ o e => keep5 b o e
    · exact I4.call' (ch := fp) I'.os I'.base I'.hok I'.bare fun b hb => ⟨(f4 b hb).1.2.2.2.1, (f4 b hb).1.2.1, (f4 b hb).1.2.2.2.2.1, (f4 b hb).1.2.2.2.2.2⟩
  refine ⟨lim2, ?_⟩
  cases hf : codeAmong gpos ps.toList with
  | none =>
    refine wpAny_genexprCodeX hcode (cd.code hPs htr) (cd.tab hPs) hf fun c' h' tk hx hge hlt hco' _ htab' _ => ?_
    obtain ⟨o1, vs, f1, tf, fl, tg, inF, tx, tt, op, _, _, _, _, _, _, _, _, _, htr, _⟩ := hco'
    exact cont _ h' tk _ hx (Nat.le_trans hge (Nat.le_of_lt hlt)) htab'.2 ⟨_, rfl⟩ htr
  | some cv =>
    refine wpAny_genexprCode_hit hcode (cd.code hPs htr) hf ?_
    exact cont cv s2.heap s2.toks ps (Heap.ExtBut.refl _ _) (Nat.le_refl _) hPs ⟨#[], by simp⟩ htr

/-- all(elt for tg in iter if ..): W by the turn and a measure -/
def tAllG (P : Addr) (wi : TI) (g : TG) (tt : TT) (te : TE) (vs : List Nat) : TE := fun σ H Q => wi σ H fun J H1 => TabG H1 P ∧ ∀ H2, Tabbed P H1 H2 → ∃ W : Nat → Nat → Hp → Prop, (∃ m, W 0 m H2) ∧ GTurns J g tt te vs σ W (fun H => Q (.bl true) H) (consAll fun b H => Q (.bl b) H)
def tAnyG (P : Addr) (wi : TI) (g : TG) (tt : TT) (te : TE) (vs : List Nat) : TE := fun σ H Q => wi σ H fun J H1 => TabG H1 P ∧ ∀ H2, Tabbed P H1 H2 → ∃ W : Nat → Nat → Hp → Prop, (∃ m, W 0 m H2) ∧ GTurns J g tt te vs σ W (fun H => Q (.bl false) H) (consAny fun b H => Q (.bl b) H)
theorem boot_all : bootBuiltins "all" = some (.builtin "all") := by decide +kernel
theorem pe_allG {c P : Addr} {elt tg iter : Expr} {ifs : List Expr} {scope : Scope} {own : List (Str × Nat)} {p pos gpos : Pos} {wi : TI} {g : TG} {tt : TT} {te : TE}
    (hr : Room 1 X.A) (hc : X.calm = true) (hN : X.N.Nodup) (hgl : Gl X "all") (hm : X.mg "all" = none) (TB : LamX.TabB X.base X.mg c P) (hcode : X.env.code = .ref c) (ok : GOk X.N X.env.scope scope own) (hi : PI X tg iter wi)
    (hg : ∀ (s : Shared) (H : Hp) (C : Addr) (cl : List (Str × Addr)) (code : Value) (fp : List Addr) (pn : List (Addr × Obj)), PG (gX X s H (gE X scope cl C code) fp pn) tg g)
    (ht : ∀ (s : Shared) (H : Hp) (C : Addr) (cl : List (Str × Addr)) (code : Value) (fp : List Addr) (pn : List (Addr × Obj)), PTs (gX X s H (gE X scope cl C code) fp pn) ifs tt)
    (he : ∀ (s : Shared) (H : Hp) (C : Addr) (cl : List (Str × Addr)) (code : Value) (fp : List Addr) (pn : List (Addr × Obj)), PE (gX X s H (gE X scope cl C code) fp pn) elt te)
    (hs : ∀ v, genFold iter X.env v = pure v := by intro _; rfl)
    (hst : starEach [.GeneratorExp elt [⟨tg, iter, ifs, 0⟩] scope gpos] X.env = (false, eval (.GeneratorExp elt [⟨tg, iter, ifs, 0⟩] scope gpos) X.env) :: starEach [] X.env := by rfl) :
    PE X (.Call (.Name "all" p) [.GeneratorExp elt [⟨tg, iter, ifs, 0⟩] scope gpos] [] pos) (tAllG P wi g tt te (own.map (·.2))) := by
  refine ⟨fun pins s σ H Q I h => ?_⟩
  refine wpAny_Call_Name_kw (ld_blt I hgl hm boot_all ?_)
  refine PyProof.Rows.callWith_builtin1 ?_ hst (by rfl)
  rw [hst]
  show wpAny _ _ (spliced ((false, eval (.GeneratorExp elt [⟨tg, iter, ifs, 0⟩] scope gpos) X.env) :: backTo pos (starEach [] X.env))) _ _ s
  refine Calls.spliced_cons (gx_make (Qe := fun H => Q (.bl true) H) (cons := consAll fun b H => Q (.bl b) H) hr hc hN TB hcode ok hi hg ht he hs I h fun Xg fp a gg n s5 hp hG back => ?_)
  refine Calls.spliced_nil ?_
  refine call_function_tree F.kind_all F.plain_all F.entry_all (F.args_all1 _) ?_
  unfold Builtin.«all»
  refine wpAny_bind (m := oneArg "all" _) (wpAny_pure ?_)
  refine wpAny_bind (wpAny_pyIter_gen hG.1 ?_)
  refine wpAny_pure ⟨plainId_quiet F.plain_all_loop _, all_loop (Q := fun b H => Q (.bl b) H) hr hp (fun b pins' σ' H' s' I' q => ?_) n s5 hG⟩
  exact ⟨.bl b, H', back _ _ _ _ I', rfl, q⟩
theorem pe_anyG {c P : Addr} {elt tg iter : Expr} {ifs : List Expr} {scope : Scope} {own : List (Str × Nat)} {p pos gpos : Pos} {wi : TI} {g : TG} {tt : TT} {te : TE}
    (hr : Room 1 X.A) (hc : X.calm = true) (hN : X.N.Nodup) (hgl : Gl X "any") (hm : X.mg "any" = none) (TB : LamX.TabB X.base X.mg c P) (hcode : X.env.code = .ref c) (ok : GOk X.N X.env.scope scope own) (hi : PI X tg iter wi)
    (hg : ∀ (s : Shared) (H : Hp) (C : Addr) (cl : List (Str × Addr)) (code : Value) (fp : List Addr) (pn : List (Addr × Obj)), PG (gX X s H (gE X scope cl C code) fp pn) tg g)
    (ht : ∀ (s : Shared) (H : Hp) (C : Addr) (cl : List (Str × Addr)) (code : Value) (fp : List Addr) (pn : List (Addr × Obj)), PTs (gX X s H (gE X scope cl C code) fp pn) ifs tt)
    (he : ∀ (s : Shared) (H : Hp) (C : Addr) (cl : List (Str × Addr)) (code : Value) (fp : List Addr) (pn : List (Addr × Obj)), PE (gX X s H (gE X scope cl C code) fp pn) elt te)
    (hs : ∀ v, genFold iter X.env v = pure v := by intro _; rfl)
    (hst : starEach [.GeneratorExp elt [⟨tg, iter, ifs, 0⟩] scope gpos] X.env = (false, eval (.GeneratorExp elt [⟨tg, iter, ifs, 0⟩] scope gpos) X.env) :: starEach [] X.env := by rfl) :
    PE X (.Call (.Name "any" p) [.GeneratorExp elt [⟨tg, iter, ifs, 0⟩] scope gpos] [] pos) (tAnyG P wi g tt te (own.map (·.2))) := by
  refine ⟨fun pins s σ H Q I h => ?_⟩
  refine wpAny_Call_Name_kw (ld_blt I hgl hm boot_any ?_)
  refine PyProof.Rows.callWith_builtin1 ?_ hst (by rfl)
  rw [hst]
  show wpAny _ _ (spliced ((false, eval (.GeneratorExp elt [⟨tg, iter, ifs, 0⟩] scope gpos) X.env) :: backTo pos (starEach [] X.env))) _ _ s
  refine Calls.spliced_cons (gx_make (Qe := fun H => Q (.bl false) H) (cons := consAny fun b H => Q (.bl b) H) hr hc hN TB hcode ok hi hg ht he hs I h fun Xg fp a gg n s5 hp hG back => ?_)
  refine Calls.spliced_nil ?_
  refine call_function_tree F.kind_any F.plain_any F.entry_any (F.args_any1 _) ?_
  unfold Builtin.«any»
  refine wpAny_bind (m := oneArg "any" _) (wpAny_pure ?_)
  refine wpAny_bind (wpAny_pyIter_gen hG.1 ?_)
  refine wpAny_pure ⟨plainId_quiet F.plain_any_loop _, any_loop (Q := fun b H => Q (.bl b) H) hr hp (fun b pins' σ' H' s' I' q => ?_) n s5 hG⟩
  exact ⟨.bl b, H', back _ _ _ _ I', rfl, q⟩
end
end GX

set_option Elab.async false
set_option linter.all false
set_option maxRecDepth 100000
set_option maxHeartbeats 2000000
/-! Gx2: a generator expression of two clauses, drawn by all and any. -/
namespace GX
open PySem PySem.Spec PyProof.Rows L2 GxR GenW

section
variable {elt t1 it1 t2 it2 : Expr} {ifs1 ifs2 : List Expr} {scope : Scope} {pos : Pos}
theorem compTurn_gen2_in (it acc : Value) (env : Env) :
    compTurn (.GeneratorExp elt [⟨t1, it1, ifs1, 0⟩, ⟨t2, it2, ifs2, 0⟩] scope pos) 1 it acc env = (do
      standAt it2.pos
      match ← pyNext it with
      | none => pure (.done .next)
      | some v =>
        letOwnedTupleGo t2 it v
        assign t2 env v
        let mut ok := true
        for c in ifs2 do
          if ok then ok ← isTrue c env (eval c env)
        if ok then
          (do let v ← eval elt env; standAt elt.pos; let _ ← yieldOut env v)
        again (.compLoop (.GeneratorExp elt [⟨t1, it1, ifs1, 0⟩, ⟨t2, it2, ifs2, 0⟩] scope pos) 1 it acc env)) := by rfl
theorem compTurn_gen2_out (it acc : Value) (env : Env) :
    compTurn (.GeneratorExp elt [⟨t1, it1, ifs1, 0⟩, ⟨t2, it2, ifs2, 0⟩] scope pos) 0 it acc env = (do
      standAt it1.pos
      match ← pyNext it with
      | none => pure (.done .next)
      | some v =>
        letOwnedTupleGo t1 it v
        assign t1 env v
        let mut ok := true
        for c in ifs1 do
          if ok then ok ← isTrue c env (eval c env)
        if ok then
          let x ← eval it2 env
          standAt it2.pos
          let x ← foldedSetIterable it2 env x
          let _ ← runOwn (.compStart (.GeneratorExp elt [⟨t1, it1, ifs1, 0⟩, ⟨t2, it2, ifs2, 0⟩] scope pos) 1 (← holding [x] (pyIter x)) acc env) env
        again (.compLoop (.GeneratorExp elt [⟨t1, it1, ifs1, 0⟩, ⟨t2, it2, ifs2, 0⟩] scope pos) 0 it acc env)) := by rfl
theorem over2_loop {A : Around} {it acc it0 acc0 : Value} {cenv : Env} {k : Result → Sem Fin} {g : Bool} {l : List Value} {p : Pos} {kp : List Value} :
    A.over (.compLoop (.GeneratorExp elt [⟨t1, it1, ifs1, 0⟩, ⟨t2, it2, ifs2, 0⟩] scope pos) 1 it acc cenv) [.ret k none g l (.compLoop (.GeneratorExp elt [⟨t1, it1, ifs1, 0⟩, ⟨t2, it2, ifs2, 0⟩] scope pos) 0 it0 acc0 cenv) p kp] = A.deeper cenv := by
  obtain ⟨hd, d, fr, gs, u⟩ := A
  simp [Around.over, Around.deeper, marksOver, frameCount, unitsOf, envsOf, guardsOf, pushEnvs, pushGuards, Code.envs, Code.env?, Code.isFrame, Code.guards, Code.isGuard, Code.weight, Code.frames, Code.isCreation, Code.isCaller, Code.cUnits, Frame.where_, Frame.marks]
  rfl
theorem over2_start {A : Around} {it acc it0 acc0 : Value} {cenv : Env} {k : Result → Sem Fin} {g : Bool} {l : List Value} {p : Pos} {kp : List Value} :
    A.over (.compStart (.GeneratorExp elt [⟨t1, it1, ifs1, 0⟩, ⟨t2, it2, ifs2, 0⟩] scope pos) 1 it acc cenv) [.ret k none g l (.compLoop (.GeneratorExp elt [⟨t1, it1, ifs1, 0⟩, ⟨t2, it2, ifs2, 0⟩] scope pos) 0 it0 acc0 cenv) p kp] = A.deeper cenv := by
  obtain ⟨hd, d, fr, gs, u⟩ := A
  simp [Around.over, Around.deeper, marksOver, frameCount, unitsOf, envsOf, guardsOf, pushEnvs, pushGuards, Code.envs, Code.env?, Code.isFrame, Code.guards, Code.isGuard, Code.weight, Code.frames, Code.isCreation, Code.isCaller, Code.cUnits, Frame.where_, Frame.marks]
  rfl
end

section
variable {X : Cx} {s4 : Shared} {H4 : Hp} {cenv : Env} {fp : List Addr} {pn : List (Addr × Obj)}
/-- what is to be shown of the turns of the second clause -/
def GTurns1 (J : It) (g : TG) (tt : TT) (te : TE) (vs1 : List Nat) (σ2 : L2.St) (W1 : Nat → Nat → Hp → Prop) (Out : Nat → Hp → Prop) (cons : V → Hp → Prop → Prop) : Prop := ∀ j m H, W1 j m H →
  (J.stop j H ∧ Out m H) ∨ (J.go j H ∧ ∃ Nx : Hp → Prop, (∀ H', Nx H' → ∃ m', m' < m ∧ W1 (j + 1) m' H') ∧ ∀ x H', J.yld j H x H' → g x (wipe σ2 vs1) H' fun σ3 H3 => wipe σ3 vs1 = wipe σ2 vs1 ∧ tt σ3 H3 fun b H4 =>
    if b = true then te σ3 H4 fun y H5 => cons y H5 (Nx H5) else Nx H4)
/-- .. of both: W by the turn and a measure that falls in all turns -/
def GTurns2 (J : It) (g : TG) (tt : TT) (wi1 : TI) (g1 : TG) (tt1 : TT) (te : TE) (vs vs1 : List Nat) (σ : L2.St) (W : Nat → Nat → Hp → Prop) (Qe : Hp → Prop) (cons : V → Hp → Prop → Prop) : Prop := ∀ i m H, W i m H →
  (J.stop i H ∧ Qe H) ∨ (J.go i H ∧ ∀ x H', J.yld i H x H' → g x (wipe σ vs) H' fun σ2 H2 => wipe σ2 vs = wipe σ vs ∧ tt σ2 H2 fun b H3 =>
    if b = true then wi1 σ2 H3 fun J1 H4 => ∃ W1 : Nat → Nat → Hp → Prop, (∃ m1, m1 < m ∧ W1 0 m1 H4) ∧ GTurns1 J1 g1 tt1 te vs1 σ2 W1 (fun m1 H => ∃ m', m' < m1 ∧ W (i + 1) m' H) cons
    else ∃ m', m' < m ∧ W (i + 1) m' H3)
theorem gx2_all {elt t1 it1 t2 it2 : Expr} {ifs1 ifs2 : List Expr} {scope : Scope} {pos : Pos} {it : Addr} {J : It} {tn : Nat → Heap → Prop} {g g1 : TG} {tt tt1 : TT} {wi1 : TI} {te : TE} {vs vs1 : List Nat} {σ : L2.St} {W : Nat → Nat → Hp → Prop} {Qe : Hp → Prop} {cons : V → Hp → Prop → Prop}
    (hc : X.calm = true) (hco : cenv.scope.isCoroutine = false) (hv : ∀ i ∈ vs1, i ∈ vs) (T : Turn X.prog X.w X.K t1 J fp it tn) (hg : PG (gX X s4 H4 cenv fp pn) t1 g) (ht : PTs (gX X s4 H4 cenv fp pn) ifs1 tt)
    (hi1 : PI (gX X s4 H4 cenv fp pn) t2 it2 wi1) (hg1 : PG (gX X s4 H4 cenv fp pn) t2 g1) (ht1 : PTs (gX X s4 H4 cenv fp pn) ifs2 tt1) (he : PE (gX X s4 H4 cenv fp pn) elt te)
    (hs1 : ∀ x, foldedSetIterable it2 cenv x = pure x)
    (turn : GTurns2 J g tt wi1 g1 tt1 te vs vs1 σ W Qe cons) (hpf : ∀ b ∈ fp, ∀ p ∈ pn, p.1 ≠ b) :
    ∀ (n m : Nat), m < n →
      (∀ (i : Nat) (s₀ s : Shared) (H : Hp), Inv (gX X s4 H4 cenv fp pn) [] (wipe σ vs) H s → tn i s.heap → (∀ b ∈ fp, H b = none) → W i m H →
        Seg (model X.prog X.w) X.A.in1.in1 (fun _ _ r s1 => r = .ok .next ∧ GRe (gX X s4 H4 cenv fp pn) (wipe σ vs) fp Qe s1) (GYe (gX X s4 H4 cenv fp pn) cons) n s₀
          (.compLoop (.GeneratorExp elt [⟨t1, it1, ifs1, 0⟩, ⟨t2, it2, ifs2, 0⟩] scope pos) 0 (.ref it) .none cenv)
          ((model X.prog X.w).den (.compLoop (.GeneratorExp elt [⟨t1, it1, ifs1, 0⟩, ⟨t2, it2, ifs2, 0⟩] scope pos) 0 (.ref it) .none cenv)) [] s) ∧
      (∀ (i j : Nat) (hp7 : Heap) (σ8 : L2.St) (itb : Addr) (fp1 : List Addr) (tn1 : Nat → Heap → Prop) (J1 : It) (W1 : Nat → Nat → Hp → Prop) (kk : Result → Sem Fin) (gg : Bool) (l : List Value) (p : Pos) (s₀ s : Shared) (H : Hp),
        tn (i + 1) hp7 → (∀ b ∈ fp, ∃ o, hp7.get? b = some o) → wipe σ8 vs = wipe σ vs → Turn X.prog X.w X.K t2 J1 fp1 itb tn1 → (∀ b ∈ fp1, ∀ H', H' b = none → FpOk (gX X s4 H4 cenv fp pn) ([] ++ pinsAt fp hp7) H' b) →
        GTurns1 J1 g1 tt1 te vs1 σ8 W1 (fun m1 H => ∃ m', m' < m1 ∧ W (i + 1) m' H) cons → kk (.ok .next) = .pure (.again (.compLoop (.GeneratorExp elt [⟨t1, it1, ifs1, 0⟩, ⟨t2, it2, ifs2, 0⟩] scope pos) 0 (.ref it) .none cenv)) → gg = false →
        Inv (gX X s4 H4 cenv fp pn) ([] ++ pinsAt fp hp7) (wipe σ8 vs1) H s → tn1 j s.heap → (∀ b ∈ fp1, H b = none) → W1 j m H →
        Seg (model X.prog X.w) X.A.in1.in1 (fun _ _ r s1 => r = .ok .next ∧ GRe (gX X s4 H4 cenv fp pn) (wipe σ vs) fp Qe s1) (GYe (gX X s4 H4 cenv fp pn) cons) n s₀
          (.compLoop (.GeneratorExp elt [⟨t1, it1, ifs1, 0⟩, ⟨t2, it2, ifs2, 0⟩] scope pos) 1 (.ref itb) .none cenv)
          ((model X.prog X.w).den (.compLoop (.GeneratorExp elt [⟨t1, it1, ifs1, 0⟩, ⟨t2, it2, ifs2, 0⟩] scope pos) 1 (.ref itb) .none cenv)) [.ret kk none gg l (.compLoop (.GeneratorExp elt [⟨t1, it1, ifs1, 0⟩, ⟨t2, it2, ifs2, 0⟩] scope pos) 0 (.ref it) .none cenv) p []] s) := by
  have ov : X.A.in1.in1.over (.compLoop (.GeneratorExp elt [⟨t1, it1, ifs1, 0⟩, ⟨t2, it2, ifs2, 0⟩] scope pos) 0 (.ref it) .none cenv) [] = gA X.A cenv := over_loop0
  have ov1 : ∀ {itb : Addr} {kk : Result → Sem Fin} {gg : Bool} {l : List Value} {p : Pos}, X.A.in1.in1.over (.compLoop (.GeneratorExp elt [⟨t1, it1, ifs1, 0⟩, ⟨t2, it2, ifs2, 0⟩] scope pos) 1 (.ref itb) .none cenv) [.ret kk none gg l (.compLoop (.GeneratorExp elt [⟨t1, it1, ifs1, 0⟩, ⟨t2, it2, ifs2, 0⟩] scope pos) 0 (.ref it) .none cenv) p []] = gA X.A cenv := over2_loop
  have stat : ∀ {σ' : L2.St} {H' : Hp} {s' : Shared}, Inv (gX X s4 H4 cenv fp pn) [] σ' H' s' → (∀ b ∈ fp, H' b = none) → ∀ b ∈ fp, FpOk (gX X s4 H4 cenv fp pn) [] H' b := fun {σ' H' s'} I' hn b hb =>
    ⟨hn b hb, (I'.ok.exf b hb).1, I'.ok.exfs b hb, .inl hb, fun x c e => (I'.ok.exf b hb).2 x c e, fun p hp' => hpf b hb p (by simpa using hp')⟩
  have hy : ∀ v, yieldOut cenv v = yieldValue v := fun v => by simp only [yieldOut, hco, Bool.false_eq_true, if_false]
  intro n
  induction n with
  | zero => intro m hm; exact absurd hm (Nat.not_lt_zero _)
  | succ n ihn =>
    intro m
    induction m using Nat.strongRecOn with
    | ind m ihm =>
      intro hm
      refine ⟨fun i s₀ s H I st nf w => ?_, fun i j hp7 σ8 itb fp1 tn1 J1 W1 kk gg l p s₀ s H st7 ob7 hw8 T1 f1 turn1 hkk hgg I st nf w => ?_⟩
      · show Seg _ X.A.in1.in1 _ _ _ s₀ _ ((compTurn (.GeneratorExp elt [⟨t1, it1, ifs1, 0⟩, ⟨t2, it2, ifs2, 0⟩] scope pos) 0 (.ref it) .none cenv).onRaise (leaving cenv)) [] s
        rw [compTurn_gen2_out, Sem.onRaise_eq_wrap]
        refine seg_bind_wrap (wpAny_standAt ?_)
        refine seg_bind_wrap ?_
        rw [ov]
        rcases turn i m H w with ⟨stop, qe⟩ | ⟨go, step⟩
        · have td := T.done (gX X s4 H4 cenv fp pn) rfl rfl rfl hc i [] s _ H (fun _ _ => False) I (stat I nf) st stop
          refine thnF td fun r s6 ⟨hr, I6⟩ => ?_
          subst hr
          exact seg_end (.ok .next) ⟨rfl, H, I6, nf, qe⟩
        · have ti := T.item (gX X s4 H4 cenv fp pn) rfl rfl rfl hc i [] s _ H (fun _ _ => False) I (stat I nf) st go
          refine thnF ti fun r s6 ⟨u, hr, h6⟩ => ?_
          subst hr
          refine seg_bind_wrap ?_
          rw [ov]
          refine thnF h6 fun _ s7 ⟨x, H7, I7, r7, y7, st7, n7⟩ => ?_
          have I7' := I7.pinned (stat I7 n7) (T.obj _ _ st7)
          refine seg_bind_wrap ?_
          rw [ov]
          refine thnF (hg.run _ s7 _ H7 x u _ I7' r7 (step x H7 y7)) fun _ s8 ⟨σ8, H8, I8, hw8, q8⟩ => ?_
          refine seg_bind_wrap ?_
          rw [ov]
          refine thnF (ht.run _ s8 σ8 H8 _ I8 q8) fun b s9 ⟨H9, I9, q9⟩ => ?_
          cases b with
          | false =>
            simp only [Bool.false_eq_true, if_false] at q9 ⊢
            obtain ⟨m', hm', w'⟩ := q9
            have pin' : ∀ b ∈ fp, ∀ o, s7.heap.get? b = some o → s9.heap.get? b = some o ∧ H9 b = none := fun b hb o e =>
              let z := I9.pin (b, o) (List.mem_append_right _ (List.mem_append_right _ (mem_pinsAt hb e)))
              ⟨z.1, z.2.1⟩
            have hl : (wipe σ vs).length = σ8.length := by rw [← hw8, wipe_length]
            refine seg_again rfl ((ihm m' hm' (by omega)).1 (i + 1) s₀ s9 H9 ((I9.unpinned (pins := [])).weak hl (fun j v e => ?_)) (T.keep _ _ _ st7 fun b hb o e => (pin' b hb o e).1) (fun b hb => ?_) w')
            · rw [← hw8] at e
              exact (wipe_some e).1
            · obtain ⟨o, e, _⟩ := T.obj _ _ st7 b hb
              exact (pin' b hb o e).2
          | true =>
            simp only [if_true] at q9 ⊢
            refine seg_bind_wrap ?_
            rw [ov]
            refine thnF (hi1.run _ s9 σ8 H9 _ I9 q9) fun xv s10 hx => ?_
            refine seg_bind_wrap (wpAny_standAt ?_)
            refine seg_bind_wrap (wpAny_of_eq (hs1 xv) ?_)
            refine seg_bind_wrap (wpAny_holding ?_)
            rw [ov]
            refine thnF hx fun itv s11 ⟨itb, fp1, tn1, J1, H11, e11, I11, T1, st11, f11, W1, ⟨m1, hm1, w1⟩, turn1⟩ => ?_
            subst e11
            have obj7 : ∀ b ∈ fp, ∃ o, s7.heap.get? b = some o := fun b hb => by
              obtain ⟨o, e, _⟩ := T.obj _ _ st7 b hb
              exact ⟨o, e⟩
            refine seg_call fun p => ?_
            have inner := fun (kk : Result → Sem Fin) (gg : Bool) (l : List Value) (p : Pos) (e1 : kk (.ok .next) = .pure (.again (.compLoop (.GeneratorExp elt [⟨t1, it1, ifs1, 0⟩, ⟨t2, it2, ifs2, 0⟩] scope pos) 0 (.ref it) .none cenv))) (e2 : gg = false) =>
              (ihm m1 hm1 (by omega)).2 i 0 s7.heap σ8 itb fp1 tn1 J1 W1 kk gg l p s₀ s11 H11 st7 obj7 hw8 T1 (fun b hb H' hn => ⟨hn, (f11 b hb).2⟩) turn1 e1 e2 (I11.weak (wipe_length _ _) (fun j v e => (wipe_some e).1)) st11 (fun b hb => (f11 b hb).1) w1
            show Seg _ X.A.in1.in1 _ _ _ s₀ _ ((compStart (.GeneratorExp elt [⟨t1, it1, ifs1, 0⟩, ⟨t2, it2, ifs2, 0⟩] scope pos) 1 (.ref itb) .none cenv).onRaise (fun x => do noteFrame x cenv; standAt theWindowsPlace)) _ s11
            unfold compStart
            rw [Sem.onRaise_eq_wrap]
            show Seg _ X.A.in1.in1 _ _ _ s₀ _ ((ask >>= _).wrap _ _ _ _) _ s11
            refine seg_bind_wrap (wpAny_askSetting ?_)
            split
            · exact seg_again rfl (inner _ _ _ _ rfl rfl)
            · refine seg_bind_wrap (wpAny_rule ?_)
              first
                | exact seg_bind_wrap (wpAny_standAt (seg_bind_wrap (T1.self _ 0 s11 _ _ st11 (seg_again rfl (inner _ _ _ _ rfl rfl)))))
                | (show Seg _ X.A.in1.in1 _ _ _ s₀ _ ((standAt it2.pos >>= _).wrap _ _ _ _) _ s11; exact seg_bind_wrap (wpAny_standAt (seg_bind_wrap (T1.self _ 0 s11 _ _ st11 (seg_again rfl (inner _ _ _ _ rfl rfl))))))
      · show Seg _ X.A.in1.in1 _ _ _ s₀ _ ((compTurn (.GeneratorExp elt [⟨t1, it1, ifs1, 0⟩, ⟨t2, it2, ifs2, 0⟩] scope pos) 1 (.ref itb) .none cenv).onRaise (fun x => do noteFrame x cenv; theTreesLotGoes x)) _ s
        rw [compTurn_gen2_in, Sem.onRaise_eq_wrap]
        refine seg_bind_wrap (wpAny_standAt ?_)
        refine seg_bind_wrap ?_
        rw [ov1]
        rcases turn1 j m H w with ⟨stop, m', hm', w'⟩ | ⟨go, Nx, hNx, step⟩
        · refine thnF (T1.done (gX X s4 H4 cenv fp pn) rfl rfl rfl hc j _ s (wipe σ8 vs1) H (fun _ _ => False) I (fun b hb => f1 b hb H (nf b hb)) st stop) fun r s6 ⟨hr, I6⟩ => ?_
          subst hr
          have pin' : ∀ b ∈ fp, ∀ o, hp7.get? b = some o → s6.heap.get? b = some o ∧ H b = none := fun b hb o e =>
            let z := I6.pin (b, o) (List.mem_append_right _ (List.mem_append_right _ (mem_pinsAt hb e)))
            ⟨z.1, z.2.1⟩
          refine seg_leaf (.ok .next) ?_
          rw [hkk]
          refine seg_again rfl ((ihm m' hm' (by omega)).1 (i + 1) s₀ s6 H ((I6.unpinned (pins := [])).weak ?_ (fun j v e => ?_)) (T.keep _ _ _ st7 fun b hb o e => (pin' b hb o e).1) (fun b hb => ?_) w')
          · rw [← hw8, wipe_length, wipe_length]
          · rw [← hw8] at e
            obtain ⟨e1, e2⟩ := wipe_some e
            rw [wipe_out fun z => e2 (hv j z)]
            exact e1
          · obtain ⟨o, e⟩ := ob7 b hb
            exact (pin' b hb o e).2
        · refine thnF (T1.item (gX X s4 H4 cenv fp pn) rfl rfl rfl hc j _ s (wipe σ8 vs1) H (fun _ _ => False) I (fun b hb => f1 b hb H (nf b hb)) st go) fun r s6 ⟨u, hr, h6⟩ => ?_
          subst hr
          refine seg_bind_wrap ?_
          rw [ov1]
          refine thnF h6 fun _ s9 ⟨x, H9, I9, r9, y9, st9, n9⟩ => ?_
          have I9' := I9.pinned (fun b hb => f1 b hb H9 (n9 b hb)) (T1.obj _ _ st9)
          refine seg_bind_wrap ?_
          rw [ov1]
          refine thnF (hg1.run _ s9 _ H9 x u _ I9' r9 (step x H9 y9)) fun _ s10 ⟨σ10, H10, I10, hw10, q10⟩ => ?_
          refine seg_bind_wrap ?_
          rw [ov1]
          refine thnF (ht1.run _ s10 σ10 H10 _ I10 q10) fun b s11 ⟨H11, I11, q11⟩ => ?_
          have fin : ∀ {s' : Shared} {H' : Hp}, Inv (gX X s4 H4 cenv fp pn) (([] ++ pinsAt fp hp7) ++ pinsAt fp1 s9.heap) σ10 H' s' → Nx H' → ∃ m', m' < m ∧ Inv (gX X s4 H4 cenv fp pn) ([] ++ pinsAt fp hp7) (wipe σ8 vs1) H' s' ∧ tn1 (j + 1) s'.heap ∧ (∀ b ∈ fp1, H' b = none) ∧ W1 (j + 1) m' H' := fun {s' H'} I' nx => by
            obtain ⟨m', hm, w'⟩ := hNx H' nx
            have pin' : ∀ b ∈ fp1, ∀ o, s9.heap.get? b = some o → s'.heap.get? b = some o ∧ H' b = none := fun b hb o e =>
              let z := I'.pin (b, o) (List.mem_append_right _ (List.mem_append_right _ (mem_pinsAt hb e)))
              ⟨z.1, z.2.1⟩
            refine ⟨m', hm, I'.unpinned.weak (by rw [← hw10, wipe_length]) (fun j v e => by rw [← hw10] at e; exact (wipe_some e).1), T1.keep _ _ _ st9 fun b hb o e => (pin' b hb o e).1, fun b hb => ?_, w'⟩
            obtain ⟨o, e, _⟩ := T1.obj _ _ st9 b hb
            exact (pin' b hb o e).2
          cases b with
          | false =>
            simp only [Bool.false_eq_true, if_false] at q11 ⊢
            obtain ⟨m', hm', I', st', nf', w'⟩ := fin I11 q11
            exact seg_again rfl ((ihm m' hm' (by omega)).2 i (j + 1) hp7 σ8 itb fp1 tn1 J1 W1 kk gg l p s₀ s11 H11 st7 ob7 hw8 T1 f1 turn1 hkk hgg I' st' nf' w')
          | true =>
            simp only [if_true] at q11 ⊢
            simp only [hy]
            rw [Sem.bind_eq_wrap', Sem.bind_eq_wrap', Sem.wrap_wrap, Sem.wrap_wrap]
            refine seg_wrap ?_
            rw [ov1]
            refine thnF (he.run _ s11 σ10 H11 _ I11 q11) fun z s12 ⟨yv, H12, I12, r12, c12⟩ => ?_
            refine seg_at (seg_yield rfl rfl (by subst hgg; rfl) ⟨_, σ10, yv, H12, Nx H12, I12, r12, c12, fun s' k os hb nx => ?_⟩)
            obtain ⟨m', hm', I', st', nf', w'⟩ := fin (Inv.keepS I12 os k hb) nx
            exact seg_again rfl ((ihn m' (by omega)).2 i (j + 1) hp7 σ8 itb fp1 tn1 J1 W1 kk gg l p s' s' H12 st7 ob7 hw8 T1 f1 turn1 hkk hgg I' st' nf' w')
theorem gx2_begin {elt tg iter tg1 iter1 : Expr} {ifs ifs1 : List Expr} {scope : Scope} {pos : Pos} {it : Addr} {J : It} {tn : Nat → Heap → Prop} {wi1 : TI} {g g1 : TG} {tt tt1 : TT} {te : TE} {vs vs1 : List Nat} {σ : L2.St} {W : Nat → Nat → Hp → Prop} {Qe : Hp → Prop} {cons : V → Hp → Prop → Prop}
    (hc : X.calm = true) (hco : cenv.scope.isCoroutine = false) (hv : ∀ i ∈ vs1, i ∈ vs) (T : Turn X.prog X.w X.K tg J fp it tn) (hg : PG (gX X s4 H4 cenv fp pn) tg g) (ht : PTs (gX X s4 H4 cenv fp pn) ifs tt) (hi1 : PI (gX X s4 H4 cenv fp pn) tg1 iter1 wi1) (hg1 : PG (gX X s4 H4 cenv fp pn) tg1 g1) (ht1 : PTs (gX X s4 H4 cenv fp pn) ifs1 tt1) (he : PE (gX X s4 H4 cenv fp pn) elt te) (hs1 : ∀ v, foldedSetIterable iter1 cenv v = pure v)
    (turn : GTurns2 J g tt wi1 g1 tt1 te vs vs1 σ W Qe cons) (hpf : ∀ b ∈ fp, ∀ p ∈ pn, p.1 ≠ b) (n m : Nat) (s₀ s : Shared) (H : Hp) (hm : m < n) (I : Inv (gX X s4 H4 cenv fp pn) [] (wipe σ vs) H s) (st : tn 0 s.heap) (nf : ∀ b ∈ fp, H b = none) (w : W 0 m H) :
      Seg (model X.prog X.w) X.A.in1.in1 (fun _ _ r s1 => r = .ok .next ∧ GRe (gX X s4 H4 cenv fp pn) (wipe σ vs) fp Qe s1) (GYe (gX X s4 H4 cenv fp pn) cons) n s₀
        (.compStart (.GeneratorExp elt [⟨tg, iter, ifs, 0⟩, ⟨tg1, iter1, ifs1, 0⟩] scope pos) 0 (.ref it) .none cenv)
        ((model X.prog X.w).den (.compStart (.GeneratorExp elt [⟨tg, iter, ifs, 0⟩, ⟨tg1, iter1, ifs1, 0⟩] scope pos) 0 (.ref it) .none cenv)) [] s := by
  have loop := (gx2_all (it1 := iter) (scope := scope) (pos := pos) hc hco hv T hg ht hi1 hg1 ht1 he hs1 turn hpf n m hm).1 0 s₀ s H I st nf w
  show Seg _ X.A.in1.in1 _ _ _ s₀ _ ((compStart (.GeneratorExp elt [⟨tg, iter, ifs, 0⟩, ⟨tg1, iter1, ifs1, 0⟩] scope pos) 0 (.ref it) .none cenv).onRaise (leaving cenv)) [] s
  unfold compStart
  rw [Sem.onRaise_eq_wrap]
  show Seg _ X.A.in1.in1 _ _ _ s₀ _ ((ask >>= _).wrap _ _ _ _) [] s
  refine seg_bind_wrap (wpAny_askSetting ?_)
  split
  · exact seg_again rfl loop
  · first
      | exact seg_bind_wrap (wpAny_rule (seg_bind_wrap (wpAny_standAt (seg_bind_wrap (T.self _ 0 s _ _ st (seg_again rfl loop))))))
      | (refine seg_bind_wrap (wpAny_rule ?_); show Seg _ X.A.in1.in1 _ _ _ s₀ _ ((standAt iter.pos >>= _).wrap _ _ _ _) [] s; exact seg_bind_wrap (wpAny_standAt (seg_bind_wrap (T.self _ 0 s _ _ st (seg_again rfl loop)))))

end

section
variable {M : Model} {A : Around} {E : Value → Shared → Prop} {s : Shared}
theorem eval_GeneratorExp2 (elt target iter : Expr) (ifs : List Expr) (rest : List Comprehension) (scope : Scope) (pos : Pos) (env : Env) (hco : scope.isCoroutine = false) :
    eval (.GeneratorExp elt (⟨target, iter, ifs, 0⟩ :: rest) scope pos) env = (do
      let x ← eval iter env
      standAt iter.pos
      let x ← genFold iter env x
      let it ← holding [x] (pyIter x)
      enterFrame
      let cl ← closureFor scope env
      let code ← genexprCode env pos (env.qual ++ "<genexpr>") scope
      let bi ← builtinsFor env.globals env.builtins
      let cenv ← newFunctionEnv scope env.globals cl [(".0", it)] (env.qual ++ "<genexpr>.") none code none bi
      newGenerator (.compStart (.GeneratorExp elt (⟨target, iter, ifs, 0⟩ :: rest) scope pos) 0 it .none cenv) "<genexpr>" (env.qual ++ "<genexpr>")) := by
  rw [arm_eval_GeneratorExp]
  simp only [hco, Bool.false_eq_true, if_false]
  cases iter <;> rfl

theorem wpAny_GeneratorExp_make2 {env : Env} {elt target iter : Expr} {ifs : List Expr} {rest : List Comprehension} {scope : Scope} {cl : List (Str × Addr)} {pos : Pos} {Q : Value → Shared → Prop}
    (hco : scope.isCoroutine = false) (hclos : closureFor scope env = pure cl) (hcell : ∀ y ∈ scope.names, y.2 ≠ .cell) (h0 : scope.names.lookup (".0" : Str) = some NameKind.local) (hkind : scope.kind = .function)
    (hroom : A.depth < recursionLimit)
    (h : wpAny M A (eval iter env) (fun xv s₁ => wpAny M A (pyIter xv) (fun it s₂ => s₂.heap.NoLimit ∧
      wpAny M A (genexprCode env pos (env.qual ++ "<genexpr>") scope) (fun code s₃ => wpAny M A (builtinsFor env.globals env.builtins) (fun bi s₄ =>
        ∀ h', h'.Ns s₄.heap.objs.size (fun y => if y = ".0" then some it else none) → Heap.SameBut s₄.heap.objs.size (s₄.heap.push { cls := .type "frame", data := .dict #[] }) h' →
          Q (.ref h'.objs.size) { s₄ with
            gens := s₄.gens.push (.fresh (.compStart (.GeneratorExp elt (⟨target, iter, ifs, 0⟩ :: rest) scope pos) 0 it .none (genEnv scope cl s₄.heap.objs.size code bi env))),
            toks := s₄.toks + 1 + 1 + 1,
            heap := h'.push { cls := .type "generator", data := .fields #[.int s₄.gens.size 0, .str "<genexpr>" (s₄.toks + 1), .str (env.qual ++ "<genexpr>") (s₄.toks + 1 + 1)] } }) E s₃) E s₂) E s₁) E s)
    (hs : ∀ x, genFold iter env x = pure x) :
    wpAny M A (eval (.GeneratorExp elt (⟨target, iter, ifs, 0⟩ :: rest) scope pos) env) Q E s := by
  rw [eval_GeneratorExp2 _ _ _ _ _ _ _ _ hco, hclos]
  refine wpAny_bind (wpAny_mono h (fun xv s₁ h₁ => ?_) fun _ _ e => e)
  refine wpAny_bind (wpAny_standAt ?_)
  refine wpAny_bind (wpAny_of_eq (hs xv) ?_)
  refine wpAny_bind (wpAny_holding (wpAny_mono h₁ (fun it s₂ h₂ => ?_) fun _ _ e => e))
  refine wpAny_bind (wpAny_enterFrame h₂.1 hroom ?_)
  refine wpAny_bind (wpAny_pure ?_)
  refine wpAny_bind (wpAny_mono h₂.2 (fun code s₃ h₃ => ?_) fun _ _ e => e)
  refine wpAny_bind (wpAny_mono h₃ (fun bi s₄ h₄ => ?_) fun _ _ e => e)
  have hbinds : ∀ y ∈ ([((".0" : Str), it)] : List (Str × Value)), scope.names.lookup y.1 = some NameKind.local := by
    intro y hy
    rcases List.mem_cons.mp hy with rfl | hy
    · exact h0
    · cases hy
  refine wpAny_bind (wpAny_newFunctionEnv hcell hbinds (fun h' hn' hs' => ?_) hkind)
  have e : (fun y : Str => ([((".0" : Str), it)] : List (Str × Value)).reverse.lookup y) = fun y : Str => if y = (".0" : Str) then some it else none := by
    funext y
    by_cases hy : y = ".0"
    · subst hy; simp
    · have : (y == (".0" : Str)) = false := by simpa using hy
      simp [List.lookup, this, hy]
  rw [e] at hn'
  simp only [newGenerator, newFields]
  refine wpAny_bind (wpAny_newGen (wpAny_bind (wpAny_mkText (wpAny_bind (wpAny_mkText (wpAny_newObj_type ?_ (by size_fits)))))))
  exact h₄ h' hn' hs'

end

section
variable {X : Cx} {pins : List (Addr × Obj)} {σ : L2.St} {H : Hp} {s : Shared}
theorem gx2_make {c P : Addr} {elt tg iter tg1 iter1 : Expr} {ifs ifs1 : List Expr} {vs1 : List Nat} {scope : Scope} {own : List (Str × Nat)} {gpos : Pos} {wi wi1 : TI} {g g1 : TG} {tt tt1 : TT} {te : TE} {Qe : Hp → Prop} {cons : V → Hp → Prop → Prop} {Q' : Value → Shared → Prop}
    (hr : Room 1 X.A) (hc : X.calm = true) (hN : X.N.Nodup) (TB : LamX.TabB X.base X.mg c P) (hcode : X.env.code = .ref c) (ok : GOk X.N X.env.scope scope own) (hv : ∀ i ∈ vs1, i ∈ own.map (·.2)) (hi : PI X tg iter wi)
    (hg : ∀ (s : Shared) (H : Hp) (C : Addr) (cl : List (Str × Addr)) (code : Value) (fp : List Addr) (pn : List (Addr × Obj)), PG (gX X s H (gE X scope cl C code) fp pn) tg g)
    (ht : ∀ (s : Shared) (H : Hp) (C : Addr) (cl : List (Str × Addr)) (code : Value) (fp : List Addr) (pn : List (Addr × Obj)), PTs (gX X s H (gE X scope cl C code) fp pn) ifs tt)
    (hi1 : ∀ (s : Shared) (H : Hp) (C : Addr) (cl : List (Str × Addr)) (code : Value) (fp : List Addr) (pn : List (Addr × Obj)), PI (gX X s H (gE X scope cl C code) fp pn) tg1 iter1 wi1)
    (hg1 : ∀ (s : Shared) (H : Hp) (C : Addr) (cl : List (Str × Addr)) (code : Value) (fp : List Addr) (pn : List (Addr × Obj)), PG (gX X s H (gE X scope cl C code) fp pn) tg1 g1)
    (ht1 : ∀ (s : Shared) (H : Hp) (C : Addr) (cl : List (Str × Addr)) (code : Value) (fp : List Addr) (pn : List (Addr × Obj)), PTs (gX X s H (gE X scope cl C code) fp pn) ifs1 tt1)
    (he : ∀ (s : Shared) (H : Hp) (C : Addr) (cl : List (Str × Addr)) (code : Value) (fp : List Addr) (pn : List (Addr × Obj)), PE (gX X s H (gE X scope cl C code) fp pn) elt te)
    (hs : ∀ v, genFold iter X.env v = pure v) (hs1 : ∀ env v, foldedSetIterable iter1 env v = pure v) (I : Inv X pins σ H s)
    (h : wi σ H fun J H1 => TabG H1 P ∧ ∀ H2, Tabbed P H1 H2 → ∃ W : Nat → Nat → Hp → Prop, (∃ m, W 0 m H2) ∧ GTurns2 J g tt wi1 g1 tt1 te (own.map (·.2)) vs1 σ W Qe cons)
    (hQ : ∀ Xg fp a g n s5, GPin Xg a g → GReady X Xg (wipe σ (own.map (·.2))) fp Qe cons a g n s5 → (∀ pins' σ' H' s', Inv Xg pins' σ' H' s' → Inv X pins σ H' s') → Q' (.ref a) s5) :
    wpAny (model X.prog X.w) X.A (eval (.GeneratorExp elt [⟨tg, iter, ifs, 0⟩, ⟨tg1, iter1, ifs1, 0⟩] scope gpos) X.env) Q' X.xe s := by
  have hfree : ∀ y ∈ scope.names, y.2 = .free → ∃ c, X.env.cells.lookup y.1 = some c := fun y hy e => by
    rcases ok.blk.free y hy e with k | k
    · exact I.ok.has _ (.inl k)
    · exact I.ok.has _ (.inr k)
  refine wpAny_GeneratorExp_make2 ok.co (closure_ok hfree) ok.cell ok.dot ok.blk.kind hr.depth ?_ hs
  refine thn (hi.run pins s σ H _ I h) fun xv s1 hx => thn hx fun itv s2 h2 => ?_
  obtain ⟨it, fp, tn, J, H2, rfl, I2, T, st2, f2, ⟨ps, hP, htr⟩, q2⟩ := h2
  have hPs : s2.heap.get? P = some { cls := .none, data := .fields ps } := I2.hok P _ hP
  have hPlt : P < s2.heap.objs.size := Heap.lt_size hPs
  have cd : PySem.W.CodeHd s2.heap c P := TB.code.keeps fun b u e => I2.bk b u e
  have lim2 : s2.heap.NoLimit := I2.nolimit
  have sz : ∀ b ∈ fp, b < s2.heap.objs.size := fun b hb => by
    obtain ⟨o, e, _⟩ := T.obj _ _ st2 b hb
    exact Heap.lt_size e
  have Pfp : ∀ b ∈ fp, b ≠ P := fun b hb e => by
    have z := (f2 b hb).1
    rw [e, hP] at z
    cases z
  have cont : ∀ (code : Value) (h3 : Heap) (tk : Nat) (ps' : Array Value), Heap.ExtBut P s2.heap h3 → s2.heap.objs.size ≤ h3.objs.size → h3.get? P = some { cls := .none, data := .fields ps' } → (∃ more, ps' = ps ++ more) → TriplesOk ps'.toList →
      wpAny (model X.prog X.w) X.A (builtinsFor X.env.globals X.env.builtins) (fun bi s₄ =>
        ∀ h', h'.Ns s₄.heap.objs.size (fun y => if y = ".0" then some (Value.ref it) else none) → Heap.SameBut s₄.heap.objs.size (s₄.heap.push { cls := .type "frame", data := .dict #[] }) h' →
          Q' (.ref h'.objs.size) { s₄ with
            gens := s₄.gens.push (.fresh (.compStart (.GeneratorExp elt [⟨tg, iter, ifs, 0⟩, ⟨tg1, iter1, ifs1, 0⟩] scope gpos) 0 (.ref it) .none (genEnv scope (cloFrom X.env.cells scope.names []) s₄.heap.objs.size code bi X.env))),
            toks := s₄.toks + 1 + 1 + 1,
            heap := h'.push { cls := .type "generator", data := .fields #[.int s₄.gens.size 0, .str "<genexpr>" (s₄.toks + 1), .str (X.env.qual ++ "<genexpr>") (s₄.toks + 1 + 1)] } }) X.xe { s2 with heap := h3, toks := tk } := by
    intro code h3 tk ps' hx hsz hP3 hmore ht3
    obtain ⟨more, rfl⟩ := hmore
    obtain ⟨bm, ob, e1, e2, e3, e4, e5, e6, e7, e8⟩ := TB.bm
    refine wpAny_builtinsFor (m := X.mg) (by rw [I2.ok.glob]; exact (I2.mod.glob.keeps I2.bk).extBut hx TB.gP) e1 e2 (hx _ _ e4 (I2.bk _ _ e5)) e6 e7 e8 ?_
    intro h' hn' hs'
    -- the def's state behind the code
    have I4 : Inv X pins σ (upd H2 P (.tbl (ps ++ more))) { s2 with heap := h3, toks := tk } := inv_tab (g' := s2.gens) (d' := s2.drawn) I2 hP hx hP3 I2.bare
    obtain ⟨W, ⟨m0, w0⟩, turn⟩ := q2 _ (⟨⟨ps ++ more, upd_same, ht3⟩, fun b hb => upd_ne hb⟩ : Tabbed P H2 (upd H2 P (.tbl (ps ++ more))))
    generalize hH4 : upd H2 P (.tbl (ps ++ more)) = H4 at I4 w0
    have nf4 : ∀ b ∈ fp, H4 b = none := fun b hb => by rw [← hH4, upd_ne (Pfp b hb)]; exact (f2 b hb).1
    have f4 : ∀ b ∈ fp, FpOk X pins H4 b ∧ b < ({ s2 with heap := h3, toks := tk } : Shared).heap.objs.size := fun b hb => ⟨⟨nf4 b hb, (f2 b hb).2⟩, Nat.lt_of_lt_of_le (sz b hb) hsz⟩
    have st4 : tn 0 h3 := T.keep _ _ _ st2 fun b hb o e => hx b o (Pfp b hb) e
    have hsz' : h'.objs.size = h3.objs.size + 1 := by rw [hs'.1, Heap.size_push]
    have keep' : ∀ b o, h3.get? b = some o → h'.get? b = some o := fun b o e => hs'.extBut b o (Nat.ne_of_lt (Heap.lt_size e)) (Heap.get?_push_of_some _ e)
    generalize hgo : ({ cls := .type "generator", data := .fields #[.int ({ s2 with heap := h3, toks := tk } : Shared).gens.size 0, .str "<genexpr>" (({ s2 with heap := h3, toks := tk } : Shared).toks + 1), .str (X.env.qual ++ "<genexpr>") (({ s2 with heap := h3, toks := tk } : Shared).toks + 1 + 1)] } : Obj) = go
    have keep5 : ∀ b o, h3.get? b = some o → (h'.push go).get? b = some o := fun b o e => Heap.get?_push_of_some _ (keep' b o e)
    have hga : (h'.push go).get? h'.objs.size = some go := Heap.get?_push_size _ (by rw [← hgo]; rfl)
    have hgd : ∀ v, go.data ≠ .cell v := fun v z => by rw [← hgo] at z; cases z
    have apart : ∀ b ∈ fp, h'.objs.size ≠ b := fun b hb e => by
      have h1 : b < h3.objs.size := (f4 b hb).2
      have h2 : b < h'.objs.size := by rw [hsz']; exact Nat.lt_succ_of_lt h1
      rw [e] at h2
      exact Nat.lt_irrefl _ h2
    have start : ∀ s5 : Shared, s5.os = s2.os → AllBare s5.gens → (∀ b o, (h'.push go).get? b = some o → s5.heap.get? b = some o) →
        Inv (gX X { s2 with heap := h3, toks := tk } H4 (gE X scope (cloFrom X.env.cells scope.names []) h3.objs.size code) fp [(h'.objs.size, go)]) [] (wipe σ (own.map (·.2))) H4 s5 := fun s5 os hb k =>
      gx_start I4 ok hN hr.hd f4 os hb (fun b o e => k b o (keep5 b o e)) ⟨_, (hn'.push go).keeps k⟩ (by show h3.objs.size < h'.objs.size; omega) (k _ _ hga) hgd
    refine hQ (gX X { s2 with heap := h3, toks := tk } H4 (gE X scope (cloFrom X.env.cells scope.names []) h3.objs.size code) fp [(h'.objs.size, go)]) fp h'.objs.size s2.gens.size (m0 + 1) _ ⟨go, _, _, by simp, by rw [← hgo], by rw [← hgo], by rw [← hgo]⟩ ?_ fun pins' σ' H' s' I' => ?_
    · refine ⟨⟨go, _, _, hga, by rw [← hgo], by rw [← hgo], by rw [← hgo]⟩, ?_, _, Array.getElem?_push_size .., rfl, ?_⟩
      · exact (lim2.extBut hx (fun e => by
          obtain ⟨_, hns, _⟩ := lim2
          obtain ⟨o', es, ep, ho, hd, _⟩ := hns
          rw [e, hPs] at ho
          cases ho
          cases hd)).keeps keep5
      · refine gx2_begin hc ok.co hv T (hg _ _ _ _ _ _ _) (ht _ _ _ _ _ _ _) (hi1 _ _ _ _ _ _ _) (hg1 _ _ _ _ _ _ _) (ht1 _ _ _ _ _ _ _) (he _ _ _ _ _ _ _) (hs1 _) turn (fun b hb p hp => ?_) (m0 + 1) m0 _ _ H4 (Nat.lt_succ_self _) (start _ rfl (allBare_setGen (AllBare.push I2.bare rfl) rfl) fun _ _ e => e) ?_ nf4 w0
        · have e : p = (h'.objs.size, go) := by simpa using hp
          subst e
          exact apart b hb
        · exact T.keep _ _ _ st4 fun b _ o e => keep5 b o e
    · exact I4.call' (ch := fp) I'.os I'.base I'.hok I'.bare fun b hb => ⟨(f4 b hb).1.2.2.2.1, (f4 b hb).1.2.1, (f4 b hb).1.2.2.2.2.1, (f4 b hb).1.2.2.2.2.2⟩
  refine ⟨lim2, ?_⟩
  cases hf : codeAmong gpos ps.toList with
  | none =>
    refine wpAny_genexprCodeX hcode (cd.code hPs htr) (cd.tab hPs) hf fun c' h' tk hx hge hlt hco' _ htab' _ => ?_
    obtain ⟨o1, vs, f1, tf, fl, tg, inF, tx, tt, op, _, _, _, _, _, _, _, _, _, htr, _⟩ := hco'
    exact cont _ h' tk _ hx (Nat.le_trans hge (Nat.le_of_lt hlt)) htab'.2 ⟨_, rfl⟩ htr
  | some cv =>
    refine wpAny_genexprCode_hit hcode (cd.code hPs htr) hf ?_
    exact cont cv s2.heap s2.toks ps (Heap.ExtBut.refl _ _) (Nat.le_refl _) hPs ⟨#[], by simp⟩ htr

end
section
variable {X : Cx}

def tAllG2 (P : Addr) (wi : TI) (g : TG) (tt : TT) (wi1 : TI) (g1 : TG) (tt1 : TT) (te : TE) (vs vs1 : List Nat) : TE := fun σ H Q => wi σ H fun J H1 => TabG H1 P ∧ ∀ H2, Tabbed P H1 H2 → ∃ W : Nat → Nat → Hp → Prop, (∃ m, W 0 m H2) ∧ GTurns2 J g tt wi1 g1 tt1 te vs vs1 σ W (fun H => Q (.bl true) H) (consAll fun b H => Q (.bl b) H)
def tAnyG2 (P : Addr) (wi : TI) (g : TG) (tt : TT) (wi1 : TI) (g1 : TG) (tt1 : TT) (te : TE) (vs vs1 : List Nat) : TE := fun σ H Q => wi σ H fun J H1 => TabG H1 P ∧ ∀ H2, Tabbed P H1 H2 → ∃ W : Nat → Nat → Hp → Prop, (∃ m, W 0 m H2) ∧ GTurns2 J g tt wi1 g1 tt1 te vs vs1 σ W (fun H => Q (.bl false) H) (consAny fun b H => Q (.bl b) H)
theorem pe_allG2 {c P : Addr} {elt tg iter tg1 iter1 : Expr} {ifs ifs1 : List Expr} {vs1 : List Nat} {scope : Scope} {own : List (Str × Nat)} {p pos gpos : Pos} {wi wi1 : TI} {g g1 : TG} {tt tt1 : TT} {te : TE}
    (hr : Room 1 X.A) (hc : X.calm = true) (hN : X.N.Nodup) (hgl : Gl X "all") (hm : X.mg "all" = none) (TB : LamX.TabB X.base X.mg c P) (hcode : X.env.code = .ref c) (ok : GOk X.N X.env.scope scope own) (hv : ∀ i ∈ vs1, i ∈ own.map (·.2)) (hi : PI X tg iter wi)
    (hg : ∀ (s : Shared) (H : Hp) (C : Addr) (cl : List (Str × Addr)) (code : Value) (fp : List Addr) (pn : List (Addr × Obj)), PG (gX X s H (gE X scope cl C code) fp pn) tg g)
    (ht : ∀ (s : Shared) (H : Hp) (C : Addr) (cl : List (Str × Addr)) (code : Value) (fp : List Addr) (pn : List (Addr × Obj)), PTs (gX X s H (gE X scope cl C code) fp pn) ifs tt)
    (hi1 : ∀ (s : Shared) (H : Hp) (C : Addr) (cl : List (Str × Addr)) (code : Value) (fp : List Addr) (pn : List (Addr × Obj)), PI (gX X s H (gE X scope cl C code) fp pn) tg1 iter1 wi1)
    (hg1 : ∀ (s : Shared) (H : Hp) (C : Addr) (cl : List (Str × Addr)) (code : Value) (fp : List Addr) (pn : List (Addr × Obj)), PG (gX X s H (gE X scope cl C code) fp pn) tg1 g1)
    (ht1 : ∀ (s : Shared) (H : Hp) (C : Addr) (cl : List (Str × Addr)) (code : Value) (fp : List Addr) (pn : List (Addr × Obj)), PTs (gX X s H (gE X scope cl C code) fp pn) ifs1 tt1)
    (he : ∀ (s : Shared) (H : Hp) (C : Addr) (cl : List (Str × Addr)) (code : Value) (fp : List Addr) (pn : List (Addr × Obj)), PE (gX X s H (gE X scope cl C code) fp pn) elt te)
    (hs : ∀ v, genFold iter X.env v = pure v := by intro _; rfl) (hs1 : ∀ env v, foldedSetIterable iter1 env v = pure v := by intro _ _; rfl)
    (hst : starEach [.GeneratorExp elt [⟨tg, iter, ifs, 0⟩, ⟨tg1, iter1, ifs1, 0⟩] scope gpos] X.env = (false, eval (.GeneratorExp elt [⟨tg, iter, ifs, 0⟩, ⟨tg1, iter1, ifs1, 0⟩] scope gpos) X.env) :: starEach [] X.env := by rfl) :
    PE X (.Call (.Name "all" p) [.GeneratorExp elt [⟨tg, iter, ifs, 0⟩, ⟨tg1, iter1, ifs1, 0⟩] scope gpos] [] pos) (tAllG2 P wi g tt wi1 g1 tt1 te (own.map (·.2)) vs1) := by
  refine ⟨fun pins s σ H Q I h => ?_⟩
  refine wpAny_Call_Name_kw (ld_blt I hgl hm boot_all ?_)
  refine PyProof.Rows.callWith_builtin1 ?_ hst (by rfl)
  rw [hst]
  show wpAny _ _ (spliced ((false, eval (.GeneratorExp elt [⟨tg, iter, ifs, 0⟩, ⟨tg1, iter1, ifs1, 0⟩] scope gpos) X.env) :: backTo pos (starEach [] X.env))) _ _ s
  refine Calls.spliced_cons (gx2_make (Qe := fun H => Q (.bl true) H) (cons := consAll fun b H => Q (.bl b) H) hr hc hN TB hcode ok hv hi hg ht hi1 hg1 ht1 he hs hs1 I h fun Xg fp a gg n s5 hp hG back => ?_)
  refine Calls.spliced_nil ?_
  refine call_function_tree F.kind_all F.plain_all F.entry_all (F.args_all1 _) ?_
  unfold Builtin.«all»
  refine wpAny_bind (m := oneArg "all" _) (wpAny_pure ?_)
  refine wpAny_bind (wpAny_pyIter_gen hG.1 ?_)
  refine wpAny_pure ⟨plainId_quiet F.plain_all_loop _, all_loop (Q := fun b H => Q (.bl b) H) hr hp (fun b pins' σ' H' s' I' q => ?_) n s5 hG⟩
  exact ⟨.bl b, H', back _ _ _ _ I', rfl, q⟩
theorem pe_anyG2 {c P : Addr} {elt tg iter tg1 iter1 : Expr} {ifs ifs1 : List Expr} {vs1 : List Nat} {scope : Scope} {own : List (Str × Nat)} {p pos gpos : Pos} {wi wi1 : TI} {g g1 : TG} {tt tt1 : TT} {te : TE}
    (hr : Room 1 X.A) (hc : X.calm = true) (hN : X.N.Nodup) (hgl : Gl X "any") (hm : X.mg "any" = none) (TB : LamX.TabB X.base X.mg c P) (hcode : X.env.code = .ref c) (ok : GOk X.N X.env.scope scope own) (hv : ∀ i ∈ vs1, i ∈ own.map (·.2)) (hi : PI X tg iter wi)
    (hg : ∀ (s : Shared) (H : Hp) (C : Addr) (cl : List (Str × Addr)) (code : Value) (fp : List Addr) (pn : List (Addr × Obj)), PG (gX X s H (gE X scope cl C code) fp pn) tg g)
    (ht : ∀ (s : Shared) (H : Hp) (C : Addr) (cl : List (Str × Addr)) (code : Value) (fp : List Addr) (pn : List (Addr × Obj)), PTs (gX X s H (gE X scope cl C code) fp pn) ifs tt)
    (hi1 : ∀ (s : Shared) (H : Hp) (C : Addr) (cl : List (Str × Addr)) (code : Value) (fp : List Addr) (pn : List (Addr × Obj)), PI (gX X s H (gE X scope cl C code) fp pn) tg1 iter1 wi1)
    (hg1 : ∀ (s : Shared) (H : Hp) (C : Addr) (cl : List (Str × Addr)) (code : Value) (fp : List Addr) (pn : List (Addr × Obj)), PG (gX X s H (gE X scope cl C code) fp pn) tg1 g1)
    (ht1 : ∀ (s : Shared) (H : Hp) (C : Addr) (cl : List (Str × Addr)) (code : Value) (fp : List Addr) (pn : List (Addr × Obj)), PTs (gX X s H (gE X scope cl C code) fp pn) ifs1 tt1)
    (he : ∀ (s : Shared) (H : Hp) (C : Addr) (cl : List (Str × Addr)) (code : Value) (fp : List Addr) (pn : List (Addr × Obj)), PE (gX X s H (gE X scope cl C code) fp pn) elt te)
    (hs : ∀ v, genFold iter X.env v = pure v := by intro _; rfl) (hs1 : ∀ env v, foldedSetIterable iter1 env v = pure v := by intro _ _; rfl)
    (hst : starEach [.GeneratorExp elt [⟨tg, iter, ifs, 0⟩, ⟨tg1, iter1, ifs1, 0⟩] scope gpos] X.env = (false, eval (.GeneratorExp elt [⟨tg, iter, ifs, 0⟩, ⟨tg1, iter1, ifs1, 0⟩] scope gpos) X.env) :: starEach [] X.env := by rfl) :
    PE X (.Call (.Name "any" p) [.GeneratorExp elt [⟨tg, iter, ifs, 0⟩, ⟨tg1, iter1, ifs1, 0⟩] scope gpos] [] pos) (tAnyG2 P wi g tt wi1 g1 tt1 te (own.map (·.2)) vs1) := by
  refine ⟨fun pins s σ H Q I h => ?_⟩
  refine wpAny_Call_Name_kw (ld_blt I hgl hm boot_any ?_)
  refine PyProof.Rows.callWith_builtin1 ?_ hst (by rfl)
  rw [hst]
  show wpAny _ _ (spliced ((false, eval (.GeneratorExp elt [⟨tg, iter, ifs, 0⟩, ⟨tg1, iter1, ifs1, 0⟩] scope gpos) X.env) :: backTo pos (starEach [] X.env))) _ _ s
  refine Calls.spliced_cons (gx2_make (Qe := fun H => Q (.bl false) H) (cons := consAny fun b H => Q (.bl b) H) hr hc hN TB hcode ok hv hi hg ht hi1 hg1 ht1 he hs hs1 I h fun Xg fp a gg n s5 hp hG back => ?_)
  refine Calls.spliced_nil ?_
  refine call_function_tree F.kind_any F.plain_any F.entry_any (F.args_any1 _) ?_
  unfold Builtin.«any»
  refine wpAny_bind (m := oneArg "any" _) (wpAny_pure ?_)
  refine wpAny_bind (wpAny_pyIter_gen hG.1 ?_)
  refine wpAny_pure ⟨plainId_quiet F.plain_any_loop _, any_loop (Q := fun b H => Q (.bl b) H) hr hp (fun b pins' σ' H' s' I' q => ?_) n s5 hG⟩
  exact ⟨.bl b, H', back _ _ _ _ I', rfl, q⟩
end
end GX

set_option Elab.async false
set_option linter.all false
set_option maxRecDepth 100000
set_option maxHeartbeats 2000000
/-! Tree: data as trees over the abstract heap, what stays of a heap (tables of code objects may grow, what is named may change), repr. -/
namespace Tree
open PySem PySem.Spec PyProof.Rows L2 GxR

/-! ### what stays -/
/-- all that is tracked is as it was, but what B names; a table of a code object may have grown -/
def Kx (B : List Addr) (H H' : Hp) : Prop := ∀ b o, b ∉ B → H b = some o → H' b = some o ∨ ∃ ps qs, o = .tbl ps ∧ H' b = some (.tbl qs) ∧ (TriplesOk ps.toList → TriplesOk qs.toList)
theorem Kx.refl {B : List Addr} (H : Hp) : Kx B H H := fun _ _ _ h => .inl h
theorem Kx.trans {B : List Addr} {H H1 H2 : Hp} (a : Kx B H H1) (b : Kx B H1 H2) : Kx B H H2 := fun c o n h => by
  rcases a c o n h with h1 | ⟨ps, qs, rfl, h1, f⟩
  · exact b c o n h1
  · rcases b c _ n h1 with h2 | ⟨ps', qs', e, h2, f'⟩
    · exact .inr ⟨ps, qs, rfl, h2, f⟩
    · cases e
      exact .inr ⟨ps, qs', rfl, h2, fun z => f' (f z)⟩
theorem Kx.of {B : List Addr} {H H' : Hp} (k : Kx [] H H') : Kx B H H' := fun b o _ h => k b o (by simp) h
theorem Kx.sub {B C : List Addr} {H H' : Hp} (k : Kx B H H') (h : ∀ b ∈ B, b ∈ C) : Kx C H H' := fun b o n e => k b o (fun z => n (h b z)) e
/-- a new object -/
theorem Kx.new {B : List Addr} {H : Hp} {p : Addr} {o : HO} (h : H p = none) : Kx B H (upd H p o) := fun b u _ e => .inl (by rw [upd_ne (ne_of_none e h)]; exact e)
/-- a named object is written -/
theorem Kx.put {B : List Addr} {H : Hp} {p : Addr} {o : HO} (h : p ∈ B) : Kx B H (upd H p o) := fun b u n e => .inl (by rw [upd_ne (fun z => n (by rw [z]; exact h))]; exact e)
/-- an object younger than H may change -/
theorem Kx.mut {B : List Addr} {H H' : Hp} {p : Addr} {o : HO} (k : Kx B H H') (h : H p = none) : Kx B H (upd H' p o) := fun b u n e => by
  have hb : b ≠ p := ne_of_none e h
  rw [upd_ne hb]
  exact k b u n e
theorem Kx.at {B : List Addr} {H H' : Hp} (k : Kx B H H') {b : Addr} {o : HO} (n : b ∉ B) (h : H b = some o) (ht : ∀ ps, o ≠ .tbl ps) : H' b = some o := by
  rcases k b o n h with h1 | ⟨ps, _, e, _⟩
  · exact h1
  · exact absurd e (ht ps)
theorem Kx.lst {B : List Addr} {H H' : Hp} (k : Kx B H H') {b : Addr} {xs : List V} (n : b ∉ B) (h : H b = some (.lst xs)) : H' b = some (.lst xs) := k.at n h fun _ z => by cases z
theorem Kx.tup {B : List Addr} {H H' : Hp} (k : Kx B H H') {b : Addr} {xs : List V} (n : b ∉ B) (h : H b = some (.tup xs)) : H' b = some (.tup xs) := k.at n h fun _ z => by cases z
theorem Kx.free {B : List Addr} {H H' : Hp} (k : Kx B H H') {b : Addr} (n : b ∉ B) (h : H' b = none) : H b = none := by
  cases e : H b with
  | none => rfl
  | some o =>
    rcases k b o n e with h1 | ⟨_, _, _, h1, _⟩ <;> rw [h] at h1 <;> cases h1
/-- what Tabbed says -/
theorem Kx.tabbed {B : List Addr} {H H' : Hp} {P : Addr} (h0 : TabG H P) (h : Tabbed P H H') : Kx B H H' := fun b o _ e => by
  by_cases hb : b = P
  · subst hb
    obtain ⟨ps, e1, t1⟩ := h0
    obtain ⟨⟨qs, e2, t2⟩, _⟩ := h
    rw [e] at e1; cases e1
    exact .inr ⟨ps, qs, rfl, e2, fun _ => t2⟩
  · exact .inl (by rw [h.2 b hb]; exact e)
theorem Kx.tab {B : List Addr} {H H' : Hp} {P : Addr} (k : Kx B H H') (n : P ∉ B) (h : TabG H P) : TabG H' P := by
  obtain ⟨ps, e, t⟩ := h
  rcases k P _ n e with h1 | ⟨_, qs, e2, h1, f⟩
  · exact ⟨ps, h1, t⟩
  · cases e2
    exact ⟨qs, h1, f t⟩
/-- the tables stand -/
def Tb (Ps : List Addr) (H : Hp) : Prop := ∀ P ∈ Ps, TabG H P
theorem Tb.kx {B : List Addr} {H H' : Hp} {Ps : List Addr} (h : Tb Ps H) (k : Kx B H H') (n : ∀ P ∈ Ps, P ∉ B := by intro P _; simp) : Tb Ps H' := fun P hP => k.tab (n P hP) (h P hP)
theorem Tb.sub {H : Hp} {Ps Qs : List Addr} (h : Tb Ps H) (s : ∀ P ∈ Qs, P ∈ Ps) : Tb Qs H := fun P hP => h P (s P hP)

/-! ### trees -/
mutual
/-- v is the tree d over H, no part of it at an address of B -/
inductive Tr (B : List Addr) (H : Hp) : V → PyData → Prop
  | non : Tr B H .non .none
  | bl (b : Bool) : Tr B H (.bl b) (.bool b)
  | int (i : Int) : Tr B H (.int i) (.int i)
  | str (x : Str) : Tr B H (.str x) (.str x)
  | lst {a : Addr} {xs : List V} {ds : List PyData} : a ∉ B → H a = some (.lst xs) → TrAll B H xs ds → Tr B H (.ref a) (.list ds)
  | tup {a : Addr} {xs : List V} {ds : List PyData} : a ∉ B → H a = some (.tup xs) → TrAll B H xs ds → Tr B H (.ref a) (.tuple ds)
  | dic {a : Addr} : a ∉ B → H a = some (.dK []) → Tr B H (.ref a) (.dict [])
inductive TrAll (B : List Addr) (H : Hp) : List V → List PyData → Prop
  | nil : TrAll B H [] []
  | cons {v : V} {vs : List V} {d : PyData} {ds : List PyData} : Tr B H v d → TrAll B H vs ds → TrAll B H (v :: vs) (d :: ds)
end
mutual
theorem Tr.kx {B C : List Addr} {H H' : Hp} (k : Kx C H H') (hs : ∀ b ∈ C, b ∈ B) : ∀ (d : PyData) (v : V), Tr B H v d → Tr B H' v d
  | _, _, .non => .non
  | _, _, .bl b => .bl b
  | _, _, .int i => .int i
  | _, _, .str x => .str x
  | .list ds, _, .lst n h l => .lst n (k.lst (fun z => n (hs _ z)) h) (TrAll.kx k hs ds _ l)
  | .tuple ds, _, .tup n h l => .tup n (k.tup (fun z => n (hs _ z)) h) (TrAll.kx k hs ds _ l)
  | _, _, .dic n h => .dic n (k.at (fun z => n (hs _ z)) h fun _ z => by cases z)
theorem TrAll.kx {B C : List Addr} {H H' : Hp} (k : Kx C H H') (hs : ∀ b ∈ C, b ∈ B) : ∀ (ds : List PyData) (vs : List V), TrAll B H vs ds → TrAll B H' vs ds
  | _, _, .nil => .nil
  | d :: ds, _, .cons h t => .cons (Tr.kx k hs d _ h) (TrAll.kx k hs ds _ t)
end
mutual
/-- fewer addresses are forbidden -/
theorem Tr.less {B C : List Addr} {H : Hp} (hs : ∀ b ∈ C, b ∈ B) : ∀ (d : PyData) (v : V), Tr B H v d → Tr C H v d
  | _, _, .non => .non
  | _, _, .bl b => .bl b
  | _, _, .int i => .int i
  | _, _, .str x => .str x
  | .list ds, _, .lst n h l => .lst (fun z => n (hs _ z)) h (TrAll.less hs ds _ l)
  | .tuple ds, _, .tup n h l => .tup (fun z => n (hs _ z)) h (TrAll.less hs ds _ l)
  | _, _, .dic n h => .dic (fun z => n (hs _ z)) h
theorem TrAll.less {B C : List Addr} {H : Hp} (hs : ∀ b ∈ C, b ∈ B) : ∀ (ds : List PyData) (vs : List V), TrAll B H vs ds → TrAll C H vs ds
  | _, _, .nil => .nil
  | d :: ds, _, .cons h t => .cons (Tr.less hs d _ h) (TrAll.less hs ds _ t)
end
section
variable {B : List Addr} {H H' : Hp} {v : V} {d : PyData} {vs : List V} {ds : List PyData}
theorem Tr.up (h : Tr B H v d) (k : Kx [] H H') : Tr B H' v d := Tr.kx k (by simp) d v h
theorem Tr.upB (h : Tr B H v d) (k : Kx B H H') : Tr B H' v d := Tr.kx k (fun _ z => z) d v h
theorem TrAll.up (h : TrAll B H vs ds) (k : Kx [] H H') : TrAll B H' vs ds := TrAll.kx k (by simp) ds vs h
theorem TrAll.upB (h : TrAll B H vs ds) (k : Kx B H H') : TrAll B H' vs ds := TrAll.kx k (fun _ z => z) ds vs h
theorem Tr.nil (h : Tr B H v d) : Tr [] H v d := Tr.less (by simp) d v h
theorem TrAll.nilB (h : TrAll B H vs ds) : TrAll [] H vs ds := TrAll.less (by simp) ds vs h
theorem TrAll.length : ∀ {vs : List V} {ds : List PyData}, TrAll B H vs ds → vs.length = ds.length
  | _, _, .nil => rfl
  | _, _, .cons _ t => congrArg (· + 1) t.length
theorem TrAll.get : ∀ {vs : List V} {ds : List PyData} {i : Nat} {v : V}, TrAll B H vs ds → vs[i]? = some v → ∃ d, ds[i]? = some d ∧ Tr B H v d
  | _, _, _, _, .nil, e => by simp at e
  | _, _, 0, _, .cons h _, e => by simp at e; subst e; exact ⟨_, rfl, h⟩
  | _, _, i + 1, _, .cons _ t, e => by
    obtain ⟨d, h1, h2⟩ := TrAll.get (i := i) t (by simpa using e)
    exact ⟨d, by simpa using h1, h2⟩
theorem TrAll.get' : ∀ {vs : List V} {ds : List PyData} {i : Nat} {d : PyData}, TrAll B H vs ds → ds[i]? = some d → ∃ v, vs[i]? = some v ∧ Tr B H v d
  | _, _, _, _, .nil, e => by simp at e
  | _, _, 0, _, .cons h _, e => by simp at e; subst e; exact ⟨_, rfl, h⟩
  | _, _, i + 1, _, .cons _ t, e => by
    obtain ⟨d, h1, h2⟩ := TrAll.get' (i := i) t (by simpa using e)
    exact ⟨d, by simpa using h1, h2⟩
theorem TrAll.append : ∀ {vs ws : List V} {ds es : List PyData}, TrAll B H vs ds → TrAll B H ws es → TrAll B H (vs ++ ws) (ds ++ es)
  | _, _, _, _, .nil, s => s
  | _, _, _, _, .cons r t, s => .cons r (TrAll.append t s)
theorem TrAll.take : ∀ {vs : List V} {ds : List PyData} (n : Nat), TrAll B H vs ds → TrAll B H (vs.take n) (ds.take n)
  | _, _, 0, _ => .nil
  | _, _, _ + 1, .nil => .nil
  | _, _, n + 1, .cons r t => .cons r (TrAll.take n t)
theorem TrAll.drop : ∀ {vs : List V} {ds : List PyData} (n : Nat), TrAll B H vs ds → TrAll B H (vs.drop n) (ds.drop n)
  | _, _, 0, r => r
  | _, _, _ + 1, .nil => .nil
  | _, _, n + 1, .cons _ t => TrAll.drop n t
theorem TrAll.reverse : ∀ {vs : List V} {ds : List PyData}, TrAll B H vs ds → TrAll B H vs.reverse ds.reverse
  | _, _, .nil => .nil
  | _, _, .cons r t => by
    rw [List.reverse_cons, List.reverse_cons]
    exact TrAll.append (TrAll.reverse t) (.cons r .nil)
theorem TrAll.snoc (h : TrAll B H vs ds) (r : Tr B H v d) : TrAll B H (vs ++ [v]) (ds ++ [d]) := h.append (.cons r .nil)
theorem TrAll.ints : ∀ ns : List Int, TrAll B H (ns.map V.int) (ns.map PyData.int)
  | [] => .nil
  | n :: ns => .cons (.int n) (TrAll.ints ns)
end

/-! ### kinds -/
def tyD : PyData → String
  | .none => "NoneType"
  | .bool _ => "bool"
  | .int _ => "int"
  | .str _ => "str"
  | .list _ => "list"
  | .tuple _ => "tuple"
  | .dict _ => "dict"
theorem Tr.ty {K : PySem.W.Frag} {B : List Addr} {H : Hp} {v : V} {d : PyData} (h : Tr B H v d) : TyX K H v (.type (tyD d)) := by
  cases h with
  | non => exact .base .non
  | bl b => exact .base (.bl b)
  | int i => exact .base (.int i)
  | str x => exact .base (.str x)
  | lst _ h _ => exact .base (.lst h)
  | tup _ h _ => exact .base (.tup h)
  | dic _ h => exact .base (.dK h)

/-! ### to the library's Reads -/
theorem dic_entries {P : Program} {w : World} {h : Heap} {a : Addr} (x : h.DictOf (mixKind P w) a []) : ∃ o es n, h.get? a = some o ∧ o.cls = .type "dict" ∧ o.data = .dict es n ∧ es.toList = [] := by
  obtain ⟨o, es, n, e, hx, hd, _, hes, _⟩ := x
  refine ⟨o, es, n, e, hx.1, hd, ?_⟩
  cases q : es.toList with
  | nil => rfl
  | cons y r =>
    rw [q] at hes
    exact nomatch hes
section
variable {X : Cx} {pins : List (Addr × Obj)} {σ : L2.St} {s : Shared}
mutual
theorem Tr.reads {B : List Addr} {H : Hp} (I : Inv X pins σ H s) : ∀ (d : PyData) (v : V) (u : Value), Tr B H v d → RelV v u → ∃ as, Reads s.heap u d as ∧ ∀ b ∈ as, H b ≠ none
  | .none, v, u, h, r => by
    cases h
    cases r
    exact ⟨[], .none, by simp⟩
  | .bool b, v, u, h, r => by
    cases h
    cases r
    exact ⟨[], .bool b, by simp⟩
  | .int i, v, u, h, r => by
    cases h
    obtain ⟨t, rfl⟩ := r
    exact ⟨[], .int i t, by simp⟩
  | .str x, v, u, h, r => by
    cases h
    obtain ⟨t, rfl⟩ := r
    exact ⟨[], .str x t, by simp⟩
  | .list ds, v, u, h, r => by
    cases h with
    | lst n e l =>
      rename_i a xs
      obtain rfl : u = Value.ref a := r
      obtain ⟨_, its, k, rv, e2⟩ := I.hok a _ e
      obtain ⟨as, h1, h2⟩ := TrAll.reads I ds xs its l rv
      exact ⟨a :: as, .list e2 rfl rfl (by simpa using h1), fun b hb => by
        rcases List.mem_cons.mp hb with z | z
        · rw [z, e]; simp
        · exact h2 b z⟩
  | .tuple ds, v, u, h, r => by
    cases h with
    | tup n e l =>
      rename_i a xs
      obtain rfl : u = Value.ref a := r
      obtain ⟨_, its, rv, o, e2, c, k, d⟩ := I.hok a _ e
      obtain ⟨as, h1, h2⟩ := TrAll.reads I ds xs its l rv
      exact ⟨as, .tuple e2 c d (by simpa using h1), h2⟩
  | .dict kvs, v, u, h, r => by
    cases h with
    | dic n e =>
      rename_i a
      obtain rfl : u = Value.ref a := r
      obtain ⟨_, _, vs, kv, x⟩ := I.hok a _ e
      cases kv
      obtain ⟨o, es, k, e2, c, hd, hes⟩ := dic_entries x
      refine ⟨a :: [] ++ [], .dict (n := k) e2 c hd (by rw [hes]; exact .nil) (by rw [hes]; exact .nil), fun b hb => ?_⟩
      have z : b = a := by simpa using hb
      rw [z, e]; simp
theorem TrAll.reads {B : List Addr} {H : Hp} (I : Inv X pins σ H s) : ∀ (ds : List PyData) (vs : List V) (us : List Value), TrAll B H vs ds → Vals vs us → ∃ as, ReadsAll s.heap us ds as ∧ ∀ b ∈ as, H b ≠ none
  | [], vs, us, h, r => by
    cases h
    cases r
    exact ⟨[], .nil, by simp⟩
  | d :: ds, vs, us, h, r => by
    cases h with
    | cons h1 h2 =>
      cases r with
      | cons r1 r2 =>
        obtain ⟨as, a1, a2⟩ := Tr.reads I d _ _ h1 r1
        obtain ⟨bs, b1, b2⟩ := TrAll.reads I ds _ _ h2 r2
        exact ⟨as ++ bs, .cons a1 b1, fun b hb => (List.mem_append.mp hb).elim (a2 b) (b2 b)⟩
end
/-- repr of a tree, where no guard is under way -/
def rRepr : List V → Hp → VK → Prop := fun xs H Q => ∃ v d, xs = [v] ∧ Tr [] H v d ∧ d.showable = true ∧ d.depth ≤ 40 ∧ d.shown.length ≤ sizeLine ∧ Q (.str d.shown) H
theorem call_repr_tree (hg : X.A.guards = some []) (hu : X.A.units + 64 < cLine) (hm : ∃ o, X.base.get? sysModules = some o) : CallR X (.builtin "repr") rRepr := by
  intro pins s σ H vs us Q I r h
  obtain ⟨v, d, rfl, ht, hs, hd, hz, q⟩ := h
  cases r with
  | cons r rr =>
    cases rr
    rename_i u
    obtain ⟨as, hr, ha⟩ := Tr.reads I d v u ht r
    have fin : ∀ (h' : Heap) (t tk : Nat), (∀ b o, s.heap.get? b = some o → h'.get? b = some o) → EP X pins σ Q (.str d.shown t) { s with heap := h', toks := tk } := fun h' t tk k => ⟨.str d.shown, H, I.kept (t' := tk) k, ⟨t, rfl⟩, q⟩
    cases hr with
    | none => exact PySem.P.repr_of_none (fin s.heap _ _ fun _ _ e => e)
    | bool b => exact PySem.P.repr_of_bool (fin s.heap _ _ fun _ _ e => e)
    | int i t => exact PySem.P.repr_of_int (by simpa [PyData.showable] using hs) (fin s.heap _ _ fun _ _ e => e)
    | str x t => exact PySem.P.repr_of_str (fin s.heap _ _ fun _ _ e => e) hz
    | list h1 h2 h3 h4 =>
      exact repr_of_reads' (.list h1 h2 h3 h4) hs (fun _ z => by
        obtain ⟨o, e⟩ := hm
        exact ha _ z (I.bs _ _ e).2) hg (by omega) (fun _ _ e => e) (fun h' t tk k => fin h' t tk k) hz
    | tuple h1 h2 h3 h4 =>
      exact repr_of_reads' (.tuple h1 h2 h3 h4) hs (fun _ z => by
        obtain ⟨o, e⟩ := hm
        exact ha _ z (I.bs _ _ e).2) hg (by omega) (fun _ _ e => e) (fun h' t tk k => fin h' t tk k) hz
    | dict h1 h2 h3 h4 h5 =>
      exact repr_of_reads' (.dict h1 h2 h3 h4 h5) hs (fun _ z => by
        obtain ⟨o, e⟩ := hm
        exact ha _ z (I.bs _ _ e).2) hg (by omega) (fun _ _ e => e) (fun h' t tk k => fin h' t tk k) hz
end
end Tree

set_option Elab.async false
set_option linter.all false
set_option maxRecDepth 100000
set_option maxHeartbeats 2000000
/-! EndG: the end of a law row whose own def asks repr: no guard is under way where it is called. -/
namespace EndG
open PySem PySem.Spec PyProof.Rows L2
/-- a def kept where no guard is under way -/
structure FnG (P : Program) (w : World) (K : PySem.W.Frag) (mg : Str → Option Value) (base : Heap) (k : Nat) (f : Addr) (fd : FuncData) (ps : List Str) (sp : Sp) : Prop where
  len : ∀ vs H Q E, sp vs H Q E → vs.length = ps.length
  run : ∀ (A : Around) (outer : List Env) (s : Shared) (H : Hp) (args : Args) (us : List Value) (vs : List V) (Q : VK) (E : XK), A.guards = some [] → Room k A → Env0 P w K mg base A outer s H → BindsTo s fd args (ps.zip us) → Vals vs us → sp vs H Q E →
    codeAny (model P w) A (.call (.ref f) args) (CR CX0 outer P w H s Q E) s
section
variable {P : Program} {w : World} {K : PySem.W.Frag} {mg : Str → Option Value} {base : Heap}
theorem fnG {x qual : Str} {st : Stmt} {f : Addr} {fd : FuncData} {N ps : List Str} {k : Nat} {sp : Sp} (F : FunD K x qual (defArgs st) (defBody st) (defScope st) [] [] f fd) (S : FnScope N ps (defScope st)) (len : ∀ vs H Q E, sp vs H Q E → vs.length = ps.length)
    (hbody : ∀ (cdv : Value) (A : Around) (outer : List Env) (s : Shared) (H : Hp) (vs : List V) (Q : VK) (E : XK), A.guards = some [] → fd.code = cdv → Room k (A.deeper (envOfC qual (defScope st) s.heap.objs.size f cdv)) → sp vs H Q E →
      ∃ t, PSs (cxOf CX0 P w K mg base N qual (defScope st) f cdv A outer s H E).nox (defBody st) t ∧ t { nx := fun _ H' => Q .non H', rt := Q } (start N vs) H) : FnG P w K mg base (k + 1) f fd ps sp := by
  obtain ⟨oc, od, dV, kV, doc, pm, an, cdv, ct, osl, rfl, lk, hcd, _, _⟩ := F.ex
  refine ⟨len, fun A outer s H args us vs Q E hgu hr e0 hb r hsp => ?_⟩
  have KX : K.In s.heap := e0.mod.kin.keeps fun b o e => (e0.bs b o e).1
  have lim := e0.mod.nolimit.keeps fun b o e => (e0.bs b o e).1
  have hkind : ∀ y ∈ ps.zip us, (defScope st).names.lookup y.1 = some .local ∨ ((defScope st).names.lookup y.1 = some .cell ∧ ((cellsFrom (s.heap.objs.size + 1) (defScope st).names []).lookup y.1).isSome = true) := fun y hy =>
    (S.par y.1 (List.of_mem_zip (show (y.1, y.2) ∈ ps.zip us from hy)).1).elim .inl fun q => .inr ⟨q, PySem.W.cellsFrom_some _ _ _ (.inl q)⟩
  refine codeAny_call_function hr.depth (KX _ _ lk) rfl S.co S.gen rfl (PySem.W.codeRec_of KX hcd) (hb _ _ _ _ (wpAny_newFunctionEnv_cells S.kind hkind fun env he s1 x => ?_))
  subst he
  refine ⟨lim.keeps x.toInCall.keep, codeAny_func ?_⟩
  obtain ⟨t, ht, hq⟩ := hbody cdv A outer s H vs Q E hgu rfl (hr.deeper _) hsp
  have I := inv_start (CX := CX0) (E := E) S hr.hd e0 (len _ _ _ _ hsp) r x
  refine wpAny_mono (ht.nox.run [] s1 (start N vs) H _ I hq) (fun fl s' hs => ?_) fun e s' hs => hs
  cases fl with
  | ret u => obtain ⟨v, σ', H', J, rv, q⟩ := hs; exact ⟨v, H', J.os, J.bare, J.base, J.hok, rv, q⟩
  | next => obtain ⟨σ', H', J, q⟩ := hs; exact ⟨V.non, H', J.os, J.bare, J.base, J.hok, rfl, q⟩
  | brk => obtain ⟨_, _, _, q⟩ := hs; exact q.elim
  | cont => obtain ⟨_, _, _, q⟩ := hs; exact q.elim
/-- what is known of the law's promise at the head's heap h; cs: the code objects with their tables -/
def LawAtG (l : PySem.W.OpenLaw) (w : World) (K : PySem.W.Frag) (k n : Nat) (x : Str) (mg : Str → Option Value) (fa : Addr) (h : Heap) : Prop :=
  ∃ (fd : FuncData) (cs : List (Addr × Addr)) (sp : Sp), (∀ p ∈ cs, h.get? p.2 = some { cls := .none, data := .fields #[] }) ∧ (∀ p ∈ cs, K.lookup p.2 = none) ∧ (∀ p ∈ cs, PySem.W.CodeHd h p.1 p.2) ∧ (∃ o, h.get? sysModules = some o ∧ o.cls = .type "dict") ∧ (∀ (s : Shared) (u : Value), BindsTo s fd ⟨[u], []⟩ [(x, u)]) ∧
    (∀ (H : Hp) (a : Addr) (ns : List Int), ns.length ≤ n → (∀ z ∈ ns, Builtin.Int.intBits z ≤ 1048576) → (∀ p ∈ cs, H p.2 = some (.tbl #[])) → SqL K H a (ns.map V.int) → sp [.ref a] H (fun v _ => v = .bl true) fun _ _ _ => False) ∧
    ∀ base : Heap, K.In base → base.Ns mainGlobals mg → (∀ p ∈ cs, LamX.TabB base mg p.1 p.2) → (∃ o, base.get? sysModules = some o) → FnG l.prog w K mg base k fa fd [x] sp

/-- the call of the law's def behind the head; T: the tables' places -/
theorem law_callG {mb : Str → Option Value} {k : Nat} {fa a : Addr} {cs : List (Addr × Addr)} {fd : FuncData} {x : Str} {sp : Sp} {s₁ : Shared} {vs : List Value} {ns : List Int}
    (KX : K.In s₁.heap) (hns : s₁.heap.Ns mainGlobals mg) (hb : s₁.heap.Ns builtinsNs mb) (hbb : ∀ x : Str, x ≠ "__name__" → mb x = bootBuiltins x) (hlim : s₁.heap.NoLimit) (hg : s₁.gens = #[])
    (hT : ∀ p ∈ cs, s₁.heap.get? p.2 = some { cls := .none, data := .fields #[] }) (nT : ∀ p ∈ cs, K.lookup p.2 = none) (C : ∀ p ∈ cs, PySem.W.CodeHd s₁.heap p.1 p.2)
    (hbm : ∃ (bm : Addr) (ob : Obj), mg "__builtins__" = some (.ref bm) ∧ bm ≠ builtinsNs ∧ s₁.heap.get? bm = some ob ∧ ob.cls = .type "module" ∧ ob.dict = some builtinsNs ∧ ob.data = .plain)
    (ha : s₁.heap.get? a = some { cls := .type "list", data := .seq vs.toArray }) (hi : IntsAre vs ns) (hl : ns.length ≤ sizeLine) (hr : Room k callerA)
    (F : ∀ base : Heap, K.In base → base.Ns mainGlobals mg → (∀ p ∈ cs, LamX.TabB base mg p.1 p.2) → (∃ o, base.get? sysModules = some o) → FnG P w K mg base k fa fd [x] sp) (hsm : ∃ o, s₁.heap.get? sysModules = some o ∧ o.cls = .type "dict") (hbind : ∀ (s : Shared) (u : Value), BindsTo s fd ⟨[u], []⟩ [(x, u)])
    (hsp : ∀ H : Hp, (∀ p ∈ cs, H p.2 = some (.tbl #[])) → SqL K H a (ns.map V.int) → sp [.ref a] H (fun v _ => v = .bl true) fun _ _ _ => False) :
    codeAny (model P w) callerA (.call (.ref fa) ⟨[.ref a], []⟩) (fun r s' => r = .ok (.ret (.bool true)) ∧ OldK s₁.heap s'.heap ∧ s'.os = s₁.os ∧ AllBare s'.gens) s₁ := by
  have rv := vals_ints hi
  have lenV := hi.length
  -- the places of the tables
  have isT : ∀ b : Addr, (∃ p ∈ cs, p.2 = b) → s₁.heap.get? b = some { cls := .none, data := .fields #[] } := fun b ⟨p, hp, e⟩ => e ▸ hT p hp
  have aT : ¬ ∃ p ∈ cs, p.2 = a := fun z => by
    have q := (isT a z).symm.trans ha
    cases q
  -- H: nothing but tables and (where it is no object of the module) the script
  have core : ∀ H : Hp, (∀ p ∈ cs, H p.2 = some (.tbl #[])) → (∀ b, H b = none ∨ (∃ p ∈ cs, p.2 = b) ∨ ∃ o xs, H b = some (.frz o (.lst xs))) → SqL K H a (ns.map V.int) → HOk P w H s₁.heap → (∀ b, H b ≠ none → b = a ∨ ∃ p ∈ cs, p.2 = b) → (H a ≠ none → K.lookup a = none) →
      codeAny (model P w) callerA (.call (.ref fa) ⟨[.ref a], []⟩) (fun r s' => r = .ok (.ret (.bool true)) ∧ OldK s₁.heap s'.heap ∧ s'.os = s₁.os ∧ AllBare s'.gens) s₁ := by
    intro H hH hO hS hok hA hK
    have low : ∀ {b : Addr} {o : Obj}, s₁.heap.get? b = some o → H b = none → (hidT s₁.heap H).get? b = some o := fun e n => hidT_get e n
    have untr : ∀ {b : Addr} {o : Obj}, s₁.heap.get? b = some o → (∀ vs n, o.data ≠ .seq vs n) → o.data ≠ .fields #[] → H b = none := fun {b o} e h1 h2 => by
      refine Classical.byContradiction fun q => ?_
      rcases hA b q with e' | e'
      · subst e'; rw [ha] at e; cases e; exact h1 _ _ rfl
      · rw [isT b e'] at e; cases e; exact h2 rfl
    have nsL : ∀ {b : Addr} {m : Str → Option Value}, s₁.heap.Ns b m → (hidT s₁.heap H).Ns b m := fun {b m} ⟨o, es, ep, e, d, r⟩ =>
      ⟨o, es, ep, low e (untr e (fun _ _ z => by rw [d] at z; cases z) fun z => by rw [d] at z; cases z), d, r⟩
    have hKb : K.In (hidT s₁.heap H) := fun b o e => low (KX b o e) (Classical.byContradiction fun q => by
      rcases hA b q with e' | ⟨p, hp, ep⟩
      · subst e'; rw [hK q] at e; cases e
      · rw [← ep, nT p hp] at e; cases e)
    have hM : L2.Mod K mg (hidT s₁.heap H) := ⟨hKb, nsL hns, ⟨mb, nsL hb, hbb⟩, hlim.elim fun mc h => ⟨mc, nsL h.1, h.2⟩⟩
    have gne : ∀ (b : Addr), s₁.heap.get? b = some { cls := .none, data := .fields #[] } → mainGlobals ≠ b := fun b e z => by
      obtain ⟨o, es, ep, e', hd, _⟩ := hns
      rw [z, e] at e'; cases e'; cases hd
    have TB : ∀ p ∈ cs, LamX.TabB (hidT s₁.heap H) mg p.1 p.2 := fun p hp => by
      refine ⟨?_, ?_, gne _ (hT p hp)⟩
      · obtain ⟨o, us, file, tf, flags, tg, inF, text, tt, e1, r0, r1, r2, r⟩ := C p hp
        refine ⟨o, us, file, tf, flags, tg, inF, text, tt, low e1 (untr e1 (fun _ _ z => ?_) fun z => ?_), r0, r1, r2, r⟩
        · rw [r1] at z; cases z
        · rw [r1] at z; cases z; simp at r2
      · obtain ⟨bm, ob, b1, b2, b3, b4, b5, b6⟩ := hbm
        refine ⟨bm, ob, b1, b2, fun q => ?_, fun q => ?_, low b3 (untr b3 (fun _ _ z => ?_) fun z => ?_), b4, b5, b6⟩
        · obtain ⟨o, es, ep, e, hd, _⟩ := hns
          rw [q, e] at b3; cases b3; rw [hd] at b6; cases b6
        · rw [q, hT p hp] at b3; cases b3; cases b6
        · rw [b6] at z; cases z
        · rw [b6] at z; cases z
    have e0 : Env0 P w K mg (hidT s₁.heap H) callerA [] s₁ H := ⟨rfl, hM, fun b o e => of_hidT e, Nat.le_of_eq (hidT_size _ _), trivial, fun b hb => absurd (show b ∈ ([] : List Addr) from hb) (by simp), hok, .of_eq hg⟩
    have sm : ∃ o, (hidT s₁.heap H).get? sysModules = some o := by
      obtain ⟨o, e, c⟩ := hsm
      refine ⟨o, low e (Classical.byContradiction fun q => ?_)⟩
      rcases hA _ q with e' | e'
      · rw [e', ha] at e; cases e; exact absurd (Value.type.inj c) (by decide)
      · rw [isT _ e'] at e; cases e; cases c
    refine codeAny_mono ((F _ hKb (nsL hns) TB sm).run callerA [] s₁ H ⟨[.ref a], []⟩ [.ref a] [.ref a] _ _ rfl hr e0 (hbind s₁ (.ref a)) (.cons rfl .nil) (hsp H hH hS)) fun r s' h => ?_
    match r, h with
    | .error e, h => exact False.elim h
    | .ok .next, h => exact False.elim h
    | .ok .brk, h => exact False.elim h
    | .ok .cont, h => exact False.elim h
    | .ok (.ret u), h =>
      obtain ⟨v, H', os, bare, un, hok', r', q⟩ := h
      have q' : v = .bl true := q
      subst q'
      obtain rfl : u = Value.bool true := r'
      have key : ∀ b o, (¬ ∃ p ∈ cs, p.2 = b) → s₁.heap.get? b = some o → s'.heap.get? b = some o := fun b o nb e => by
        rcases hO b with z | z | ⟨ob, xs, z⟩
        · exact un.keep b o e z (fun hm => absurd (show b ∈ ([] : List Addr) from hm) (by simp)) (by simp)
        · exact absurd z nb
        · have e1 := (hok b _ z).1
          rw [e] at e1; cases e1
          exact (hok' b _ (un.frzs b o _ z)).1
      have grown : ∀ p ∈ cs, ∃ more : Array Value, s'.heap.get? p.2 = some { cls := .none, data := .fields more } := fun p hp => by
        obtain ⟨more, z⟩ := un.tbls p.2 #[] (hH p hp)
        exact ⟨_, hok' p.2 _ z⟩
      refine ⟨rfl, ⟨fun b o e => ?_, fun b o e => ?_⟩, os, bare⟩
      · by_cases hb : ∃ p ∈ cs, p.2 = b
        · obtain ⟨p, hp, rfl⟩ := hb
          obtain ⟨more, hm⟩ := grown p hp
          rw [hT p hp] at e; cases e
          exact .inr (.inl ⟨((C p hp).tab (hT p hp)).isCodeTable, rfl, #[], more, rfl, by rw [Array.empty_append]; exact hm⟩)
        · exact .inl (key b o hb e)
      · by_cases hb : ∃ p ∈ cs, p.2 = b
        · obtain ⟨p, hp, rfl⟩ := hb
          obtain ⟨more, hm⟩ := grown p hp
          exact ⟨_, hm⟩
        · exact ⟨o, key b o hb e⟩
  have dec : ∀ b : Addr, Decidable (∃ p ∈ cs, p.2 = b) := fun b => Classical.propDecidable _
  cases hk : K.lookup a with
  | some o =>
    have e := KX a o hk
    rw [ha] at e; cases e
    refine core (fun b => if ∃ p ∈ cs, p.2 = b then some (.tbl #[]) else none) (fun p hp => if_pos ⟨p, hp, rfl⟩) (fun b => ?_) (.inr ⟨_, vs.toArray, _, hk, rfl, rfl, rfl, by rw [List.size_toArray, lenV]; exact hl, by simpa using rv⟩) (fun b u z => ?_) (fun b z => ?_) fun z => absurd (if_neg aT) z
    · by_cases hb : ∃ p ∈ cs, p.2 = b
      · exact .inr (.inl hb)
      · exact .inl (if_neg hb)
    · by_cases hb : ∃ p ∈ cs, p.2 = b
      · have z' := (if_pos hb).symm.trans z; cases z'; exact isT b hb
      · have z' := (if_neg hb).symm.trans z; cases z'
    · by_cases hb : ∃ p ∈ cs, p.2 = b
      · exact .inr hb
      · exact absurd (if_neg hb) z
  | none =>
    refine core (fun b => if b = a then some (.frz { cls := .type "list", data := .seq vs.toArray } (.lst (ns.map V.int))) else if ∃ p ∈ cs, p.2 = b then some (.tbl #[]) else none) (fun p hp => (if_neg (fun z => aT ⟨p, hp, z⟩)).trans (if_pos ⟨p, hp, rfl⟩)) (fun b => ?_)
      (.inl (.inr ⟨{ cls := .type "list", data := .seq vs.toArray }, if_pos rfl⟩)) (fun b u z => ?_) (fun b z => ?_) fun _ => hk
    · by_cases hb : b = a
      · exact .inr (.inr ⟨_, _, if_pos hb⟩)
      · by_cases hb2 : ∃ p ∈ cs, p.2 = b
        · exact .inr (.inl hb2)
        · exact .inl ((if_neg hb).trans (if_neg hb2))
    · by_cases hb : b = a
      · have z' := (if_pos hb).symm.trans z; cases z'
        rw [hb]
        exact ⟨ha, by rw [List.length_map]; exact hl, vs, _, rv, ha⟩
      · have z1 := (if_neg hb).symm.trans z
        by_cases hb2 : ∃ p ∈ cs, p.2 = b
        · have z' := (if_pos hb2).symm.trans z1; cases z'; exact isT b hb2
        · have z' := (if_neg hb2).symm.trans z1; cases z'
    · by_cases hb : b = a
      · exact .inl hb
      · by_cases hb2 : ∃ p ∈ cs, p.2 = b
        · exact .inr hb2
        · exact absurd ((if_neg hb).trans (if_neg hb2)) z
end
theorem walk_ofG {l : PySem.W.OpenLaw} {n k : Nat} {q : Program} {loose : List Str} {XP : (Str → Option Value) → Heap → Prop} {YP : World → Heap → Prop} {d : DefRec} {x : Str}
    (hn : l.most = some n) (hn2 : n ≤ sizeLine) (hdf : d.params.defaults = []) (hr : Room k callerA)
    (F : ∀ (w : World) (mg : Str → Option Value) (fa : Addr) (h : Heap), YP w h → h.Ns mainGlobals mg → mg d.name = some (.ref fa) → ∃ K : PySem.W.Frag, K.In h ∧ LawAtG l w K k n x mg fa h) :
    PySem.W.WalkO q loose XP YP l.row.toRowW d [] (fun f vs => PySem.call f vs) := by
  refine Att.attach_callB hn hdf fun w s₀ s₁ mg mb fa o pm cd doc a vs ns G Y ho hd hcd hmg hobj hints hlen hbits hg => ?_
  obtain ⟨K, KX, fd, cs, sp, hT, nT, C, hsm, hb, hsp, hF⟩ := F w mg fa _ Y G.T.g hmg
  exact law_callG KX G.T.g G.T.b G.T.builtins G.T.nolimit hg hT nT C G.T.bmain hobj hints (Nat.le_trans hlen hn2) hr hF hsm hb fun H hH hS => hsp H a ns hlen hbits hH hS
end EndG

set_option Elab.async false
set_option linter.all false
set_option maxRecDepth 100000
set_option maxHeartbeats 2000000
/-! Kit: a def of the text with its facts, constants, a few operators. -/
namespace Kit
open PySem PySem.Spec PyProof.Rows L2 GxR Tree

/-- a def without defaults as it stands behind the top -/
structure DefAt (K : PySem.W.Frag) (mg : Str → Option Value) (x : Str) (st : Stmt) (ps : List Str) (f : Addr) (fd : FuncData) : Prop where
  F : FunD K x x (defArgs st) (defBody st) (defScope st) [] [] f fd
  g : mg x = some (.ref f)
  b : Binds K fd ps []
theorem DefAt.kp {K : PySem.W.Frag} {mg : Str → Option Value} {x : Str} {st : Stmt} {ps : List Str} {f : Addr} {fd : FuncData} (D : DefAt K mg x st ps f fd) : PySem.W.keepIn K (.ref f) = true := D.F.kp
/-- the code object of the def and its table -/
structure TabAt (base : Heap) (mg : Str → Option Value) (fd : FuncData) (c P : Addr) : Prop where
  code : fd.code = .ref c
  tb : LamX.TabB base mg c P
section
variable {P : Program} {w : World} {K : PySem.W.Frag} {mg : Str → Option Value} {base : Heap} {x : Str} {st : Stmt} {ps : List Str} {f : Addr} {fd : FuncData}
/-- THE RULE for a def; its code object is told -/
theorem DefAt.ok {N : List Str} {k : Nat} {sp : Sp} (D : DefAt K mg x st ps f fd) (S : FnScope N ps (defScope st)) (len : ∀ vs H Q E, sp vs H Q E → vs.length = ps.length)
    (hbody : ∀ (cdv : Value) (A : Around) (outer : List Env) (s : Shared) (H : Hp) (vs : List V) (Q : VK) (E : XK), fd.code = cdv → Room k (A.deeper (envOfC x (defScope st) s.heap.objs.size f cdv)) → sp vs H Q E →
      ∃ t, PSs (cxOf CX0 P w K mg base N x (defScope st) f cdv A outer s H E).nox (defBody st) t ∧ t { nx := fun _ H' => Q .non H', rt := Q } (start N vs) H) : FnOk P w K mg base CX0 (k + 1) f fd ps sp := by
  obtain ⟨oc, od, dV, kV, doc, pm, an, cdv, ct, osl, rfl, lk, hcd, _, _⟩ := D.F.ex
  exact fn_of lk hcd S len fun A outer s H vs Q E hr hsp => by
    obtain ⟨t, h, q⟩ := hbody cdv A outer s H vs Q E rfl hr hsp
    exact ⟨t, h.nox, q⟩
end
/-- the built-in names that the text does not bind -/
structure Bt (mg : Str → Option Value) : Prop where
  len : mg "len" = none
  range : mg "range" = none
  isinstance : mg "isinstance" = none
  int : mg "int" = none
  bool : mg "bool" = none
  str : mg "str" = none
  list : mg "list" = none
  tuple : mg "tuple" = none
  set : mg "set" = none
  dict : mg "dict" = none
  sorted : mg "sorted" = none
  repr : mg "repr" = none
  max : mg "max" = none
  min : mg "min" = none
  sum : mg "sum" = none
  all : mg "all" = none
  any : mg "any" = none
section
variable {X : Cx}
/-- a constant of the module -/
theorem pe_gint {x : Str} {i : Int} {pos : Pos} (hg : Gl X x) (hm : ∃ t, X.mg x = some (.int i t)) (hd : (x == ("__debug__" : Str)) = false := by decide) : PE X (.Name x pos) (tC (.int i)) := by
  obtain ⟨t, hm⟩ := hm
  exact pe_glob hg hm ⟨_, rfl⟩ hd
/-! rules with the written part named (so that a reading within a block does not hang on the block) -/
theorem ix_listK (K : PySem.W.Frag) (h : X.K = K) : IxR X (rIxL K) := h ▸ ix_list
theorem ix_tupK (K : PySem.W.Frag) (h : X.K = K) : IxR X (rIxT K) := h ▸ ix_tup
theorem sl_listK (K : PySem.W.Frag) (h : X.K = K) : SlR X (rSlL K) := h ▸ sl_list
theorem sl_tupAK (K : PySem.W.Frag) (h : X.K = K) : SlR X (rSlA K) := h ▸ sl_tupA
def rLenK (K : PySem.W.Frag) : List V → Hp → VK → Prop := fun xs H Q => ∃ p ys, xs = [.ref p] ∧ (SqL K H p ys ∨ SqT K H p ys) ∧ Q (.int ys.length) H
theorem call_lenK (K : PySem.W.Frag) (h : X.K = K) : CallR X (.builtin "len") (rLenK K) := h ▸ call_len_seq
theorem call_isiK' (K : PySem.W.Frag) (h : X.K = K) : CallR X (.builtin "isinstance") (rIsi K) := h ▸ call_isi
theorem call_isiTK (K : PySem.W.Frag) (h : X.K = K) : CallR X (.builtin "isinstance") (rIsiT K) := h ▸ call_isiT
def rListK (K : PySem.W.Frag) : List V → Hp → VK → Prop := fun xs H Q => ∃ p ys, xs = [.ref p] ∧ (SqL K H p ys ∨ SqT K H p ys) ∧ ∀ l, H l = none → Q (.ref l) (upd H l (.lst ys))
theorem call_listK (K : PySem.W.Frag) (h : X.K = K) : CallR X (.type "list") (rListK K) := h ▸ call_list_of
def rTupleK (K : PySem.W.Frag) : List V → Hp → VK → Prop := fun xs H Q => ∃ p ys, xs = [.ref p] ∧ ((SqL K H p ys ∧ ∀ l, H l = none → Q (.ref l) (upd H l (.tup ys))) ∨ (SqT K H p ys ∧ Q (.ref p) H))
theorem call_tupleK (K : PySem.W.Frag) (h : X.K = K) : CallR X (.type "tuple") (rTupleK K) := h ▸ call_tuple_of
theorem op_inK (K : PySem.W.Frag) (h : X.K = K) : OpR X (compareOp .In) (rIn K false) := h ▸ op_in_seq
theorem op_notInK (K : PySem.W.Frag) (h : X.K = K) : OpR X (compareOp .NotIn) (rIn K true) := h ▸ op_notIn_seq
theorem op_catAK (K : PySem.W.Frag) (h : X.K = K) : OpR X (binaryOp .Add) (rCatA K) := h ▸ op_catA
theorem op_eqDK (K : PySem.W.Frag) (h : X.K = K) (hu : X.A.units + 64 < cLine) : OpR X (compareOp .Eq) (rEqD K) := h ▸ op_eqD hu
theorem op_neDK (K : PySem.W.Frag) (h : X.K = K) (hu : X.A.units + 64 < cLine) : OpR X (compareOp .NotEq) (rNeD K) := h ▸ op_neD hu
theorem pi_listK (K : PySem.W.Frag) (h : X.K = K) {tg l : Expr} {tl : TE} (hl : PE X l tl) : PI X tg l (iList K tl) := h ▸ pi_list hl
theorem pi_tupK (K : PySem.W.Frag) (h : X.K = K) {tg l : Expr} {tl : TE} (hl : PE X l tl) : PI X tg l (iTup K tl) := h ▸ pi_tup hl
theorem pg_tupK (K : PySem.W.Frag) (hK : X.K = K) {es : List Expr} {k : Nat} {t : TGs} {n : Nat} {pos : Pos} (hc : X.calm = true) (h : PGs X es t)
    (hn : (assignEach es X.env).length = n := by rfl) (hst : (assignEach es X.env).findIdx? (·.1) = none := by rfl) : PG X (.Tuple es k pos) (gTup K n t) := hK ▸ pg_tup hc h hn hst
theorem pe_revLK (K : PySem.W.Frag) (h : X.K = K) {e : Expr} {te : TE} {k j : Nat} {p1 p2 p3 pos : Pos} (he : PE X e te) : PE X (.Subscript e (.Slice none none (some (.UnaryOp .USub (.Constant (.int 1) k p1) p2)) p3) pos) (tRevL K te) := h ▸ pe_revL he
/-- ** of ints that are not too great -/
def CPowW (i j : Int) : Prop := 0 ≤ j ∧ (i.natAbs.log2 + 1 : Nat) * j ≤ 2 ^ 27
theorem op_powW : OpR X (binaryOp .Pow) (rI CPowW fun i j => .int (i ^ j.toNat)) := opI fun i j _ _ _ _ _ hc q => by
  refine pow_int hc.1 ?_ q
  have h1 : Builtin.Int.intBits i ≤ i.natAbs.log2 + 1 := by
    unfold Builtin.Int.intBits
    split <;> omega
  have h2 : ((Builtin.Int.intBits i : Nat) : Int) * j ≤ ((i.natAbs.log2 + 1 : Nat) : Int) * j := Int.mul_le_mul_of_nonneg_right (by exact_mod_cast h1) hc.1
  exact Int.le_trans h2 hc.2
theorem powW_ok {i j : Int} {b : Nat} (hj : 0 ≤ j) (hi : i.natAbs < 2 ^ b) (h0 : 0 < b) (h : (b : Int) * j ≤ 2 ^ 27) : CPowW i j := by
  refine ⟨hj, ?_⟩
  have h1 := PySem.Flt.log2_lt_of h0 hi
  exact Int.le_trans (Int.mul_le_mul_of_nonneg_right (by omega) hj) h
end
end Kit

set_option Elab.async false
set_option linter.all false
set_option maxRecDepth 100000
set_option maxHeartbeats 2000000
/-! Data: what a day is, as a total function on trees. -/
namespace Data
open PySem PySem.Spec PyProof.Rows L2 GxR Tree Kit

def isiD (T : String) : PyData → Bool
  | .int _ => T == "int"
  | .bool _ => T == "int" || T == "bool"
  | .none => T == "NoneType"
  | .str _ => T == "str"
  | .list _ => T == "list"
  | .tuple _ => T == "tuple"
  | .dict _ => T == "dict"
theorem kit_int {K : PySem.W.Frag} (d : PyData) : PySem.W.kitOne K (.type (tyD d)) (.type "int") = some (isiD "int" d) := by
  cases d <;> (refine kit_ty ?_; dsimp only [tyD, isiD]; decide +kernel)
theorem kit_bool {K : PySem.W.Frag} (d : PyData) : PySem.W.kitOne K (.type (tyD d)) (.type "bool") = some (isiD "bool" d) := by
  cases d <;> (refine kit_ty ?_; dsimp only [tyD, isiD]; decide +kernel)
theorem kit_list {K : PySem.W.Frag} (d : PyData) : PySem.W.kitOne K (.type (tyD d)) (.type "list") = some (isiD "list" d) := by
  cases d <;> (refine kit_ty ?_; dsimp only [tyD, isiD]; decide +kernel)
theorem kit_tuple {K : PySem.W.Frag} (d : PyData) : PySem.W.kitOne K (.type (tyD d)) (.type "tuple") = some (isiD "tuple" d) := by
  cases d <;> (refine kit_ty ?_; dsimp only [tyD, isiD]; decide +kernel)

def isNum : PyData → Bool
  | .int _ => true
  | _ => false
def isWh (lo hi : Int) : PyData → Bool
  | .int i => decide (lo ≤ i) && decide (i ≤ hi)
  | _ => false
def isLs (lo hi : Int) : PyData → Bool
  | .list xs => decide (lo ≤ (xs.length : Int)) && decide ((xs.length : Int) ≤ hi)
  | _ => false
def isTp (n : Int) : PyData → Bool
  | .tuple xs => decide ((xs.length : Int) = n)
  | _ => false
def listAll (p : PyData → Bool) : PyData → Bool
  | .list xs => xs.all p
  | _ => false
/-- the ints among the things -/
def intsD : List PyData → List Int
  | [] => []
  | .int i :: r => i :: intsD r
  | _ :: r => intsD r
def risesB (ns : List Int) : Bool := decide (ns.Pairwise (· < ·))
def heardB (craft : Int) : PyData → Bool
  | .list xs => xs.all (isWh 0 (craft - 1)) && risesB (intsD xs)
  | _ => false
def sightB (hours craft : Int) : PyData → Bool := fun d => isLs hours hours d && listAll (heardB craft) d
def storesB : PyData → Bool := fun d => isLs 1 4 d && listAll (isWh 0 5) d
def sightsB (hours craft : Int) : PyData → Bool := fun d => isLs 1 3 d && listAll (sightB hours craft) d
def isNone : PyData → Bool
  | .none => true
  | _ => false
def asksB (dishes : Int) : PyData → Bool := fun d => isLs dishes dishes d && listAll (fun a => isNone a || isWh 0 999 a) d
def blockB (hours craft : Int) : PyData → Bool
  | .tuple [house, number, ready, due, worth] => isWh 0 5 house && (isWh 0 (craft - 1) number && (isWh 0 (hours - 1) ready && ((isNone due || (match ready with | .int r => isWh r (hours - 1) due | _ => false)) && isWh 1 9999 worth)))
  | _ => false
def blocksB (hours craft : Int) : PyData → Bool := fun d => isLs 0 14 d && listAll (blockB hours craft) d
def lenD : PyData → Int
  | .list xs => xs.length
  | .tuple xs => xs.length
  | _ => 0
def intOf : PyData → Int
  | .int i => i
  | _ => 0
def isDayB : PyData → Bool
  | .tuple [hours, stores, sights, asks, blocks] => isWh 1 10 hours && (storesB stores && (sightsB (intOf hours) (lenD stores) sights && (asksB (lenD sights) asks && blocksB (intOf hours) (lenD stores) blocks)))
  | _ => false

theorem isWh_int {lo hi : Int} {d : PyData} (h : isWh lo hi d = true) : ∃ i, d = .int i ∧ lo ≤ i ∧ i ≤ hi := by
  cases d with
  | int i =>
    have h' : (decide (lo ≤ i) && decide (i ≤ hi)) = true := h
    simp only [Bool.and_eq_true, decide_eq_true_eq] at h'
    exact ⟨i, rfl, h'.1, h'.2⟩
  | _ => cases h
theorem isLs_list {lo hi : Int} {d : PyData} (h : isLs lo hi d = true) : ∃ xs, d = .list xs ∧ lo ≤ (xs.length : Int) ∧ (xs.length : Int) ≤ hi := by
  cases d with
  | list xs =>
    have h' : (decide (lo ≤ (xs.length : Int)) && decide ((xs.length : Int) ≤ hi)) = true := h
    simp only [Bool.and_eq_true, decide_eq_true_eq] at h'
    exact ⟨xs, rfl, h'.1, h'.2⟩
  | _ => cases h
theorem isTp_tuple {n : Int} {d : PyData} (h : isTp n d = true) : ∃ xs, d = .tuple xs ∧ (xs.length : Int) = n := by
  cases d with
  | tuple xs => exact ⟨xs, rfl, of_decide_eq_true h⟩
  | _ => cases h
theorem tuple5 {xs : List PyData} (h : (xs.length : Int) = 5) : ∃ a b c d e, xs = [a, b, c, d, e] := by
  match xs, h with
  | [a, b, c, d, e], _ => exact ⟨a, b, c, d, e, rfl⟩
  | [], h => simp at h
  | [_], h => simp at h
  | [_, _], h => simp at h
  | [_, _, _], h => simp at h
  | [_, _, _, _], h => simp at h
  | _ :: _ :: _ :: _ :: _ :: _ :: r, h => simp at h; omega
theorem all_ints {lo hi : Int} : ∀ {xs : List PyData}, xs.all (isWh lo hi) = true → xs = (intsD xs).map PyData.int
  | [], _ => rfl
  | x :: r, h => by
    rw [List.all_cons, Bool.and_eq_true] at h
    obtain ⟨i, rfl, _, _⟩ := isWh_int h.1
    show PyData.int i :: r = PyData.int i :: (intsD r).map PyData.int
    rw [← all_ints h.2]
/-! ### how many parts -/
mutual
def sz : PyData → Nat
  | .none => 1
  | .bool _ => 1
  | .int _ => 1
  | .str _ => 1
  | .list xs => szAll xs + 1
  | .tuple xs => szAll xs + 1
  | .dict _ => 1
def szAll : List PyData → Nat
  | [] => 0
  | x :: xs => sz x + szAll xs
end
theorem sz_pos (d : PyData) : 1 ≤ sz d := by
  cases d <;> simp only [sz] <;> omega
theorem szAll_mem : ∀ {xs : List PyData} {d : PyData}, d ∈ xs → sz d ≤ szAll xs
  | x :: xs, d, h => by
    simp only [szAll]
    rcases List.mem_cons.mp h with rfl | h
    · omega
    · have := szAll_mem h
      omega
theorem szAll_len : ∀ xs : List PyData, xs.length ≤ szAll xs
  | [] => Nat.le_refl _
  | x :: xs => by
    have h1 := sz_pos x
    have h2 := szAll_len xs
    simp only [szAll, List.length_cons]
    omega
theorem szAll_append : ∀ xs ys : List PyData, szAll (xs ++ ys) = szAll xs + szAll ys
  | [], ys => by simp [szAll]
  | x :: xs, ys => by
    simp only [List.cons_append, szAll, szAll_append xs ys]
    omega
theorem intsD_length : ∀ xs : List PyData, (intsD xs).length ≤ xs.length
  | [] => Nat.le_refl _
  | x :: xs => by
    have ih := intsD_length xs
    cases x <;> simp only [intsD, List.length_cons] <;> omega
end Data

set_option Elab.async false
set_option linter.all false
set_option maxRecDepth 100000
set_option maxHeartbeats 2000000
/-! Loops: all, any over lists of trees and over ranges; comprehensions over them; what they keep is said by Kx. -/
namespace Loops
open PySem PySem.Spec PyProof.Rows L2 GxR GX Tree Kit
section
variable {K : PySem.W.Frag} {P : Addr} {g : TG} {te : TE} {vs : List Nat} {σ : L2.St} {H : Hp} {Q : VK}
/-- all(e for x in l), l the list at a: one turn hands on any wish R of the truth -/
theorem all_tree {a : Addr} {xs : List V} {ds : List PyData} {pd : PyData → Bool} (ha : H a = some (.lst xs)) (hd : TrAll [] H xs ds) (hT : TabG H P)
    (step : ∀ x d H', d ∈ ds → Tr [] H' x d → Kx [] H H' → ∀ R : Bool → Hp → Prop, (∀ H'', Kx [] H' H'' → R (pd d) H'') → g x (wipe σ vs) H' fun σ2 H2 => wipe σ2 vs = wipe σ vs ∧ te σ2 H2 fun y H4 => ∃ b, y = .bl b ∧ R b H4)
    (q : ∀ H', Kx [] H H' → Q (.bl (ds.all pd)) H') :
    TabG H P ∧ ∀ H2, Tabbed P H H2 → ∃ W : Nat → Nat → Hp → Prop, (∃ m, W 0 m H2) ∧ GTurns (Itl K a) g tYes te vs σ W (fun H => Q (.bl true) H) (consAll fun b H => Q (.bl b) H) := by
  refine ⟨hT, fun H2 ht => ?_⟩
  have hlen := hd.length
  refine ⟨fun i m H' => m = xs.length - i ∧ i ≤ xs.length ∧ Kx [] H H' ∧ (ds.take i).all pd = true, ⟨xs.length, by simp, Nat.zero_le _, Kx.tabbed hT ht, by simp⟩, ?_⟩
  rintro i m H' ⟨rfl, hi, k, hp⟩
  have hS : SqL K H' a xs := SqL.of (k.lst (by simp) ha)
  by_cases hlt : i < xs.length
  · have hdl : i < ds.length := by omega
    have ei : ds[i]? = some ds[i] := List.getElem?_eq_getElem hdl
    have et : (ds.take (i + 1)).all pd = ((ds.take i).all pd && pd ds[i]) := by
      rw [List.take_add_one, ei, List.all_append]
      simp
    refine .inr ⟨⟨xs, xs[i], hS, by simp [hlt]⟩, fun H'' => Kx [] H H'' ∧ pd ds[i] = true, fun H'' z => ⟨xs.length - (i + 1), by omega, rfl, hlt, z.1, by rw [et, hp, z.2]; rfl⟩, fun x H5 y => ?_⟩
    obtain ⟨rfl, y⟩ := y
    have hx := y xs hS
    obtain ⟨d, e1, e2⟩ := (hd.up k).get hx
    rw [ei] at e1
    cases e1
    have st := step x ds[i] H5 (List.getElem_mem hdl) e2 k (fun b H4 => if b = true then (Kx [] H H4 ∧ pd ds[i] = true) else Q (.bl false) H4) (fun H'' k2 => by
      cases hb : pd ds[i] with
      | true => exact ⟨k.trans k2, rfl⟩
      | false =>
        have hall : ds.all pd = false := by
          rw [Bool.eq_false_iff]
          intro z
          rw [List.all_eq_true.mp z _ (List.getElem_mem hdl)] at hb
          cases hb
        have := q H'' (k.trans k2)
        rw [hall] at this
        exact this)
    exact st
  · have e : i = xs.length := by omega
    subst e
    refine .inl ⟨⟨xs, hS, Nat.le_refl _⟩, ?_⟩
    have := q H' k
    rw [hlen, List.take_length] at hp
    rw [hp] at this
    exact this
/-- all(e for i in range(n)) -/
theorem all_range {n : Nat} {p : Nat → Bool} (hT : TabG H P)
    (step : ∀ i H', i < n → Kx [] H H' → ∀ R : Bool → Hp → Prop, (∀ H'', Kx [] H' H'' → R (p i) H'') → g (.int i) (wipe σ vs) H' fun σ2 H2 => wipe σ2 vs = wipe σ vs ∧ te σ2 H2 fun y H4 => ∃ b, y = .bl b ∧ R b H4)
    (q : ∀ H', Kx [] H H' → Q (.bl ((List.range n).all p)) H') :
    TabG H P ∧ ∀ H2, Tabbed P H H2 → ∃ W : Nat → Nat → Hp → Prop, (∃ m, W 0 m H2) ∧ GTurns (Itr 0 n) g tYes te vs σ W (fun H => Q (.bl true) H) (consAll fun b H => Q (.bl b) H) := by
  refine ⟨hT, fun H2 ht => ?_⟩
  refine ⟨fun i m H' => m = n - i ∧ i ≤ n ∧ Kx [] H H' ∧ ∀ j, j < i → p j = true, ⟨n, by simp, Nat.zero_le _, Kx.tabbed hT ht, fun j hj => absurd hj (Nat.not_lt_zero _)⟩, ?_⟩
  rintro i m H' ⟨rfl, hi, k, hp⟩
  by_cases hlt : i < n
  · refine .inr ⟨hlt, fun H'' => Kx [] H H'' ∧ p i = true, fun H'' z => ⟨n - (i + 1), by omega, rfl, hlt, z.1, fun j hj => ?_⟩, fun x H5 y => ?_⟩
    · rcases Nat.lt_or_eq_of_le (Nat.le_of_lt_succ hj) with h | h
      · exact hp j h
      · rw [h]; exact z.2
    · obtain ⟨rfl, rfl⟩ := y
      rw [Int.zero_add]
      refine step i H5 hlt k (fun b H4 => if b = true then (Kx [] H H4 ∧ p i = true) else Q (.bl false) H4) (fun H'' k2 => ?_)
      cases hb : p i with
      | true => exact ⟨k.trans k2, rfl⟩
      | false =>
        have hall : (List.range n).all p = false := by
          rw [Bool.eq_false_iff]
          intro z
          rw [List.all_eq_true.mp z i (List.mem_range.mpr hlt)] at hb
          cases hb
        have := q H'' (k.trans k2)
        rw [hall] at this
        exact this
  · have e : i = n := by omega
    subst e
    refine .inl ⟨Nat.le_refl _, ?_⟩
    have := q H' k
    rw [show (List.range i).all p = true from List.all_eq_true.mpr fun j hj => hp j (List.mem_range.mp hj)] at this
    exact this
/-- the same at a name that holds the list -/
theorem all_treeV {j : Nat} {a : Addr} {xs : List V} {ds : List PyData} (pd : PyData → Bool) (hσ : σ[j]? = some (some (.ref a))) (ha : H a = some (.lst xs)) (hd : TrAll [] H xs ds) (hT : TabG H P)
    (step : ∀ x d H', d ∈ ds → Tr [] H' x d → Kx [] H H' → ∀ R : Bool → Hp → Prop, (∀ H'', Kx [] H' H'' → R (pd d) H'') → g x (wipe σ vs) H' fun σ2 H2 => wipe σ2 vs = wipe σ vs ∧ te σ2 H2 fun y H4 => ∃ b, y = .bl b ∧ R b H4)
    (q : ∀ H', Kx [] H H' → Q (.bl (ds.all pd)) H') : tAllG P (iList K (tVar j)) g tYes te vs σ H Q :=
  ⟨.ref a, hσ, a, rfl, ⟨xs, SqL.of ha⟩, all_tree ha hd hT step q⟩
end
end Loops

set_option Elab.async false
set_option linter.all false
set_option maxRecDepth 100000
set_option maxHeartbeats 2000000
/-! Comps: comprehensions and for loops whose turns may change what B names. -/
namespace Comps
open PySem PySem.Spec PyProof.Rows L2 GxR GX Tree Kit
/-- the iteration J hands out f 0, .., f (N - 1), as long as all stays but B -/
structure ItAt (J : It) (B : List Addr) (H : Hp) (N : Nat) (f : Nat → V) : Prop where
  go : ∀ i H', i < N → Kx B H H' → J.go i H'
  stop : ∀ H', Kx B H H' → J.stop N H'
  yld : ∀ i H' x H'', i < N → Kx B H H' → J.yld i H' x H'' → H'' = H' ∧ x = f i
theorem itr_at {B : List Addr} {H : Hp} (n : Nat) : ItAt (Itr 0 n) B H n (fun i => .int i) :=
  ⟨fun i H' h _ => h, fun H' _ => Nat.le_refl _, fun i H' x H'' h k y => by
    obtain ⟨rfl, rfl⟩ := y
    rw [Int.zero_add]
    exact ⟨rfl, rfl⟩⟩
theorem itl_at {K : PySem.W.Frag} {B : List Addr} {H : Hp} {a : Addr} {xs : List V} (h : H a = some (.lst xs)) (n : a ∉ B) : ItAt (Itl K a) B H xs.length (fun i => xs.getD i .non) :=
  ⟨fun i H' hi k => ⟨xs, xs[i], SqL.of (k.lst n h), by simp [hi]⟩, fun H' k => ⟨xs, SqL.of (k.lst n h), Nat.le_refl _⟩, fun i H' x H'' hi k y => by
    obtain ⟨rfl, y⟩ := y
    have := y xs (SqL.of (k.lst n h))
    exact ⟨rfl, by rw [List.getD_eq_getElem?_getD, this]; rfl⟩⟩
/-- after a step from H -/
theorem _root_.Tree.Kx.then {B C : List Addr} {H H1 H2 : Hp} (k : Kx C H H1) (k2 : Kx B H1 H2) (h : ∀ b ∈ B, b ∈ C) : Kx C H H2 := k.trans (k2.sub h)
/-- what a comprehension over the iteration J asks -/
def CompG (J : It) (g : TG) (tt : TT) (te : TE) (vs : List Nat) (σ : L2.St) (H : Hp) (Q : VK) : Prop := ∀ D, H D = none → ∃ W : Nat → Nat → Hp → Prop, (∃ m, W 0 m (upd H D (.lst []))) ∧ ∀ i m H, W i m H → (J.stop i H ∧ Q (.ref D) H) ∨ (J.go i H ∧ ∃ Nx : Hp → Prop, (∀ H', Nx H' → ∃ m', m' < m ∧ W (i + 1) m' H') ∧ ∀ x H', J.yld i H x H' → g x (wipe σ vs) H' fun σ2 H2 => wipe σ2 vs = wipe σ vs ∧ tt σ2 H2 fun b H3 => if b = true then te σ2 H3 fun y H4 => ∃ acc, H4 D = some (.lst acc) ∧ acc.length < sizeLine ∧ Nx (upd H4 D (.lst (acc ++ [y]))) else Nx H3)
theorem lc_use {wi : TI} {g : TG} {tt : TT} {te : TE} {vs : List Nat} {σ : L2.St} {H : Hp} {Q : VK} (h : wi σ H fun J H1 => CompG J g tt te vs σ H1 Q) : tLc wi g tt te vs σ H Q := h
theorem st_name {i : Nat} {v : V} {σ : L2.St} {H : Hp} {Q : L2.St → Hp → Prop} (h : Q (σ.set i (some v)) H) : gName i v σ H Q := h
theorem st_asg {te : TE} {g : TG} {D : Ends} {σ : L2.St} {H : Hp} (h : te σ H fun x H1 => g x σ H1 D.nx) : tAsg te g D σ H := h
theorem st_seq {a b : TS} {D : Ends} {σ : L2.St} {H : Hp} (h : a { D with nx := b D } σ H) : tSeq a b D σ H := h
theorem st_set {te : TE} {i : Nat} {b : TS} {D : Ends} {σ : L2.St} {H : Hp} (h : te σ H fun x H1 => b D (σ.set i (some x)) H1) : tSeq (tAsg te (gName i)) b D σ H := h
theorem st_yes {te : TE} {σ : L2.St} {H : Hp} {R : VK} {R0 : Hp → Prop} (h : te σ H R) : tYes σ H fun b H3 => if b = true then te σ H3 R else R0 H3 := by
  show if true = true then te σ H R else R0 H
  rw [if_pos rfl]
  exact h
theorem st_next {D : Ends} {σ : L2.St} {H : Hp} (h : D.nx σ H) : tNext D σ H := h
theorem st_ifs {t : TT} {a b : TS} {D : Ends} {σ : L2.St} {H : Hp} (h : t σ H fun c H1 => if c = true then a D σ H1 else b D σ H1) : tIfS t a b D σ H := h
theorem st_test {te : TE} {σ : L2.St} {H : Hp} {Q : Bool → Hp → Prop} (h : te σ H fun x H' => ∃ k, x = .bl k ∧ Q k H') : tTest te σ H Q := h
theorem st_op {r : R2} {ta tb : TE} {σ : L2.St} {H : Hp} {Q : VK} (h : ta σ H fun x H1 => tb σ H1 fun y H2 => r x y H2 Q) : tOp r ta tb σ H Q := h
theorem st_ret {te : TE} {D : Ends} {σ : L2.St} {H : Hp} (h : te σ H D.rt) : tRet te D σ H := h
theorem st_lst {ts : TA} {σ : L2.St} {H : Hp} {Q : VK} (h : ts σ H fun xs H1 => xs.length ≤ sizeLine ∧ ∀ p, H1 p = none → Q (.ref p) (upd H1 p (.lst xs))) : tLst ts σ H Q := h
theorem st_for {wi : TI} {g : TG} {tb : TS} {D : Ends} {σ : L2.St} {H : Hp} (h : wi σ H fun J H1 => ∃ W : Nat → Nat → L2.St → Hp → Prop, (∃ m, W 0 m σ H1) ∧ ∀ i m σ H, W i m σ H → (J.stop i H ∧ D.nx σ H) ∨ (J.go i H ∧ ∃ N : L2.St → Hp → Prop, (∀ σ' H', N σ' H' → ∃ m', m' < m ∧ W (i + 1) m' σ' H') ∧ ∀ x H', J.yld i H x H' → g x σ H' fun σ2 H2 => tb { D with nx := N, ct := N, bk := D.nx } σ2 H2)) : tFor wi g tb D σ H := h
theorem st_ilist {te : TE} {σ : L2.St} {H : Hp} {K : PySem.W.Frag} {R : It → Hp → Prop} (h : te σ H fun x H1 => ∃ a, x = .ref a ∧ (∃ xs, SqL K H1 a xs) ∧ R (Itl K a) H1) : iList K te σ H R := h
theorem st_cons {ta : TE} {ts : TA} {σ : L2.St} {H : Hp} {Q : List V → Hp → Prop} (h : ta σ H fun x H1 => ts σ H1 fun xs H2 => Q (x :: xs) H2) : tCons ta ts σ H Q := h
section
variable {g : TG} {tt : TT} {te : TE} {vs : List Nat} {σ : L2.St} {H : Hp} {Q : VK}
/-- a comprehension; A i acc: what is known of the items behind i turns -/
theorem lc_gen {J : It} {B : List Addr} {N : Nat} {f : Nat → V} (It : ItAt J B H N f) (hN : N < sizeLine) {D : Addr} (hD : H D = none) {A : Nat → List V → Hp → Prop}
    (h0 : A 0 [] (upd H D (.lst [])))
    (step : ∀ i H' acc, i < N → Kx B H H' → H' D = some (.lst acc) → A i acc H' → ∀ (R : V → Hp → Prop) (R0 : Hp → Prop),
      (∀ y H'', Kx B H H'' → H'' D = some (.lst acc) → A (i + 1) (acc ++ [y]) (upd H'' D (.lst (acc ++ [y]))) → R y H'') →
      (∀ H'', Kx B H H'' → H'' D = some (.lst acc) → A (i + 1) acc H'' → R0 H'') →
      g (f i) (wipe σ vs) H' fun σ2 H2 => wipe σ2 vs = wipe σ vs ∧ tt σ2 H2 fun b H3 => if b = true then te σ2 H3 R else R0 H3)
    (q : ∀ acc H', Kx B H H' → H' D = some (.lst acc) → A N acc H' → Q (.ref D) H') :
    ∃ W : Nat → Nat → Hp → Prop, (∃ m, W 0 m (upd H D (.lst []))) ∧ ∀ i m H, W i m H → (J.stop i H ∧ Q (.ref D) H) ∨ (J.go i H ∧ ∃ Nx : Hp → Prop, (∀ H', Nx H' → ∃ m', m' < m ∧ W (i + 1) m' H') ∧ ∀ x H', J.yld i H x H' → g x (wipe σ vs) H' fun σ2 H2 => wipe σ2 vs = wipe σ vs ∧ tt σ2 H2 fun b H3 => if b = true then te σ2 H3 fun y H4 => ∃ acc, H4 D = some (.lst acc) ∧ acc.length < sizeLine ∧ Nx (upd H4 D (.lst (acc ++ [y]))) else Nx H3) := by
  refine ⟨fun i m H' => m = N - i ∧ i ≤ N ∧ Kx B H H' ∧ ∃ acc, H' D = some (.lst acc) ∧ acc.length ≤ i ∧ A i acc H', ⟨N, by simp, Nat.zero_le _, (Kx.refl H).mut hD, [], upd_same, Nat.le_refl _, h0⟩, ?_⟩
  rintro i m H' ⟨rfl, hi, k, acc, hd, hl, ha⟩
  by_cases hlt : i < N
  · refine .inr ⟨It.go i H' hlt k, fun H'' => Kx B H H'' ∧ ∃ acc, H'' D = some (.lst acc) ∧ acc.length ≤ i + 1 ∧ A (i + 1) acc H'', fun H'' z => ⟨N - (i + 1), by omega, rfl, hlt, z.1, z.2⟩, fun x H5 y => ?_⟩
    obtain ⟨rfl, rfl⟩ := It.yld i H' x H5 hlt k y
    exact step i H5 acc hlt k hd ha _ _ (fun y H'' k2 hd2 ha2 => ⟨acc, hd2, by omega, k2.mut hD, _, upd_same, by rw [List.length_append]; exact Nat.succ_le_succ hl, ha2⟩) (fun H'' k2 hd2 ha2 => ⟨k2, acc, hd2, by omega, ha2⟩)
  · have e : i = N := by omega
    subst e
    exact .inl ⟨It.stop H' k, q acc H' k hd ha⟩
/-- items as trees: each turn hands on one that is G (or, where ex is false, perhaps none); Iv: what is known of all else -/
theorem lc_tr {J : It} {B C : List Addr} {N : Nat} {f : Nat → V} (It : ItAt J B H N f) (hN : N < sizeLine) {Iv : Nat → Hp → Prop} (G : PyData → Prop) (ex : Bool) (hBC : ∀ b ∈ B, b ∈ C) (hC : ∀ c ∈ C, H c ≠ none)
    (hIv : ∀ i H' D o, H D = none → Iv i H' → Iv i (upd H' D o)) (hBn : ∀ i H', Iv i H' → ∀ b ∈ B, H' b ≠ none) (h0 : Iv 0 H)
    (step : ∀ D i H', H D = none → (∀ c ∈ D :: C, H' c ≠ none) → i < N → Kx B H H' → Iv i H' → ∀ (R : V → Hp → Prop) (R0 : Hp → Prop),
      (∀ y d H'', Kx B H' H'' → Iv (i + 1) H'' → Tr (D :: C) H'' y d → G d → R y H'') →
      (ex = false → ∀ H'', Kx B H' H'' → Iv (i + 1) H'' → R0 H'') →
      g (f i) (wipe σ vs) H' fun σ2 H2 => wipe σ2 vs = wipe σ vs ∧ tt σ2 H2 fun b H3 => if b = true then te σ2 H3 R else R0 H3)
    (q : ∀ D ds H', Kx B H H' → Iv N H' → Tr C H' (.ref D) (.list ds) → ds.length ≤ N → (ex = true → ds.length = N) → (∀ d ∈ ds, G d) → Q (.ref D) H') :
    CompG J g tt te vs σ H Q := by
  intro D hD
  have nD : D ∉ C := fun h => hC D h hD
  have nB : D ∉ B := fun h => nD (hBC D h)
  refine lc_gen It hN hD (A := fun i acc H' => Iv i H' ∧ ∃ ds, TrAll (D :: C) H' acc ds ∧ ds.length ≤ i ∧ (ex = true → ds.length = i) ∧ ∀ d ∈ ds, G d) ⟨hIv 0 H D _ hD h0, [], .nil, Nat.le_refl _, fun _ => rfl, fun d h => nomatch h⟩ (fun i H' acc hi k hd ha R R0 hR hR0 => ?_) fun acc H' k hd ha => ?_
  · obtain ⟨iv, ds, ht, hl, hx, hg⟩ := ha
    have dk : ∀ {H''}, Kx B H' H'' → H'' D = some (.lst acc) := fun k2 => k2.lst nB hd
    refine step D i H' hD (fun c hc => ?_) hi k iv R R0 (fun y d H'' k2 iv2 ty gd => hR y H'' (k.trans k2) (dk k2) ⟨hIv _ _ _ _ hD iv2, ds ++ [d], ?_, by rw [List.length_append]; exact Nat.succ_le_succ hl, fun z => by rw [List.length_append, hx z]; rfl, fun d' h => ?_⟩) fun z H'' k2 iv2 => hR0 H'' (k.trans k2) (dk k2) ⟨iv2, ds, TrAll.kx k2 (fun b hb => List.mem_cons_of_mem _ (hBC b hb)) _ _ ht, Nat.le_succ_of_le hl, (fun y => by rw [z] at y; cases y), hg⟩
    · rcases List.mem_cons.mp hc with e | e
      · rw [e, hd]; simp
      · intro z
        by_cases hb : c ∈ B
        · exact hBn i H' iv c hb z
        · exact hC c e (k.free hb z)
    · have t2 := TrAll.kx k2 (fun b hb => List.mem_cons_of_mem _ (hBC b hb)) _ _ ht
      have kp : Kx [D] H'' (upd H'' D (.lst (acc ++ [y]))) := Kx.put (by simp)
      exact TrAll.kx kp (fun b hb => by rcases List.mem_cons.mp hb with e | e <;> simp_all) _ _ (t2.snoc ty)
    · rcases List.mem_append.mp h with h | h
      · exact hg d' h
      · rw [List.mem_singleton.mp h]; exact gd
  · obtain ⟨iv, ds, ht, hl, hx, hg⟩ := ha
    exact q D ds H' k iv (.lst nD hd (TrAll.less (fun b hb => List.mem_cons_of_mem _ hb) _ _ ht)) hl hx hg
/-- items as trees, each with the turn that made it -/
inductive Made (G : Nat → PyData → Prop) : List Nat → List PyData → Prop
  | nil : Made G [] []
  | snoc {js : List Nat} {ds : List PyData} {j : Nat} {d : PyData} : Made G js ds → (∀ i ∈ js, i < j) → G j d → Made G (js ++ [j]) (ds ++ [d])
theorem lc_ix {J : It} {B C : List Addr} {N : Nat} {f : Nat → V} (It : ItAt J B H N f) (hN : N < sizeLine) {Iv : Nat → Hp → Prop} (G : Nat → PyData → Prop) (hBC : ∀ b ∈ B, b ∈ C) (hC : ∀ c ∈ C, H c ≠ none)
    (hIv : ∀ i H' D o, H D = none → Iv i H' → Iv i (upd H' D o)) (hBn : ∀ i H', Iv i H' → ∀ b ∈ B, H' b ≠ none) (h0 : Iv 0 H)
    (step : ∀ D i H', H D = none → (∀ c ∈ D :: C, H' c ≠ none) → i < N → Kx B H H' → Iv i H' → ∀ (R : V → Hp → Prop) (R0 : Hp → Prop),
      (∀ y d H'', Kx B H' H'' → Iv (i + 1) H'' → Tr (D :: C) H'' y d → G i d → R y H'') →
      (∀ H'', Kx B H' H'' → Iv (i + 1) H'' → R0 H'') →
      g (f i) (wipe σ vs) H' fun σ2 H2 => wipe σ2 vs = wipe σ vs ∧ tt σ2 H2 fun b H3 => if b = true then te σ2 H3 R else R0 H3)
    (q : ∀ D js ds H', Kx B H H' → Iv N H' → Tr C H' (.ref D) (.list ds) → Made G js ds → (∀ j ∈ js, j < N) → Q (.ref D) H') :
    CompG J g tt te vs σ H Q := by
  intro D hD
  have nD : D ∉ C := fun h => hC D h hD
  have nB : D ∉ B := fun h => nD (hBC D h)
  refine lc_gen It hN hD (A := fun i acc H' => Iv i H' ∧ ∃ js ds, TrAll (D :: C) H' acc ds ∧ Made G js ds ∧ ∀ j ∈ js, j < i) ⟨hIv 0 H D _ hD h0, [], [], .nil, .nil, fun _ h => nomatch h⟩ (fun i H' acc hi k hd ha R R0 hR hR0 => ?_) fun acc H' k hd ha => ?_
  · obtain ⟨iv, js, ds, ht, hm, hl⟩ := ha
    have dk : ∀ {H''}, Kx B H' H'' → H'' D = some (.lst acc) := fun k2 => k2.lst nB hd
    refine step D i H' hD (fun c hc => ?_) hi k iv R R0 (fun y d H'' k2 iv2 ty gd => hR y H'' (k.trans k2) (dk k2) ⟨hIv _ _ _ _ hD iv2, js ++ [i], ds ++ [d], ?_, .snoc hm hl gd, fun j hj => ?_⟩) fun H'' k2 iv2 => hR0 H'' (k.trans k2) (dk k2) ⟨iv2, js, ds, TrAll.kx k2 (fun b hb => List.mem_cons_of_mem _ (hBC b hb)) _ _ ht, hm, fun j hj => Nat.lt_succ_of_lt (hl j hj)⟩
    · rcases List.mem_cons.mp hc with e | e
      · rw [e, hd]; simp
      · intro z
        by_cases hb : c ∈ B
        · exact hBn i H' iv c hb z
        · exact hC c e (k.free hb z)
    · have t2 := TrAll.kx k2 (fun b hb => List.mem_cons_of_mem _ (hBC b hb)) _ _ ht
      have kp : Kx [D] H'' (upd H'' D (.lst (acc ++ [y]))) := Kx.put (by simp)
      exact TrAll.kx kp (fun b hb => by rcases List.mem_cons.mp hb with e | e <;> simp_all) _ _ (t2.snoc ty)
    · rcases List.mem_append.mp hj with h | h
      · exact Nat.lt_succ_of_lt (hl j h)
      · rw [List.mem_singleton.mp h]; exact Nat.lt_succ_self i
  · obtain ⟨iv, js, ds, ht, hm, hl⟩ := ha
    exact q D js ds H' k iv (.lst nD hd (TrAll.less (fun b hb => List.mem_cons_of_mem _ hb) _ _ ht)) hm hl
theorem Made.rising {G : Nat → PyData → Prop} {js : List Nat} {ds : List PyData} (h : Made G js ds) : js.Pairwise (· < ·) := by
  induction h with
  | nil => exact .nil
  | snoc _ hl _ ih => exact List.pairwise_append.mpr ⟨ih, List.pairwise_singleton _ _, fun a ha b hb => by rw [List.mem_singleton.mp hb]; exact hl a ha⟩
theorem Made.eq {f : Nat → PyData} {js : List Nat} {ds : List PyData} (h : Made (fun j d => d = f j) js ds) : ds = js.map f := by
  induction h with
  | nil => rfl
  | snoc _ _ hg ih => rw [ih, hg, List.map_append]; rfl
theorem Made.length {G : Nat → PyData → Prop} {js : List Nat} {ds : List PyData} (h : Made G js ds) : js.length = ds.length := by
  induction h with
  | nil => rfl
  | snoc _ _ _ ih => rw [List.length_append, List.length_append, ih]; rfl
/-- [x for x in l if ..]: the items that pass; nothing old is changed -/
theorem lc_filter {K : PySem.W.Frag} {a : Addr} {xs : List V} {ds : List PyData} (pd : PyData → Bool) (ha : H a = some (.lst xs)) (hd : TrAll [] H xs ds) (hN : ds.length < sizeLine)
    (step : ∀ x d H', d ∈ ds → Tr [] H' x d → Kx [] H H' → ∀ (R : V → Hp → Prop) (R0 : Hp → Prop), (pd d = true → ∀ H'', Kx [] H' H'' → R x H'') → (pd d = false → ∀ H'', Kx [] H' H'' → R0 H'') →
      g x (wipe σ vs) H' fun σ2 H2 => wipe σ2 vs = wipe σ vs ∧ tt σ2 H2 fun b H3 => if b = true then te σ2 H3 R else R0 H3)
    (q : ∀ D ys H', Kx [] H H' → H D = none → H' D = some (.lst ys) → TrAll [] H' ys (ds.filter pd) → Q (.ref D) H') :
    CompG (Itl K a) g tt te vs σ H Q := by
  intro D hD
  have hlen := hd.length
  refine lc_gen (itl_at (B := []) ha (by simp)) (by omega) hD (A := fun i acc _ => TrAll [] H acc ((ds.take i).filter pd)) .nil (fun i H' acc hi k hdd hacc R R0 hR hR0 => ?_) fun acc H' k hdd hacc => ?_
  · have ei : ds[i]? = some ds[i] := List.getElem?_eq_getElem (by omega)
    have ex : xs[i]? = some xs[i] := List.getElem?_eq_getElem (by omega)
    obtain ⟨d, e1, e2⟩ := hd.get ex
    rw [ei] at e1
    cases e1
    have ef : ∀ b, pd ds[i] = b → (ds.take (i + 1)).filter pd = (ds.take i).filter pd ++ (if b = true then [ds[i]] else []) := fun b eb => by
      rw [List.take_add_one, ei, List.filter_append]
      cases b <;> simp [eb]
    have e3 : xs.getD i V.non = xs[i] := by
      rw [List.getD_eq_getElem?_getD, ex]; rfl
    rw [e3]
    refine step xs[i] ds[i] H' (List.getElem_mem (by omega)) (e2.up k) k R R0 (fun pt H'' k2 => hR _ H'' (k.trans k2) (k2.lst (by simp) hdd) ?_) fun pf H'' k2 => hR0 H'' (k.trans k2) (k2.lst (by simp) hdd) ?_
    · rw [ef true pt]
      exact hacc.snoc e2
    · rw [ef false pf]
      rw [if_neg (by simp), List.append_nil]
      exact hacc
  · rw [show xs.length = ds.length from hlen, List.take_length] at hacc
    exact q D acc H' k hD hdd (hacc.up k)
end
section
variable {g : TG} {tb : TS} {D : Ends} {σ : L2.St} {H : Hp}
/-- a for loop -/
theorem for_gen {J : It} {B : List Addr} {N : Nat} {f : Nat → V} (It : ItAt J B H N f) {Iv : Nat → L2.St → Hp → Prop} (h0 : Iv 0 σ H)
    (step : ∀ i σ' H', i < N → Kx B H H' → Iv i σ' H' → ∀ Nn : L2.St → Hp → Prop, (∀ σ'' H'', Kx B H H'' → Iv (i + 1) σ'' H'' → Nn σ'' H'') → g (f i) σ' H' fun σ2 H2 => tb { D with nx := Nn, ct := Nn, bk := D.nx } σ2 H2)
    (q : ∀ σ' H', Kx B H H' → Iv N σ' H' → D.nx σ' H') :
    ∃ W : Nat → Nat → L2.St → Hp → Prop, (∃ m, W 0 m σ H) ∧ ∀ i m σ H, W i m σ H → (J.stop i H ∧ D.nx σ H) ∨ (J.go i H ∧ ∃ N : L2.St → Hp → Prop, (∀ σ' H', N σ' H' → ∃ m', m' < m ∧ W (i + 1) m' σ' H') ∧ ∀ x H', J.yld i H x H' → g x σ H' fun σ2 H2 => tb { D with nx := N, ct := N, bk := D.nx } σ2 H2) := by
  refine ⟨fun i m σ' H' => m = N - i ∧ i ≤ N ∧ Kx B H H' ∧ Iv i σ' H', ⟨N, by simp, Nat.zero_le _, Kx.refl _, h0⟩, ?_⟩
  rintro i m σ' H' ⟨rfl, hi, k, hv⟩
  by_cases hlt : i < N
  · refine .inr ⟨It.go i H' hlt k, fun σ'' H'' => Kx B H H'' ∧ Iv (i + 1) σ'' H'', fun σ'' H'' z => ⟨N - (i + 1), by omega, rfl, hlt, z⟩, fun x H5 y => ?_⟩
    obtain ⟨rfl, rfl⟩ := It.yld i H' x H5 hlt k y
    exact step i σ' H5 hlt k hv _ fun σ'' H'' k2 h2 => ⟨k2, h2⟩
  · have e : i = N := by omega
    subst e
    exact .inl ⟨It.stop H' k, q σ' H' k hv⟩
end
end Comps

set_option Elab.async false
set_option linter.all false
set_option maxRecDepth 100000
set_option maxHeartbeats 2000000
/-! Loops2: all over two clauses of ranges; comprehensions that filter. -/
namespace Loops2
open PySem PySem.Spec PyProof.Rows L2 GxR GX Tree Kit Comps
section
variable {K : PySem.W.Frag} {P : Addr} {g g1 : TG} {te : TE} {wi1 : TI} {vs vs1 : List Nat} {σ : L2.St} {H : Hp} {Q : VK}
theorem meas {n1 n2 i j : Nat} (h : i < n1) : (n1 - (i + 1)) * (n2 + 2) + (n2 - j) + 1 < (n1 - i) * (n2 + 2) := by
  have e : n1 - i = (n1 - (i + 1)) + 1 := by omega
  rw [e, Nat.add_mul, Nat.one_mul]
  omega
/-- all(e for i in range(n1) for j in range(n2)) -/
theorem all_range2 {n1 n2 : Nat} {p : Nat → Nat → Bool} (hT : TabG H P)
    (step : ∀ i H', i < n1 → Kx [] H H' → ∀ Z : It → L2.St → Hp → Prop,
      (∀ σ2 H3, Kx [] H' H3 → (∀ j H5, j < n2 → Kx [] H3 H5 → ∀ R : Bool → Hp → Prop, (∀ H6, Kx [] H5 H6 → R (p i j) H6) → g1 (.int j) (wipe σ2 vs1) H5 fun σ3 H7 => wipe σ3 vs1 = wipe σ2 vs1 ∧ te σ3 H7 fun y H8 => ∃ b, y = .bl b ∧ R b H8) → Z (Itr 0 n2) σ2 H3) →
      g (.int i) (wipe σ vs) H' fun σ2 H2 => wipe σ2 vs = wipe σ vs ∧ wi1 σ2 H2 fun J1 H4 => Z J1 σ2 H4)
    (q : ∀ H', Kx [] H H' → Q (.bl ((List.range n1).all fun i => (List.range n2).all (p i))) H') :
    TabG H P ∧ ∀ H2, Tabbed P H H2 → ∃ W : Nat → Nat → Hp → Prop, (∃ m, W 0 m H2) ∧ GTurns2 (Itr 0 n1) g tYes wi1 g1 tYes te vs vs1 σ W (fun H => Q (.bl true) H) (consAll fun b H => Q (.bl b) H) := by
  refine ⟨hT, fun H2 ht => ?_⟩
  refine ⟨fun i m H' => m = (n1 - i) * (n2 + 2) ∧ i ≤ n1 ∧ Kx [] H H' ∧ ∀ i', i' < i → ∀ j, j < n2 → p i' j = true, ⟨_, rfl, Nat.zero_le _, Kx.tabbed hT ht, fun i' hi' => absurd hi' (Nat.not_lt_zero _)⟩, ?_⟩
  rintro i m H' ⟨rfl, hi, k, hp⟩
  by_cases hlt : i < n1
  · refine .inr ⟨hlt, fun x H5 y => ?_⟩
    obtain ⟨rfl, rfl⟩ := y
    rw [Int.zero_add]
    refine step i H5 hlt k (fun J1 σ2 H4 => ∃ W1 : Nat → Nat → Hp → Prop, (∃ m1, m1 < (n1 - i) * (n2 + 2) ∧ W1 0 m1 H4) ∧ GTurns1 J1 g1 tYes te vs1 σ2 W1 (fun m1 H' => ∃ m', m' < m1 ∧ (m' = (n1 - (i + 1)) * (n2 + 2) ∧ i + 1 ≤ n1 ∧ Kx [] H H' ∧ ∀ i', i' < i + 1 → ∀ j, j < n2 → p i' j = true)) (consAll fun b H => Q (.bl b) H)) fun σ2 H3 k3 inner => ?_
    refine ⟨fun j m1 H' => m1 = (n1 - (i + 1)) * (n2 + 2) + (n2 - j) + 1 ∧ j ≤ n2 ∧ Kx [] H3 H' ∧ ∀ j', j' < j → p i j' = true, ⟨_, meas hlt, rfl, Nat.zero_le _, Kx.refl _, fun j' hj' => absurd hj' (Nat.not_lt_zero _)⟩, ?_⟩
    rintro j m1 H6 ⟨rfl, hj, k6, hpj⟩
    have kk := k.trans (k3.trans k6)
    by_cases hjl : j < n2
    · refine .inr ⟨hjl, fun H'' => Kx [] H3 H'' ∧ p i j = true, fun H'' z => ⟨(n1 - (i + 1)) * (n2 + 2) + (n2 - (j + 1)) + 1, by omega, rfl, hjl, z.1, fun j' hj' => ?_⟩, fun x H7 y => ?_⟩
      · rcases Nat.lt_or_eq_of_le (Nat.le_of_lt_succ hj') with h | h
        · exact hpj j' h
        · rw [h]; exact z.2
      · obtain ⟨rfl, rfl⟩ := y
        rw [Int.zero_add]
        refine inner j H7 hjl k6 (fun b H4 => if b = true then (Kx [] H3 H4 ∧ p i j = true) else Q (.bl false) H4) (fun H'' k2 => ?_)
        cases hb : p i j with
        | true => exact ⟨k6.trans k2, rfl⟩
        | false =>
          have hall : ((List.range n1).all fun i => (List.range n2).all (p i)) = false := by
            rw [Bool.eq_false_iff]
            intro z
            have z1 := List.all_eq_true.mp z i (List.mem_range.mpr hlt)
            rw [List.all_eq_true.mp z1 j (List.mem_range.mpr hjl)] at hb
            cases hb
          have := q H'' (kk.trans k2)
          rw [hall] at this
          exact this
    · have e : j = n2 := by omega
      subst e
      refine .inl ⟨Nat.le_refl _, _, ?_, rfl, hlt, kk, fun i' hi' j' hj' => ?_⟩
      · omega
      · rcases Nat.lt_or_eq_of_le (Nat.le_of_lt_succ hi') with h | h
        · exact hp i' h j' hj'
        · rw [h]; exact hpj j' hj'
  · have e : i = n1 := by omega
    subst e
    refine .inl ⟨Nat.le_refl _, ?_⟩
    have := q H' k
    rw [show ((List.range i).all fun i => (List.range n2).all (p i)) = true from List.all_eq_true.mpr fun i' hi' => List.all_eq_true.mpr fun j hj => hp i' (List.mem_range.mp hi') j (List.mem_range.mp hj)] at this
    exact this
end
section
variable {g : TG} {tt : TT} {te : TE} {vs : List Nat} {σ : L2.St} {H : Hp} {Q : VK}
/-- [i for i in range(n) if ..] -/
theorem lc_range {n : Nat} (p : Nat → Bool) (hN : n < sizeLine)
    (step : ∀ i H', i < n → Kx [] H H' → ∀ (R : V → Hp → Prop) (R0 : Hp → Prop), (p i = true → ∀ H'', Kx [] H' H'' → R (.int i) H'') → (p i = false → ∀ H'', Kx [] H' H'' → R0 H'') →
      g (.int i) (wipe σ vs) H' fun σ2 H2 => wipe σ2 vs = wipe σ vs ∧ tt σ2 H2 fun b H3 => if b = true then te σ2 H3 R else R0 H3)
    (q : ∀ D H', Kx [] H H' → H D = none → H' D = some (.lst ((((List.range n).filter p).map fun i : Nat => (i : Int)).map V.int)) → Q (.ref D) H') :
    CompG (Itr 0 n) g tt te vs σ H Q := by
  intro D hD
  refine lc_gen (B := []) (itr_at n) hN hD (A := fun i acc _ => acc = ((((List.range i).filter p).map fun i : Nat => (i : Int)).map V.int)) rfl (fun i H' acc hi k hd ha R R0 hR hR0 => ?_) fun acc H' k hd ha => q D H' k hD (ha ▸ hd)
  have ef : ∀ b, p i = b → (List.range (i + 1)).filter p = (List.range i).filter p ++ (if b = true then [i] else []) := fun b eb => by
    rw [List.range_succ, List.filter_append]
    cases b <;> simp [eb]
  refine step i H' hi k R R0 (fun pt H'' k2 => hR _ H'' (k.trans k2) (k2.lst (by simp) hd) ?_) fun pf H'' k2 => hR0 H'' (k.trans k2) (k2.lst (by simp) hd) ?_
  · rw [ef true pt, ha, if_pos rfl, List.map_append, List.map_append]
    rfl
  · rw [ef false pf, ha, if_neg (by simp), List.append_nil]
/-- [x for x in l if ..], l a list of ints -/
theorem lc_filtI {K : PySem.W.Frag} {a : Addr} {ns : List Int} (p : Int → Bool) (ha : H a = some (.lst (ns.map V.int))) (hN : ns.length < sizeLine)
    (step : ∀ n H', n ∈ ns → Kx [] H H' → ∀ (R : V → Hp → Prop) (R0 : Hp → Prop), (p n = true → ∀ H'', Kx [] H' H'' → R (.int n) H'') → (p n = false → ∀ H'', Kx [] H' H'' → R0 H'') →
      g (.int n) (wipe σ vs) H' fun σ2 H2 => wipe σ2 vs = wipe σ vs ∧ tt σ2 H2 fun b H3 => if b = true then te σ2 H3 R else R0 H3)
    (q : ∀ D H', Kx [] H H' → H D = none → H' D = some (.lst ((ns.filter p).map V.int)) → Q (.ref D) H') :
    CompG (Itl K a) g tt te vs σ H Q := by
  intro D hD
  refine lc_gen (itl_at (B := []) ha (by simp)) (by rw [List.length_map]; exact hN) hD (A := fun i acc _ => acc = ((ns.take i).filter p).map V.int) rfl (fun i H' acc hi k hd hacc R R0 hR hR0 => ?_) fun acc H' k hd hacc => ?_
  · have hi' : i < ns.length := by rw [List.length_map] at hi; exact hi
    have ei : ns[i]? = some ns[i] := List.getElem?_eq_getElem hi'
    have ef : ∀ b, p ns[i] = b → (ns.take (i + 1)).filter p = (ns.take i).filter p ++ (if b = true then [ns[i]] else []) := fun b eb => by
      rw [List.take_add_one, ei, List.filter_append]
      cases b <;> simp [eb]
    have e3 : (ns.map V.int).getD i V.non = .int ns[i] := by
      rw [List.getD_eq_getElem?_getD, List.getElem?_map, ei]; rfl
    rw [e3]
    refine step ns[i] H' (List.getElem_mem hi') k R R0 (fun pt H'' k2 => hR _ H'' (k.trans k2) (k2.lst (by simp) hd) ?_) fun pf H'' k2 => hR0 H'' (k.trans k2) (k2.lst (by simp) hd) ?_
    · rw [ef true pt, if_pos rfl, List.map_append, hacc]
      rfl
    · rw [ef false pf, if_neg (by simp), List.append_nil]
      exact hacc
  · rw [List.length_map, List.take_length] at hacc
    exact q D H' k hD (hacc ▸ hd)
/-- .. of trees, none at an address of C -/
theorem lc_filtC {K : PySem.W.Frag} {C : List Addr} {a : Addr} {xs : List V} {ds : List PyData} (pd : PyData → Bool) (al : ∀ c ∈ C, H c ≠ none) (ha : H a = some (.lst xs)) (hd : TrAll C H xs ds) (hN : ds.length < sizeLine)
    (step : ∀ x d H', d ∈ ds → Tr C H' x d → Kx [] H H' → ∀ (R : V → Hp → Prop) (R0 : Hp → Prop), (pd d = true → ∀ H'', Kx [] H' H'' → R x H'') → (pd d = false → ∀ H'', Kx [] H' H'' → R0 H'') →
      g x (wipe σ vs) H' fun σ2 H2 => wipe σ2 vs = wipe σ vs ∧ tt σ2 H2 fun b H3 => if b = true then te σ2 H3 R else R0 H3)
    (q : ∀ D H', Kx [] H H' → H D = none → Tr C H' (.ref D) (.list (ds.filter pd)) → Q (.ref D) H') :
    CompG (Itl K a) g tt te vs σ H Q := by
  intro D hD
  have hlen := hd.length
  have nD : D ∉ C := fun z => al D z hD
  refine lc_gen (itl_at (B := []) ha (by simp)) (by omega) hD (A := fun i acc _ => TrAll C H acc ((ds.take i).filter pd)) .nil (fun i H' acc hi k hdd hacc R R0 hR hR0 => ?_) fun acc H' k hdd hacc => ?_
  · have ei : ds[i]? = some ds[i] := List.getElem?_eq_getElem (by omega)
    have ex : xs[i]? = some xs[i] := List.getElem?_eq_getElem (by omega)
    obtain ⟨d, e1, e2⟩ := hd.get ex
    rw [ei] at e1
    cases e1
    have ef : ∀ b, pd ds[i] = b → (ds.take (i + 1)).filter pd = (ds.take i).filter pd ++ (if b = true then [ds[i]] else []) := fun b eb => by
      rw [List.take_add_one, ei, List.filter_append]
      cases b <;> simp [eb]
    have e3 : xs.getD i V.non = xs[i] := by
      rw [List.getD_eq_getElem?_getD, ex]; rfl
    rw [e3]
    refine step xs[i] ds[i] H' (List.getElem_mem (by omega)) (e2.up k) k R R0 (fun pt H'' k2 => hR _ H'' (k.trans k2) (k2.lst (by simp) hdd) ?_) fun pf H'' k2 => hR0 H'' (k.trans k2) (k2.lst (by simp) hdd) ?_
    · rw [ef true pt]
      exact hacc.snoc e2
    · rw [ef false pf]
      rw [if_neg (by simp), List.append_nil]
      exact hacc
  · rw [show xs.length = ds.length from hlen, List.take_length] at hacc
    exact q D H' k hD (.lst nD hdd (hacc.up k))
end
end Loops2

set_option Elab.async false
set_option linter.all false
set_option maxRecDepth 100000
set_option maxHeartbeats 4000000
/-! Sets: set(l) of a list of ints, to be sorted; a list compared with an empty one. -/
namespace Sets
open PySem PySem.Spec PyProof.Rows L2
section
variable {P : Program} {w : World} {A : Around} {E : Value → Shared → Prop} {s : Shared}
abbrev soO (w : World) : Obj := { cls := .type "set", dict := none, data := .set #[] 0 (.fresh 0 0 (!w.params.followText "set-order")) }
theorem set_of_list {l : Addr} {items : Array Value} (ns : List Int) {Q : Value → Shared → Prop} (hh : A.handled = none) (hl : s.heap.IsList l items) (hit : IntsAre items.toList ns) (hb : ns.length + 1 < scanBound)
    (h : ∀ (h' : Heap) (tk c : Nat), SetR w h' s.heap.objs.size (fun j => decide (j ∈ ns)) c → c ≤ ns.length → (∀ b o, s.heap.get? b = some o → h'.get? b = some o) → Q (.ref s.heap.objs.size) { s with heap := h', toks := tk }) :
    wpAny (model P w) A (call (.type "set") [.ref l]) Q E s := by
  have hisz : items.size = ns.length := by simpa using hit.length
  obtain ⟨c, tl, hmro⟩ := F.called_set.mro
  have hmade := F.called_set.made
  have hsub := F.called_set.sub
  refine wpAny_call (codeAny_of_tree ?_)
  show wpAny _ _ (callAny (.type "set") _) _ _ _
  refine wpAny_pure ⟨Code.quiet_builtin _ (by decide +kernel), codeAny_builtin F.entry_type_call ?_⟩
  rw [Around.under_plain (weight_type_call_type "set" [.ref l] []) rfl]
  have h1 := F.called_set.notType
  have h2 := F.called_set.canCreate
  have hct := F.typeCall_set_1 (.ref l)
  repeat (any_goals (first | assumption | wp_step))
  have new := code_set_led1 (P := P) (w := w) (A := A.in1) (s := s) (.ref l) (E := E) (Q₁ := fun obj s₁ => obj = .ref s.heap.objs.size ∧ s₁ = { s with heap := s.heap.push (soO w) }) ⟨rfl, rfl⟩
  refine codeAny_mono new fun r s₁ hr => ?_
  match r, hr with
  | .error e, hr => exact hr
  | .ok .next, hr => exact hr.elim
  | .ok .brk, hr => exact hr.elim
  | .ok .cont, hr => exact hr.elim
  | .ok (.ret obj), hr =>
    obtain ⟨rfl, rfl⟩ := hr
    have hS : (s.heap.push (soO w)).get? s.heap.objs.size = some (soO w) := Heap.get?_push_size _ rfl
    have hT : Shared.TypeIs { s with heap := s.heap.push (soO w) } (.ref s.heap.objs.size) "set" := ⟨_, hS, rfl⟩
    have hli := F.called_set.init.lookup
    have hbi := F.called_set.init.bind (.ref s.heap.objs.size)
    repeat (any_goals (first | assumption | wp_step))
    refine codeAny_mono (codeAny_call_builtin (R := wants (fun r s₂ => r = .none ∧ ∃ h' tk c, s₂ = { s with heap := h', toks := tk } ∧ SetR w h' s.heap.objs.size (fun j => decide (j ∈ ns)) c ∧ c ≤ ns.length ∧
        (∀ b o, s.heap.get? b = some o → h'.get? b = some o)) E) F.called_set.init.plain F.entry_set_init (check_set_init_1 hT ?_)) fun r₂ s₂ hr₂ => ?_
    · obtain ⟨ol, hol, hcl, nl, hdl⟩ := hl
      obtain ⟨ocls, odict, odata, oslots⟩ := ol
      simp only at hcl hdl
      subst hcl; subst hdl
      have hol' : (s.heap.push (soO w)).get? l = some { cls := .type "list", dict := odict, data := .seq items nl, slots := oslots } := Heap.get?_push_of_some _ hol
      have hsls := F.sub_list_set
      have hslf := F.sub_list_frozenset
      have hne : (Value.type "list" == Value.type "dict") = false := by decide
      have hl1 : (s.heap.push (soO w)).IsList l items := ⟨_, hol', rfl, nl, rfl⟩
      unfold Builtin.«set.__init__» noKeywords Builtin.Frozenset.updateFrom
      generalize hPI : pyIter = PI
      wp_walk
      subst hPI
      refine wpAny_pyIter_list hl1 ?_
      refine wpAny_bind (wpAny_runValue ?_)
      have hlS : l < s.heap.objs.size := Heap.lt_size hol
      have sz1 : (s.heap.push (soO w)).objs.size = s.heap.objs.size + 1 := Heap.size_push ..
      have hneI : l ≠ (s.heap.push (soO w)).objs.size := by rw [sz1]; exact Nat.ne_of_lt (Nat.lt_succ_of_lt hlS)
      have hSf : s.heap.objs.size ∉ [(s.heap.push (soO w)).objs.size, l] := fun hm => by
        rcases List.mem_cons.mp hm with e | hm
        · rw [sz1] at e; exact absurd e (Nat.ne_of_lt (Nat.lt_succ_self _))
        · rcases List.mem_cons.mp hm with e | hm
          · exact absurd e (Nat.ne_of_gt hlS)
          · cases hm
      have hval : ∀ (i : Nat) (v : Value), items[i]? = some v → ∃ k t, ns[i]? = some k ∧ v = .int k t := fun i v hv => by
        have hi : i < ns.length := by rw [← hisz]; exact (Array.getElem?_eq_some_iff.mp hv).1
        obtain ⟨t, e⟩ := PyProof.Rows.IntsAre.int_at hit i v (by rw [Array.getElem?_toList]; exact hv)
        exact ⟨ns[i], t, List.getElem?_eq_getElem hi, by rw [e, List.getD_eq_getElem?_getD, List.getElem?_eq_getElem hi]; rfl⟩
      have hh3 : A.in1.in1.in1.handled = none := hh
      refine set_update_ints ((Walks.list hh3 _ l hneI items).toS) s.heap.objs.size hSf ns hisz hb hval (items.size - 0) 0 _ (by omega) (Nat.zero_le _)
        ⟨⟨_, Heap.get?_push_size _ rfl, rfl, rfl⟩, (hl1.push _)⟩ ⟨0, Nat.le_refl 0, setR_new_at (Heap.get?_push_of_some _ hS)⟩ fun s' c' hm hc' hS' => ?_
      obtain ⟨h', g2, d', tk', os'⟩ := s'
      obtain rfl : g2 = s.gens := hm.gens
      obtain rfl : d' = s.drawn := hm.drawn
      obtain rfl : os' = s.os := hm.os
      show wpAny _ _ _ _ _ _
      refine wpAny_pure ?_
      show wpAny _ _ (ret Value.none) _ _ _
      rw [hisz] at hc'
      refine wpAny_pure ⟨rfl, h', tk', c', rfl, hS', hc', fun b o e => ?_⟩
      have hb0 : b < s.heap.objs.size := Heap.lt_size e
      refine hm.heap b o (fun hm => ?_) (Heap.get?_push_of_some _ (Heap.get?_push_of_some _ e))
      rcases List.mem_cons.mp hm with e | hm
      · exact absurd e (Nat.ne_of_lt hb0)
      · rcases List.mem_cons.mp hm with e | hm
        · rw [sz1] at e; exact absurd e (Nat.ne_of_lt (Nat.lt_succ_of_lt hb0))
        · cases hm
    · match r₂, hr₂ with
      | .error e, hr₂ => exact hr₂
      | .ok .next, hr₂ => exact hr₂.elim
      | .ok .brk, hr₂ => exact hr₂.elim
      | .ok .cont, hr₂ => exact hr₂.elim
      | .ok (.ret r), hr₂ =>
        obtain ⟨rfl, h', tk, cc, rfl, hS', hc', hk'⟩ := hr₂
        repeat (any_goals (first | assumption | wp_step))
        exact h _ _ _ hS' hc' hk'
end
section
variable {X : Cx}
/-- set(l), l a list of ints -/
def rSetL (w : World) : List V → Hp → VK → Prop := fun xs H Q => ∃ (a : Addr) (ns : List Int), xs = [.ref a] ∧ H a = some (.lst (ns.map V.int)) ∧ ns.length ≤ 60 ∧
  ∀ p c, c ≤ ns.length → H p = none → Q (.ref p) (upd H p (SetO w p (fun j => decide (j ∈ ns)) c))
theorem call_setL (w : World) (hw : X.w = w) (hc : X.calm = true) : CallR X (.type "set") (rSetL w) := by
  subst hw
  intro pins s σ H vs us Q I r h
  obtain ⟨a, ns, rfl, ha, hz, q⟩ := h
  rw [Vals.ref1 r]
  obtain ⟨_, its, n, rv, e⟩ := I.hok a _ ha
  refine set_of_list ns (I.ok.hd hc) ⟨_, e, rfl, n, rfl⟩ (by simpa using ints_of_vals rv) (by unfold scanBound; omega) fun h' tk c R hle k => ?_
  have hn : H s.heap.objs.size = none := I.hok.fresh (Nat.le_refl _)
  exact ⟨.ref s.heap.objs.size, _, I.laid (t' := tk) k (Nat.le_refl _) (setO_new R), rfl, q _ c hle hn⟩
/-- l == [] and l != [] -/
def rEqNil : R2 := fun x y H Q => ∃ a b xs, x = .ref a ∧ y = .ref b ∧ H a = some (.lst xs) ∧ H b = some (.lst []) ∧ Q (.bl xs.isEmpty) H
def rNeNil : R2 := fun x y H Q => ∃ a b xs, x = .ref a ∧ y = .ref b ∧ H a = some (.lst xs) ∧ H b = some (.lst []) ∧ Q (.bl (!xs.isEmpty)) H
theorem op_eqNil (hu : X.A.units < cLine) : OpR X (compareOp .Eq) rEqNil := by
  intro pins s σ H x y v u Q I rx ry h
  obtain ⟨a, b, xs, rfl, rfl, ha, hb, q⟩ := h
  cases rx; cases ry
  obtain ⟨_, its, n, rv, e⟩ := I.hok a _ ha
  obtain ⟨_, its2, n2, rv2, e2⟩ := I.hok b _ hb
  cases rv2
  cases rv with
  | nil =>
    exact SeqAt.eq_listAt (e := fun _ => true) ⟨_, e, rfl, n, rfl⟩ ⟨_, e2, rfl, n2, rfl⟩ rfl hu (fun j h1 => absurd h1 (Nat.not_lt_zero _)) ⟨.bl true, H, I, rfl, q⟩
  | cons r rr =>
    exact SeqAt.eq_list_lengthsAt ⟨_, e, rfl, n, rfl⟩ ⟨_, e2, rfl, n2, rfl⟩ (by simp) hu ⟨.bl false, H, I, rfl, q⟩
theorem op_neNil (hu : X.A.units < cLine) : OpR X (compareOp .NotEq) rNeNil := by
  intro pins s σ H x y v u Q I rx ry h
  obtain ⟨a, b, xs, rfl, rfl, ha, hb, q⟩ := h
  cases rx; cases ry
  obtain ⟨_, its, n, rv, e⟩ := I.hok a _ ha
  obtain ⟨_, its2, n2, rv2, e2⟩ := I.hok b _ hb
  cases rv2
  cases rv with
  | nil =>
    exact SeqAt.RcNeAt.lists (e := fun _ => true) ⟨_, e, rfl, n, rfl⟩ ⟨_, e2, rfl, n2, rfl⟩ rfl hu (fun j h1 => absurd h1 (Nat.not_lt_zero _)) _ _ _ _ ⟨.bl false, H, I, rfl, q⟩
  | cons r rr =>
    exact SeqAt.RcNeAt.lists_lengths ⟨_, e, rfl, n, rfl⟩ ⟨_, e2, rfl, n2, rfl⟩ (by simp) hu _ _ _ _ ⟨.bl true, H, I, rfl, q⟩
end
end Sets

set_option Elab.async false
set_option linter.all false
set_option maxRecDepth 100000
set_option maxHeartbeats 4000000
/-! SetG: a set comprehension whose things are put in by any rule (ints, tuples of ints). -/
namespace SetG
open PySem PySem.Spec PyProof.Rows L2 PpSet
section
variable {X : Cx}
/-- what it asks to put y into the set at D, and what then holds -/
abbrev PutW : Type := V → Addr → Hp → (Hp → Prop) → Prop
/-- the rule of putting in -/
def PutR (X : Cx) (r : PutW) : Prop := ∀ (pins : List (Addr × Obj)) (τ : L2.St) (G : Hp) (z : Shared) (D : Addr) (y : V) (u : Value) (N : Hp → Prop), Inv X pins τ G z → RelV y u → r y D G N →
  wpAny (model X.prog X.w) X.A (call (.builtin "set.add") [.ref D, u]) (fun _ z' => ∃ G', Inv X pins τ G' z' ∧ N G') X.xe z
/-- the fresh set as an abstract object -/
def NewW (X : Cx) (n0 : Addr → HO) : Prop := ∀ (G : Hp) (h : Heap), ObjOk X.prog X.w G (h.push { cls := .type "set", dict := none, data := .set #[] 0 (.fresh 0 0 (!X.w.params.followText "set-order")) }) h.objs.size (n0 h.objs.size)
/-- what the comprehension asks -/
def SetG (n0 : Addr → HO) (r : PutW) (J : It) (g : TG) (tt : TT) (te : TE) (vs : List Nat) (σ : L2.St) (G : Hp) (Q : VK) : Prop := ∀ D, G D = none → ∃ W : Nat → Nat → Hp → Prop, (∃ m, W 0 m (upd G D (n0 D))) ∧ ∀ i m G, W i m G →
  (J.stop i G ∧ Q (.ref D) G) ∨ (J.go i G ∧ ∃ N : Hp → Prop, (∀ G', N G' → ∃ m', m' < m ∧ W (i + 1) m' G') ∧ ∀ x G', J.yld i G x G' → g x (wipe σ vs) G' fun τ G2 => wipe τ vs = wipe σ vs ∧ tt τ G2 fun b G3 => if b = true then te τ G3 fun y G4 => r y D G4 N else N G3)
def tSetG (n0 : Addr → HO) (r : PutW) (wi : TI) (g : TG) (tt : TT) (te : TE) (vs : List Nat) : TE := fun σ G Q => wi σ G fun J G1 => SetG n0 r J g tt te vs σ G1 Q
theorem pe_setG {n0 : Addr → HO} {r : PutW} {elt tg iter : Expr} {ifs : List Expr} {scope : Scope} {own : List (PySem.Str × Nat)} {pos : Pos} {wi : TI} {g : TG} {tt : TT} {te : TE}
    (cm : X.calm = true) (nn : NewW X n0) (nd : X.N.Nodup) (hi : PI X tg iter wi) (bo : BlkOk X.N X.env.scope scope own)
    (hg : ∀ (s : Shared) (H : Hp) (C : Addr) (cl : List (PySem.Str × Addr)) (fp : List Addr), PG (X.blk s H scope (compEnvC scope cl C X.env) fp) tg g)
    (ht : ∀ (s : Shared) (H : Hp) (C : Addr) (cl : List (PySem.Str × Addr)) (fp : List Addr), PTs (X.blk s H scope (compEnvC scope cl C X.env) fp) ifs tt)
    (he : ∀ (s : Shared) (H : Hp) (C : Addr) (cl : List (PySem.Str × Addr)) (fp : List Addr), PE (X.blk s H scope (compEnvC scope cl C X.env) fp) elt te)
    (hp : ∀ (s : Shared) (H : Hp) (C : Addr) (cl : List (PySem.Str × Addr)) (fp : List Addr), PutR (X.blk s H scope (compEnvC scope cl C X.env) fp) r)
    (fo : ∀ x, foldedSetIterable iter X.env x = pure x := by intro _; rfl) :
    PE X (.SetComp elt [⟨tg, iter, ifs, 0⟩] scope pos) (tSetG n0 r wi g tt te (own.map (·.2))) := by
  refine ⟨fun pins z0 σ G Q I hw => ?_⟩
  rw [eval_SetComp]
  have cells : ∀ y ∈ scope.names, y.2 = .free → ∃ c, X.env.cells.lookup y.1 = some c := fun y hy e => (bo.free y hy e).elim (fun k => I.ok.has _ (.inl k)) fun k => I.ok.has _ (.inr k)
  refine wpAny_comprehension_free rfl fo (closure_ok cells) bo.kind (fun y hy e => by rw [bo.uniq y hy, e]) ?_
  refine thn (hi.run pins z0 σ G _ I hw) fun xv z1 first => thn first fun itv z2 there => ?_
  obtain ⟨it, fp, tn, J, G2, rfl, I2, T, st2, apart, ask⟩ := there
  refine newSet_ok (newEnv_comp ?_)
  -- the set's place
  obtain ⟨D, eD⟩ : ∃ D, D = z2.heap.objs.size := ⟨_, rfl⟩
  have nD : G2 D = none := I2.hok.fresh (Nat.le_of_eq eD.symm)
  obtain ⟨W, ⟨mW, w0⟩, turn⟩ := ask D nD
  rw [← eD]
  obtain ⟨z3, e3⟩ : ∃ z3 : Shared, z3 = { z2 with heap := z2.heap.push { cls := .type "set", dict := none, data := .set #[] 0 (.fresh 0 0 (!X.w.params.followText "set-order")) } } := ⟨_, rfl⟩
  rw [← e3]
  have hh3 : z3.heap = z2.heap.push { cls := .type "set", dict := none, data := .set #[] 0 (.fresh 0 0 (!X.w.params.followText "set-order")) } := by rw [e3]
  have keep23 : ∀ b o, z2.heap.get? b = some o → z3.heap.get? b = some o := fun b o e => by rw [hh3]; exact Heap.get?_push_of_some _ e
  obtain ⟨G3, eG3⟩ : ∃ G3, G3 = upd G2 D (n0 D) := ⟨_, rfl⟩
  rw [← eG3] at w0
  have I3 : Inv X pins σ G3 z3 := by
    rw [eG3, e3]
    exact I2.laid (t' := z2.toks) (fun b o e => Heap.get?_push_of_some _ e) (Nat.le_of_eq eD.symm) (by rw [eD]; exact nn _ _)
  have low : ∀ b ∈ fp, b < z2.heap.objs.size := fun b hb => by
    obtain ⟨o, e, _⟩ := T.obj _ _ st2 b hb
    exact Heap.lt_size e
  have apart3 : ∀ b ∈ fp, FpOk X pins G3 b ∧ b < z3.heap.objs.size := fun b hb => by
    have l := low b hb
    have ne : b ≠ D := by rw [eD]; exact Nat.ne_of_lt l
    exact ⟨⟨by rw [eG3, upd_ne ne]; exact (apart b hb).1, (apart b hb).2⟩, by rw [hh3, Heap.size_push]; exact Nat.lt_succ_of_lt l⟩
  have none3 : ∀ b ∈ fp, G3 b = none := fun b hb => (apart3 b hb).1.1
  have st3 : tn 0 z3.heap := T.keep _ _ _ st2 fun b _ o e => keep23 b o e
  have I4 := block_start I3 bo nd apart3
  have pg := hg z3 G3 z3.heap.objs.size (cellsFrom (z3.heap.objs.size + 1) scope.names (cloFrom X.env.cells scope.names [])) fp
  have pt := ht z3 G3 z3.heap.objs.size (cellsFrom (z3.heap.objs.size + 1) scope.names (cloFrom X.env.cells scope.names [])) fp
  have pe := he z3 G3 z3.heap.objs.size (cellsFrom (z3.heap.objs.size + 1) scope.names (cloFrom X.env.cells scope.names [])) fp
  have pp := hp z3 G3 z3.heap.objs.size (cellsFrom (z3.heap.objs.size + 1) scope.names (cloFrom X.env.cells scope.names [])) fp
  obtain ⟨ce, ece⟩ : ∃ ce, ce = compEnvC scope (cellsFrom (z3.heap.objs.size + 1) scope.names (cloFrom X.env.cells scope.names [])) z3.heap.objs.size X.env := ⟨_, rfl⟩
  rw [← ece] at I4 pg pt pe pp
  obtain ⟨z4, e4⟩ : ∃ z4 : Shared, z4 = { z3 with heap := pushCells (z3.heap.push { cls := .type "dict", data := .dict #[] }) scope.names } := ⟨_, rfl⟩
  rw [← e4] at I4
  show codeAny _ _ (.compStart (.SetComp elt [⟨tg, iter, ifs, 0⟩] scope pos) 0 (.ref it) (.ref D) (compEnvC scope (cellsFrom (z3.heap.objs.size + 1) scope.names (cloFrom X.env.cells scope.names [])) z3.heap.objs.size X.env)) _ { z3 with heap := pushCells (z3.heap.push { cls := .type "dict", data := .dict #[] }) scope.names }
  rw [← ece, ← e4]
  have lce : ce.locals = z3.heap.objs.size := by rw [ece]; rfl
  have st4 : tn 0 z4.heap := T.keep _ _ _ st3 fun b _ o e => by rw [e4]; exact pushCells_keeps _ _ _ _ (Heap.get?_push_of_some _ e)
  have fpOk : ∀ {τ : L2.St} {G' : Hp} {z' : Shared}, Inv (X.blk z3 G3 scope ce fp) [] τ G' z' → (∀ b ∈ fp, G' b = none) → ∀ b ∈ fp, FpOk (X.blk z3 G3 scope ce fp) [] G' b := fun {τ G' z'} J' hn b hb =>
    ⟨hn b hb, (J'.ok.exf b hb).1, J'.ok.exfs b hb, .inl hb, fun x c e => (J'.ok.exf b hb).2 x c e, fun p hp => nomatch (show p ∈ ([] : List (Addr × Obj)) from by simpa using hp)⟩
  have loop : codeAny (model X.prog X.w) X.A (.compLoop (.SetComp elt [⟨tg, iter, ifs, 0⟩] scope pos) 0 (.ref it) (.ref D) ce) (compPost (model X.prog X.w) X.A X.xe none (EP X pins σ Q) (.ref D) z3.heap.objs.size) z4 := by
    refine compLoopS_any (fun n z' => ∃ i G', Inv (X.blk z3 G3 scope ce fp) [] (wipe σ (own.map (·.2))) G' z' ∧ tn i z'.heap ∧ (∀ b ∈ fp, G' b = none) ∧ W i n G') ?_ mW ⟨0, G3, I4, st4, none3, w0⟩
    rintro n z5 ⟨i, G5, I5, st5, none5, w5⟩
    rcases turn i n G5 w5 with ⟨stop, done⟩ | ⟨go, N, hN, step⟩
    · refine thnF (T.done (X.blk z3 G3 scope ce fp) rfl rfl rfl cm i [] z5 _ G5 (fun _ _ => False) I5 (fpOk I5 none5) st5 stop) fun r z6 ⟨er, I6⟩ => ?_
      subst er
      have back : Inv X pins σ G5 z6 := I3.call' (ch := fp) I6.os I6.base I6.hok I6.bare fun b hb => ⟨(apart3 b hb).1.2.2.2.1, (apart3 b hb).1.2.1, (apart3 b hb).1.2.2.2.2.1, (apart3 b hb).1.2.2.2.2.2⟩
      have free : G5 z3.heap.objs.size = none := by
        have q : G5 ce.locals = none := I6.free
        rwa [lce] at q
      obtain ⟨m, hns, _⟩ := I6.loc
      have hns : z6.heap.Ns ce.locals m := hns
      rw [lce] at hns
      refine ⟨m, hns, fun h'' sb => ?_⟩
      obtain ⟨a0, a1, a2, a3, a4, a5⟩ := I3.fpOk (Nat.le_refl _) free
      exact ⟨.ref D, G5, back.turned (t' := z6.toks) (fun b o hb e => (sb.2 b hb).trans e) free a1 a3 a4 a5, rfl, done⟩
    · refine thnF (T.item (X.blk z3 G3 scope ce fp) rfl rfl rfl cm i [] z5 _ G5 (fun _ _ => False) I5 (fpOk I5 none5) st5 go) fun r z6 ⟨u, er, got⟩ => ?_
      subst er
      refine thnF got fun _ z7 ⟨x, G7, I7, rx, yx, st7, none7⟩ => ?_
      refine thnF (pg.run _ z7 _ G7 x u _ (I7.pinned (fpOk I7 none7) (T.obj _ _ st7)) rx (step x G7 yx)) fun _ z8 ⟨τ8, G8, I8, eτ, q8⟩ => ?_
      refine thnF (pt.run _ z8 τ8 G8 _ I8 q8) fun b z9 ⟨G9, I9, q9⟩ => ?_
      have turned : ∀ {z' : Shared} {G' : Hp}, Inv (X.blk z3 G3 scope ce fp) ([] ++ pinsAt fp z7.heap) τ8 G' z' → N G' → ∃ m, m < n ∧ ∃ i G', Inv (X.blk z3 G3 scope ce fp) [] (wipe σ (own.map (·.2))) G' z' ∧ tn i z'.heap ∧ (∀ b ∈ fp, G' b = none) ∧ W i m G' := fun {z' G'} J' nx => by
        obtain ⟨m', lt, w'⟩ := hN G' nx
        have pin : ∀ b ∈ fp, ∀ o, z7.heap.get? b = some o → z'.heap.get? b = some o ∧ G' b = none := fun b hb o e =>
          have q := J'.pin (b, o) (List.mem_append_right _ (List.mem_append_right _ (mem_pinsAt hb e)))
          ⟨q.1, q.2.1⟩
        have el : (wipe σ (own.map (·.2))).length = τ8.length := by rw [← eτ, wipe_length]
        have wk := (J'.unpinned (pins := [])).weak el fun j v e => by
          rw [← eτ] at e
          exact (wipe_some e).1
        refine ⟨m', lt, i + 1, G', wk, T.keep _ _ _ st7 fun b hb o e => (pin b hb o e).1, fun b hb => ?_, w'⟩
        obtain ⟨o, e, _⟩ := T.obj _ _ st7 b hb
        exact (pin b hb o e).2
      cases b with
      | false => exact turned I9 (by simpa using q9)
      | true =>
        have q9 : te τ8 G9 fun y G4 => r y D G4 N := by simpa using q9
        refine thnF (pe.run _ z9 τ8 G9 _ I9 q9) fun v z10 ⟨y, G10, I10, ry, put⟩ => ?_
        refine wpAny_mono (pp _ τ8 G10 z10 D y v N I10 ry put) (fun _ z11 ⟨G11, I11, nx⟩ => turned I11 nx) fun _ _ h => h.elim
  exact codeAny_compStart_set loop (T.self X.A 0 _ _ _ st4 loop)
end
/-! ### tuples of ints -/
theorem add_tup {P : Program} {w : World} {A : Around} {E : Value → Shared → Prop} {s : Shared} {a x : Addr} {k : List Int} {L : List (Addr × List Int)} {es : Array (Int × Value)} {ep : Nat} {t : SetTable} {Q : Value → Shared → Prop}
    (R : SetTR P w s.heap a L es ep t) (hx : IsT P w s.heap k x) (hu : A.units + 64 < cLine) (few : L.length + 1 < 64)
    (q : ∀ h' L' es' ep' t' tk, Heap.SameBut a s.heap h' → SetTR P w h' a L' es' ep' t' → (k ∈ L.map (·.2) → L' = L) → (k ∉ L.map (·.2) → L'.Perm ((x, k) :: L)) → Q .none { s with heap := h', toks := tk }) :
    wpAny (model P w) A (call (.builtin "set.add") [.ref a, .ref x]) Q E s := by
  have ty : s.TypeIs (.ref a) "set" := by
    obtain ⟨o, ho, hex, _⟩ := R.ob
    exact ⟨o, ho, hex.1⟩
  refine wpAny_call_entry F.slot_set_add ty F.entry_set_add ?_ (F.args_set_add_2 _ _)
  unfold Builtin.«set.add» Builtin.Frozenset.oneOther
  simp only [List.isEmpty_nil, bind_assoc]
  unfold Builtin.Frozenset.addrOf setAdd
  refine wpAny_bind (wpAny_pure ?_)
  try dsimp only
  refine wpAny_bind (wpAny_pure ?_)
  try dsimp only
  refine wpAny_bind (wpAny_holding ?_)
  refine wpAny_bind (wpAny_pyHash_tuple (by show A.units + 1 < _; omega) hx ?_)
  refine add_at (s := { s with toks := s.toks + (k.length + 1) }) R hx (by show A.units + 1 < _; omega) few fun b h' L' es' ep' t' sb R' c1 c2 => ?_
  show wpAny _ _ (ret Value.none) _ _ _
  exact wpAny_pure ⟨_, rfl, q h' L' es' ep' t' _ sb R' c1 c2⟩
section
variable {X : Cx}
/-- y, a tuple of ints, comes into the set of the tuples of L -/
def rPutT (K : PySem.W.Frag) (P : Program) (w : World) : PutW := fun y D G N => ∃ (x : Addr) (k : List Int) (L : List (Addr × List Int)), y = .ref x ∧ SqT K G x (k.map V.int) ∧ G D = some (SetTO P w D L) ∧ (∀ p ∈ L, SqT K G p.1 (p.2.map V.int)) ∧ L.length + 1 < 64 ∧
  (k ∈ L.map (·.2) → N (upd G D (SetTO P w D L))) ∧ (k ∉ L.map (·.2) → ∀ L', L'.Perm ((x, k) :: L) → N (upd G D (SetTO P w D L')))
theorem put_tup (K : PySem.W.Frag) (P : Program) (w : World) (hK : X.K = K) (hP : X.prog = P) (hw : X.w = w) (hu : X.A.units + 64 < cLine) : PutR X (rPutT K P w) := by
  subst hK hP hw
  intro pins τ G z D y u N I ry h
  obtain ⟨x, k, L, rfl, hx, hD, hL, few, q1, q2⟩ := h
  obtain rfl : u = Value.ref x := ry
  have R0 : SetT0 X.prog X.w z.heap D L := (I.hok D _ hD).1
  obtain ⟨es, ep, t, R⟩ := R0.full fun p hp => Inv.isT I (hL p hp)
  refine add_tup R (Inv.isT I hx) hu few fun h' L' es' ep' t' tk sb R' c1 c2 => ?_
  have he : ∃ u, h'.get? D = some u := by
    obtain ⟨o, ho, _⟩ := R'.ob
    exact ⟨o, ho⟩
  have J := I.write (e := D) (t' := tk) (by rw [hD]; trivial) (.inl rfl) (fun b u hb hu => (sb.2 b hb).trans hu) he (setTO_new R'.t0)
  refine ⟨_, J, ?_⟩
  by_cases c : k ∈ L.map (·.2)
  · rw [c1 c]; exact q1 c
  · exact q2 c L' (c2 c)
theorem new_tup (P : Program) (w : World) (hP : X.prog = P) (hw : X.w = w) : NewW X (fun D => SetTO P w D []) := by
  subst hP hw
  intro G h
  exact setTO_new (SetTR.t0 (setTR_fresh (Heap.get?_push_size _ rfl)))
/-- len of such a set -/
def rLenT (P : Program) (w : World) : List V → Hp → VK → Prop := fun xs G Q => ∃ (a : Addr) (L : List (Addr × List Int)), xs = [.ref a] ∧ G a = some (SetTO P w a L) ∧ Q (.int L.length) G
theorem call_lenT (P : Program) (w : World) (hP : X.prog = P) (hw : X.w = w) : CallR X (.builtin "len") (rLenT P w) := by
  subst hP hw
  intro pins z σ G xs us Q I r h
  obtain ⟨a, L, rfl, ha, q⟩ := h
  cases r with
  | cons r rr =>
    cases rr
    cases r
    have R0 : SetT0 X.prog X.w z.heap a L := (I.hok a _ ha).1
    obtain ⟨es, ep, t, ⟨o, ho, hex, hd⟩, rows, tab, nd, plain, led, room, few⟩ := R0.ex
    have sz : es.size = L.length := by
      have := congrArg List.length rows
      simpa [rowsOf] using this
    have fits : t.fits es.size = true := by
      have e1 := tab.sz
      rw [List.length_map] at e1
      unfold SetTable.fits SetTable.fill
      rw [tab.dm, Bool.and_eq_true, beq_iff_eq, decide_eq_true_eq]
      show t.place.size = es.size ∧ t.place.size + 0 ≤ t.mask
      omega
    refine call_len_set ho hex hd fits (by omega) ⟨.int L.length, G, I.tok _, ⟨_, by rw [sz]⟩, q⟩
end
/-! ### ints -/
section
variable {X : Cx}
def rPutI (w : World) : PutW := fun y D G N => ∃ (k : Int) (S : Int → Bool) (n : Nat), y = .int k ∧ G D = some (SetO w D S n) ∧ n + 1 < scanBound ∧ N (upd G D (SetO w D (fun j => S j || decide (j = k)) (if S k = true then n else n + 1)))
theorem put_int (w : World) (hw : X.w = w) : PutR X (rPutI w) := by
  subst hw
  intro pins τ G z D y u N I ry h
  obtain ⟨k, S, n, rfl, hD, room, q⟩ := h
  exact thn (mt_sadd pins z τ G (.ref D) [.int k] (.ref D) [u] (fun _ G' => N G') I rfl (.cons ry .nil) ⟨D, k, S, n, rfl, rfl, hD, room, q⟩) fun _ z' ⟨_, G', J, _, q⟩ => ⟨G', J, q⟩
theorem new_int (w : World) (hw : X.w = w) : NewW X (fun D => SetO w D (fun _ => false) 0) := by
  subst hw
  intro G h
  exact setO_new (setR_fresh X.w)
def rLenI (w : World) : List V → Hp → VK → Prop := fun xs G Q => ∃ (a : Addr) (S : Int → Bool) (n : Nat), xs = [.ref a] ∧ G a = some (SetO w a S n) ∧ Q (.int n) G
theorem call_lenI (w : World) (hw : X.w = w) : CallR X (.builtin "len") (rLenI w) := by
  subst hw
  intro pins z σ G xs us Q I r h
  obtain ⟨a, S, n, rfl, ha, q⟩ := h
  cases r with
  | cons r rr =>
    cases rr
    cases r
    obtain ⟨o, es, ep, t, ho, hex, hd, _, _, _, hsz, hf, hn, _⟩ := setO_get I ha
    exact call_len_set ho hex hd hf (by unfold scanBound at hsz; omega) ⟨.int n, G, I.tok _, ⟨_, by rw [hn]⟩, q⟩
end
end SetG

set_option Elab.async false
set_option linter.all false
set_option maxRecDepth 100000
set_option maxHeartbeats 2000000
/-! SetL: how many unlike things a comprehension meets: sets of tuples of ints, of ints. -/
namespace SetL
open PySem PySem.Spec PyProof.Rows L2 GxR GX Tree Kit Comps SetG
theorem nodup_next {α : Type} (f : Nat → α) (i : Nat) : ((List.range (i + 1)).map f).Nodup ↔ ((List.range i).map f).Nodup ∧ ∀ j, j < i → f j ≠ f i := by
  rw [List.range_succ, List.map_append, List.nodup_append]
  constructor
  · rintro ⟨h1, _, h3⟩
    exact ⟨h1, fun j hj => h3 _ (List.mem_map.mpr ⟨j, List.mem_range.mpr hj, rfl⟩) _ (by simp)⟩
  · rintro ⟨h1, h3⟩
    refine ⟨h1, by simp, fun a ha b hb => ?_⟩
    obtain ⟨j, hj, rfl⟩ := List.mem_map.mp ha
    have : b = f i := by simpa using hb
    rw [this]
    exact h3 j (List.mem_range.mp hj)
/-- one more thing: the count stays the number of turns just where all were unlike -/
theorem count_next {α : Type} (f : Nat → α) {i n n' : Nat} (hn : n ≤ i) (he : n = i ↔ ((List.range i).map f).Nodup) (hs : (∃ j, j < i ∧ f i = f j) → n' = n) (hm : (¬ ∃ j, j < i ∧ f i = f j) → n' = n + 1) :
    n' ≤ i + 1 ∧ (n' = i + 1 ↔ ((List.range (i + 1)).map f).Nodup) := by
  rw [nodup_next]
  by_cases h : ∃ j, j < i ∧ f i = f j
  · have e := hs h
    refine ⟨by omega, fun z => by omega, fun z => ?_⟩
    obtain ⟨j, hj, ej⟩ := h
    exact absurd ej.symm (z.2 j hj)
  · have e := hm h
    refine ⟨by omega, fun z => ⟨he.mp (by omega), fun j hj ej => h ⟨j, hj, ej.symm⟩⟩, fun z => ?_⟩
    have := he.mpr z.1
    omega
section
variable {g : TG} {te : TE} {vs : List Nat} {σ : L2.St} {H : Hp} {Q : VK}
theorem len_tups {K : PySem.W.Frag} {P : Program} {w : World} {J : It} {N : Nat} {f : Nat → V} (It : ItAt J [] H N f) (keys : Nat → List Int) (hN : N < 64)
    (step : ∀ i H', i < N → Kx [] H H' → ∀ (R : V → Hp → Prop) (R0 : Hp → Prop), (∀ x H'', Kx [] H' H'' → H'' x = some (.tup ((keys i).map V.int)) → R (.ref x) H'') → g (f i) (wipe σ vs) H' fun σ2 H2 => wipe σ2 vs = wipe σ vs ∧ tYes σ2 H2 fun b H3 => if b = true then te σ2 H3 R else R0 H3)
    (q : ∀ D L H', Kx [] H H' → H' D = some (SetTO P w D L) → (L.length = N ↔ ((List.range N).map keys).Nodup) → Q (.ref D) H') :
    SetG (fun D => SetTO P w D []) (rPutT K P w) J g tYes te vs σ H Q := by
  intro D hD
  refine ⟨fun i m H' => m = N - i ∧ i ≤ N ∧ Kx [] H H' ∧ ∃ L : List (Addr × List Int), H' D = some (SetTO P w D L) ∧ (∀ p ∈ L, H' p.1 = some (.tup (p.2.map V.int))) ∧ (∀ k, k ∈ L.map (·.2) ↔ ∃ j, j < i ∧ k = keys j) ∧ L.length ≤ i ∧ (L.length = i ↔ ((List.range i).map keys).Nodup),
    ⟨N, by simp, Nat.zero_le _, Kx.new hD, [], upd_same, fun p h => (nomatch h), fun k => by simp, Nat.le_refl _, by simp⟩, ?_⟩
  rintro i m H1 ⟨rfl, hi, k1, L, eD, hL, mem, le, cnt⟩
  by_cases lt : i < N
  · refine .inr ⟨It.go i H1 lt k1, fun H' => Kx [] H H' ∧ ∃ L : List (Addr × List Int), H' D = some (SetTO P w D L) ∧ (∀ p ∈ L, H' p.1 = some (.tup (p.2.map V.int))) ∧ (∀ k, k ∈ L.map (·.2) ↔ ∃ j, j < i + 1 ∧ k = keys j) ∧ L.length ≤ i + 1 ∧ (L.length = i + 1 ↔ ((List.range (i + 1)).map keys).Nodup),
      fun H' z => ⟨N - (i + 1), by omega, rfl, lt, z.1, z.2⟩, fun y H2 hy => ?_⟩
    obtain ⟨rfl, rfl⟩ := It.yld i H1 y H2 lt k1 hy
    refine step i H2 lt k1 (fun y G4 => rPutT K P w y D G4 fun H' => Kx [] H H' ∧ ∃ L : List (Addr × List Int), H' D = some (SetTO P w D L) ∧ (∀ p ∈ L, H' p.1 = some (.tup (p.2.map V.int))) ∧ (∀ k, k ∈ L.map (·.2) ↔ ∃ j, j < i + 1 ∧ k = keys j) ∧ L.length ≤ i + 1 ∧ (L.length = i + 1 ↔ ((List.range (i + 1)).map keys).Nodup)) _
      (fun x H3 k3 ex => by
        have eD3 : H3 D = some (SetTO P w D L) := k3.at (by simp) eD fun _ z => by cases z
        have hL3 : ∀ p ∈ L, H3 p.1 = some (.tup (p.2.map V.int)) := fun p hp => k3.tup (by simp) (hL p hp)
        have nD : ∀ {b : Addr} {zs : List V}, H3 b = some (.tup zs) → b ≠ D := fun e z => by rw [z, eD3] at e; cases e
        have k13 : ∀ {o : HO}, Kx [] H (upd H3 D o) := fun {o} => (k1.trans k3).mut hD
        refine ⟨x, keys i, L, rfl, SqT.of ex, eD3, fun p hp => SqT.of (hL3 p hp), by omega, fun hm => ⟨k13, L, upd_same, fun p hp => by rw [upd_ne (nD (hL3 p hp))]; exact hL3 p hp, fun k => ?_, ?_⟩, fun hm L' perm => ⟨k13, L', upd_same, fun p hp => ?_, fun k => ?_, ?_⟩⟩
        · rw [mem k]
          constructor
          · rintro ⟨j, hj, e⟩
            exact ⟨j, by omega, e⟩
          · rintro ⟨j, hj, e⟩
            by_cases ej : j = i
            · subst ej
              rw [e]
              exact (mem _).mp hm
            · exact ⟨j, by omega, e⟩
        · exact count_next keys le cnt (fun _ => rfl) fun z => absurd ((mem _).mp hm) z
        · rcases List.mem_cons.mp (perm.mem_iff.mp hp) with e | e
          · rw [e, upd_ne (nD ex)]; exact ex
          · rw [upd_ne (nD (hL3 p e))]; exact hL3 p e
        · rw [(perm.map (·.2)).mem_iff, List.map_cons, List.mem_cons, mem k]
          constructor
          · rintro (e | ⟨j, hj, e⟩)
            · exact ⟨i, by omega, e⟩
            · exact ⟨j, by omega, e⟩
          · rintro ⟨j, hj, e⟩
            by_cases ej : j = i
            · subst ej
              exact .inl e
            · exact .inr ⟨j, by omega, e⟩
        · have el : L'.length = L.length + 1 := by rw [perm.length_eq]; rfl
          exact count_next keys le cnt (fun z => absurd ((mem _).mpr z) hm) fun _ => el)
  · have e : i = N := by omega
    subst e
    exact .inl ⟨It.stop H1 k1, q D L H1 k1 eD cnt⟩
theorem len_ints {w : World} {J : It} {N : Nat} {f : Nat → V} (It : ItAt J [] H N f) (keys : Nat → Int) (hN : N < 64)
    (step : ∀ i H', i < N → Kx [] H H' → ∀ (R : V → Hp → Prop) (R0 : Hp → Prop), (∀ H'', Kx [] H' H'' → R (.int (keys i)) H'') → g (f i) (wipe σ vs) H' fun σ2 H2 => wipe σ2 vs = wipe σ vs ∧ tYes σ2 H2 fun b H3 => if b = true then te σ2 H3 R else R0 H3)
    (q : ∀ D S n H', Kx [] H H' → H' D = some (SetO w D S n) → (n = N ↔ ((List.range N).map keys).Nodup) → Q (.ref D) H') :
    SetG (fun D => SetO w D (fun _ => false) 0) (rPutI w) J g tYes te vs σ H Q := by
  intro D hD
  refine ⟨fun i m H' => m = N - i ∧ i ≤ N ∧ Kx [] H H' ∧ ∃ (S : Int → Bool) (n : Nat), H' D = some (SetO w D S n) ∧ (∀ k, S k = true ↔ ∃ j, j < i ∧ k = keys j) ∧ n ≤ i ∧ (n = i ↔ ((List.range i).map keys).Nodup),
    ⟨N, by simp, Nat.zero_le _, Kx.new hD, fun _ => false, 0, upd_same, fun k => by simp, Nat.le_refl _, by simp⟩, ?_⟩
  rintro i m H1 ⟨rfl, hi, k1, S, n, eD, mem, le, cnt⟩
  by_cases lt : i < N
  · refine .inr ⟨It.go i H1 lt k1, fun H' => Kx [] H H' ∧ ∃ (S : Int → Bool) (n : Nat), H' D = some (SetO w D S n) ∧ (∀ k, S k = true ↔ ∃ j, j < i + 1 ∧ k = keys j) ∧ n ≤ i + 1 ∧ (n = i + 1 ↔ ((List.range (i + 1)).map keys).Nodup),
      fun H' z => ⟨N - (i + 1), by omega, rfl, lt, z.1, z.2⟩, fun y H2 hy => ?_⟩
    obtain ⟨rfl, rfl⟩ := It.yld i H1 y H2 lt k1 hy
    refine step i H2 lt k1 (fun y G4 => rPutI w y D G4 fun H' => Kx [] H H' ∧ ∃ (S : Int → Bool) (n : Nat), H' D = some (SetO w D S n) ∧ (∀ k, S k = true ↔ ∃ j, j < i + 1 ∧ k = keys j) ∧ n ≤ i + 1 ∧ (n = i + 1 ↔ ((List.range (i + 1)).map keys).Nodup)) _ fun H3 k3 => ?_
    have eD3 : H3 D = some (SetO w D S n) := k3.at (by simp) eD fun _ z => by cases z
    refine ⟨keys i, S, n, rfl, eD3, by unfold scanBound; omega, (k1.trans k3).mut hD, _, _, upd_same, fun k => ?_, ?_⟩
    · rw [Bool.or_eq_true, mem k, decide_eq_true_eq]
      constructor
      · rintro (⟨j, hj, e⟩ | e)
        · exact ⟨j, by omega, e⟩
        · exact ⟨i, by omega, e⟩
      · rintro ⟨j, hj, e⟩
        by_cases ej : j = i
        · subst ej
          exact .inr e
        · exact .inl ⟨j, by omega, e⟩
    · refine count_next keys le cnt (fun z => ?_) fun z => ?_
      · rw [if_pos ((mem _).mpr z)]
      · rw [if_neg fun y => z ((mem _).mp y)]
  · have e : i = N := by omega
    subst e
    exact .inl ⟨It.stop H1 k1, q D S n H1 k1 eD cnt⟩
end
end SetL

set_option Elab.async false
set_option linter.all false
set_option maxRecDepth 100000
set_option maxHeartbeats 2000000
/-! Purse: the list of which drawn numbers are taken; what is known beside it. -/
namespace Purse
open PySem PySem.Spec PyProof.Rows L2 GxR GX Tree Kit Comps
/-- the purse at p; its counter is at most n -/
def PurseAt (H : Hp) (p : Addr) (n : Nat) : Prop := ∃ a b c : Int, H p = some (.lst [.int a, .int b, .int c]) ∧ 0 ≤ a ∧ 0 ≤ b ∧ b < 2 ^ 150 ∧ 0 ≤ c ∧ c ≤ (n : Int)
/-- the addresses of C are taken, p is one of them and holds the purse; the tables Ts stand -/
structure At (Ts : List Addr) (C : List Addr) (p : Addr) (n : Nat) (H : Hp) : Prop where
  al : ∀ c ∈ C, H c ≠ none
  mem : p ∈ C
  pu : PurseAt H p n
  tb : Tb Ts H
theorem PurseAt.mono {H : Hp} {p : Addr} {n m : Nat} (h : PurseAt H p n) (l : n ≤ m) : PurseAt H p m := by
  obtain ⟨a, b, c, h1, h2, h3, h4, h5, h6⟩ := h
  exact ⟨a, b, c, h1, h2, h3, h4, h5, by omega⟩
theorem PurseAt.kx {H H' : Hp} {p : Addr} {n : Nat} (h : PurseAt H p n) (k : Kx [] H H') : PurseAt H' p n := by
  obtain ⟨a, b, c, h1, h2⟩ := h
  exact ⟨a, b, c, k.lst (by simp) h1, h2⟩
theorem PurseAt.ne {H : Hp} {p : Addr} {n : Nat} (h : PurseAt H p n) : H p ≠ none := by
  obtain ⟨a, b, c, h1, _⟩ := h
  rw [h1]; simp
section
variable {Ts C : List Addr} {p : Addr} {n m : Nat} {H H' : Hp}
theorem _root_.Tree.Kx.ne (k : Kx [] H H') {b : Addr} (h : H b ≠ none) : H' b ≠ none := fun z => h (k.free (by simp) z)
theorem At.mono (h : At Ts C p n H) (l : n ≤ m) : At Ts C p m H := ⟨h.al, h.mem, h.pu.mono l, h.tb⟩
theorem At.kx (h : At Ts C p n H) (k : Kx [] H H') : At Ts C p n H' := ⟨fun c hc => Kx.ne k (h.al c hc), h.mem, h.pu.kx k, h.tb.kx k⟩
/-- more addresses that are taken -/
theorem At.cons (h : At Ts C p n H) {D : Addr} (hD : H D ≠ none) : At Ts (D :: C) p n H := ⟨fun c hc => (List.mem_cons.mp hc).elim (fun e => e ▸ hD) (h.al c), List.mem_cons_of_mem _ h.mem, h.pu, h.tb⟩
theorem At.less {D : List Addr} (h : At Ts D p n H) (hs : ∀ c ∈ C, c ∈ D) (m : p ∈ C) : At Ts C p n H := ⟨fun c hc => h.al c (hs c hc), m, h.pu, h.tb⟩
theorem At.new (h : At Ts C p n H) {D : Addr} {o : HO} (hD : H D = none) : At Ts C p n (upd H D o) := h.kx (Kx.new hD)
/-- the purse alone has changed -/
theorem At.put (h : At Ts C p n H) (k : Kx [p] H H') (pu : PurseAt H' p m) (hT : ∀ P ∈ Ts, P ≠ p) : At Ts C p m H' :=
  ⟨fun c hc => by
    by_cases e : c = p
    · rw [e]; exact pu.ne
    · exact fun z => h.al c hc (k.free (by simpa using e) z), h.mem, pu, h.tb.kx k fun P hP => by simpa using hT P hP⟩
theorem At.tne (h : At Ts C p n H) : ∀ P ∈ Ts, P ≠ p := fun P hP e => by
  obtain ⟨ps, e1, _⟩ := h.tb P hP
  obtain ⟨a, b, c, h1, _⟩ := h.pu
  rw [e, h1] at e1
  cases e1
/-- a tree stays where the purse alone has changed -/
theorem At.tr (h : At Ts C p n H) {v : V} {d : PyData} (t : Tr C H v d) (k : Kx [p] H H') : Tr C H' v d := Tr.kx k (fun b hb => by rw [List.mem_singleton.mp hb]; exact h.mem) d v t
theorem At.trs (h : At Ts C p n H) {vs : List V} {ds : List PyData} (t : TrAll C H vs ds) (k : Kx [p] H H') : TrAll C H' vs ds := TrAll.kx k (fun b hb => by rw [List.mem_singleton.mp hb]; exact h.mem) ds vs t
theorem At.not (h : At Ts C p n H) {D : Addr} (hD : H D = none) : D ∉ C := fun z => h.al D z hD
/-- a new list, tuple -/
theorem new_lst (al : ∀ c ∈ C, H c ≠ none) {xs : List V} {ds : List PyData} (t : TrAll C H xs ds) {Q : VK} (q : ∀ D H', Kx [] H H' → H D = none → H' D = some (.lst xs) → Tr C H' (.ref D) (.list ds) → Q (.ref D) H') : ∀ D, H D = none → Q (.ref D) (upd H D (.lst xs)) := fun D hD =>
  q D _ (Kx.new hD) hD upd_same (.lst (fun z => al D z hD) upd_same (t.up (Kx.new hD)))
theorem new_tup (al : ∀ c ∈ C, H c ≠ none) {xs : List V} {ds : List PyData} (t : TrAll C H xs ds) {Q : VK} (q : ∀ D H', Kx [] H H' → H D = none → H' D = some (.tup xs) → Tr C H' (.ref D) (.tuple ds) → Q (.ref D) H') : ∀ D, H D = none → Q (.ref D) (upd H D (.tup xs)) := fun D hD =>
  q D _ (Kx.new hD) hD upd_same (.tup (fun z => al D z hD) upd_same (t.up (Kx.new hD)))
theorem new_dic (al : ∀ c ∈ C, H c ≠ none) {Q : VK} (q : ∀ D H', Kx [] H H' → Tr C H' (.ref D) (.dict []) → Q (.ref D) H') : ∀ D, H D = none → Q (.ref D) (upd H D (.dK [])) := fun D hD =>
  q D _ (Kx.new hD) (.dic (fun z => al D z hD) upd_same)
/-! ### coins -/
def sp_coin (Ts : List Addr) : Sp := fun vs H Q _ => ∃ p n many C, vs = [.ref p, .int many] ∧ 0 < many ∧ many ≤ 1000000 ∧ n ≤ 1000000000000 ∧ At Ts C p n H ∧ ∀ r H', 0 ≤ r → r < many → Kx [p] H H' → At Ts C p (n + 1) H' → Q (.int r) H'
theorem use_coin {many : Int} {Q : VK} {E : XK} (h : At Ts C p n H) (h0 : 0 < many) (h1 : many ≤ 1000000) (hn : n ≤ 1000000000000) (q : ∀ r H', 0 ≤ r → r < many → Kx [p] H H' → At Ts C p (n + 1) H' → Q (.int r) H') : sp_coin Ts [.ref p, .int many] H Q E :=
  ⟨p, n, many, C, rfl, h0, h1, hn, h, q⟩
theorem len_ok {xs : List V} (h : Nat.ble xs.length 1000 = true := by rfl) : xs.length ≤ sizeLine := by
  have := Nat.le_of_ble_eq_true h
  unfold sizeLine
  omega
theorem wide_of {i : Int} {b : Nat} (h0 : 0 ≤ i) (h : i < ((2 ^ b : Nat) : Int)) : i.natAbs < 2 ^ b := by omega
end
section
variable {Ts C : List Addr} {p : Addr} {n : Nat} {H : Hp} {g : TG} {tt : TT} {te : TE} {vs : List Nat} {σ : L2.St} {Q : VK}
/-- a comprehension whose turns draw k coins at most -/
theorem lc_pu {J : It} {N : Nat} {f : Nat → V} (It : ItAt J [p] H N f) (hN : N ≤ 1000) (k : Nat) (G : PyData → Prop) (ex : Bool) (hA : At Ts C p n H)
    (step : ∀ D i H', H D = none → i < N → Kx [p] H H' → At Ts (D :: C) p (n + i * k) H' → ∀ (R : V → Hp → Prop) (R0 : Hp → Prop),
      (∀ y d H'', Kx [p] H' H'' → At Ts (D :: C) p (n + (i + 1) * k) H'' → Tr (D :: C) H'' y d → G d → R y H'') →
      (ex = false → ∀ H'', Kx [p] H' H'' → At Ts (D :: C) p (n + (i + 1) * k) H'' → R0 H'') →
      g (f i) (wipe σ vs) H' fun σ2 H2 => wipe σ2 vs = wipe σ vs ∧ tt σ2 H2 fun b H3 => if b = true then te σ2 H3 R else R0 H3)
    (q : ∀ D ds H', Kx [p] H H' → At Ts C p (n + N * k) H' → Tr C H' (.ref D) (.list ds) → ds.length ≤ N → (ex = true → ds.length = N) → (∀ d ∈ ds, G d) → Q (.ref D) H') : CompG J g tt te vs σ H Q := by
  refine lc_tr (B := [p]) (C := C) It (by unfold sizeLine; omega) (Iv := fun i H' => At Ts C p (n + i * k) H') G ex (fun b hb => by rw [List.mem_singleton.mp hb]; exact hA.mem) hA.al (fun i H' D o hD a => ?_) (fun i H' a b hb => by rw [List.mem_singleton.mp hb]; exact a.pu.ne) (by simpa using hA) (fun D i H' hD hal hi kk a R R0 hR hR0 => ?_) q
  · have nD : D ∉ C := hA.not hD
    have np : p ≠ D := fun e => nD (by rw [← e]; exact hA.mem)
    refine ⟨fun c hc => ?_, a.mem, ?_, ?_⟩
    · have nc : c ≠ D := fun e => nD (by rw [← e]; exact hc)
      rw [upd_ne nc]; exact a.al c hc
    · obtain ⟨x, y, z, h1, h2⟩ := a.pu
      exact ⟨x, y, z, by rw [upd_ne np]; exact h1, h2⟩
    · intro P hP
      obtain ⟨ps, e1, e2⟩ := a.tb P hP
      obtain ⟨ps0, e0, _⟩ := hA.tb P hP
      have nP : P ≠ D := fun e => by rw [e, hD] at e0; cases e0
      exact ⟨ps, by rw [upd_ne nP]; exact e1, e2⟩
  · exact step D i H' hD hi kk ⟨hal, List.mem_cons_of_mem _ a.mem, a.pu, a.tb⟩ R R0 (fun y d H'' k2 a2 ty gd => hR y d H'' k2 (a2.less (fun c hc => List.mem_cons_of_mem _ hc) hA.mem) ty gd) (fun e H'' k2 a2 => hR0 e H'' k2 (a2.less (fun c hc => List.mem_cons_of_mem _ hc) hA.mem))
end
section
variable {Ts C : List Addr} {p : Addr} {n : Nat} {H : Hp} {g : TG} {tt : TT} {te : TE} {vs : List Nat} {σ : L2.St} {Q : VK}
/-- the same; each item with its turn -/
theorem lc_puX {J : It} {N : Nat} {f : Nat → V} (It : ItAt J [p] H N f) (hN : N ≤ 1000) (k : Nat) (G : Nat → PyData → Prop) (hA : At Ts C p n H)
    (step : ∀ D i H', H D = none → i < N → Kx [p] H H' → At Ts (D :: C) p (n + i * k) H' → ∀ (R : V → Hp → Prop) (R0 : Hp → Prop),
      (∀ y d H'', Kx [p] H' H'' → At Ts (D :: C) p (n + (i + 1) * k) H'' → Tr (D :: C) H'' y d → G i d → R y H'') →
      (∀ H'', Kx [p] H' H'' → At Ts (D :: C) p (n + (i + 1) * k) H'' → R0 H'') →
      g (f i) (wipe σ vs) H' fun σ2 H2 => wipe σ2 vs = wipe σ vs ∧ tt σ2 H2 fun b H3 => if b = true then te σ2 H3 R else R0 H3)
    (q : ∀ D js ds H', Kx [p] H H' → At Ts C p (n + N * k) H' → Tr C H' (.ref D) (.list ds) → Made G js ds → (∀ j ∈ js, j < N) → Q (.ref D) H') : CompG J g tt te vs σ H Q := by
  refine lc_ix (B := [p]) (C := C) It (by unfold sizeLine; omega) (Iv := fun i H' => At Ts C p (n + i * k) H') G (fun b hb => by rw [List.mem_singleton.mp hb]; exact hA.mem) hA.al (fun i H' D o hD a => ?_) (fun i H' a b hb => by rw [List.mem_singleton.mp hb]; exact a.pu.ne) (by simpa using hA) (fun D i H' hD hal hi kk a R R0 hR hR0 => ?_) q
  · have nD : D ∉ C := hA.not hD
    have np : p ≠ D := fun e => nD (by rw [← e]; exact hA.mem)
    refine ⟨fun c hc => ?_, a.mem, ?_, ?_⟩
    · have nc : c ≠ D := fun e => nD (by rw [← e]; exact hc)
      rw [upd_ne nc]; exact a.al c hc
    · obtain ⟨x, y, z, h1, h2⟩ := a.pu
      exact ⟨x, y, z, by rw [upd_ne np]; exact h1, h2⟩
    · intro P hP
      obtain ⟨ps, e1, e2⟩ := a.tb P hP
      obtain ⟨ps0, e0, _⟩ := hA.tb P hP
      have nP : P ≠ D := fun e => by rw [e, hD] at e0; cases e0
      exact ⟨ps, by rw [upd_ne nP]; exact e1, e2⟩
  · exact step D i H' hD hi kk ⟨hal, List.mem_cons_of_mem _ a.mem, a.pu, a.tb⟩ R R0 (fun y d H'' k2 a2 ty gd => hR y d H'' k2 (a2.less (fun c hc => List.mem_cons_of_mem _ hc) hA.mem) ty gd) (fun H'' k2 a2 => hR0 H'' k2 (a2.less (fun c hc => List.mem_cons_of_mem _ hc) hA.mem))
end
/-! ### new objects, picks -/
section
variable {C : List Addr} {H : Hp}
theorem mk_lst (al : ∀ c ∈ C, H c ≠ none) {xs : List V} {ds : List PyData} (t : TrAll C H xs ds) {D : Addr} (hD : H D = none) : Kx [] H (upd H D (.lst xs)) ∧ upd H D (.lst xs) D = some (.lst xs) ∧ Tr C (upd H D (.lst xs)) (.ref D) (.list ds) :=
  ⟨Kx.new hD, upd_same, .lst (fun z => al D z hD) upd_same (t.up (Kx.new hD))⟩
theorem mk_tup (al : ∀ c ∈ C, H c ≠ none) {xs : List V} {ds : List PyData} (t : TrAll C H xs ds) {D : Addr} (hD : H D = none) : Kx [] H (upd H D (.tup xs)) ∧ upd H D (.tup xs) D = some (.tup xs) ∧ Tr C (upd H D (.tup xs)) (.ref D) (.tuple ds) :=
  ⟨Kx.new hD, upd_same, .tup (fun z => al D z hD) upd_same (t.up (Kx.new hD))⟩
theorem mk_dic (al : ∀ c ∈ C, H c ≠ none) {D : Addr} (hD : H D = none) : Kx [] H (upd H D (.dK [])) ∧ upd H D (.dK []) D = some (.dK []) ∧ Tr C (upd H D (.dK [])) (.ref D) (.dict []) :=
  ⟨Kx.new hD, upd_same, .dic (fun z => al D z hD) upd_same⟩
theorem pick {xs : List V} {ds : List PyData} (t : TrAll C H xs ds) {r : Int} (h0 : 0 ≤ r) (h1 : r < (xs.length : Int)) : ∃ v d, atI xs r = some v ∧ Tr C H v d ∧ d ∈ ds := by
  have hl := t.length
  have e : xs[r.toNat]? = some xs[r.toNat] := List.getElem?_eq_getElem (by omega)
  obtain ⟨d, e1, e2⟩ := t.get e
  refine ⟨_, d, ?_, e2, List.mem_of_getElem? e1⟩
  have := atI_nat e
  rwa [show ((r.toNat : Nat) : Int) = r by omega] at this
end
section
variable {Ts C : List Addr} {p : Addr} {n : Nat} {H H' : Hp}
theorem _root_.Tree.Tr.out {B : List Addr} {a : Addr} {d : PyData} (t : Tr B H (.ref a) d) : a ∉ B := by
  cases t with
  | lst n _ _ => exact n
  | tup n _ _ => exact n
  | dic n _ => exact n
theorem At.nepT (h : At Ts C p n H) {a : Addr} {d : PyData} {H' : Hp} (t : Tr C H' (.ref a) d) : a ∉ [p] := fun e => Tree.Tr.out t (by rw [List.mem_singleton.mp e]; exact h.mem)
theorem At.nep (h : At Ts C p n H) {D : Addr} (hD : H D = none) : D ∉ [p] := fun e => h.not hD (by rw [List.mem_singleton.mp e]; exact h.mem)
/-- a list that is not the purse is written -/
theorem At.set (h : At Ts C p n H) {D : Addr} {xs : List V} {o : HO} (hD : H D = some (.lst xs)) (np : D ≠ p) : At Ts C p n (upd H D o) := by
  refine ⟨fun c hc => ?_, h.mem, ?_, fun P hP => ?_⟩
  · by_cases e : c = D
    · rw [e, upd_same]; simp
    · rw [upd_ne e]; exact h.al c hc
  · obtain ⟨x, y, z, h1, h2⟩ := h.pu
    exact ⟨x, y, z, by rw [upd_ne (Ne.symm np)]; exact h1, h2⟩
  · obtain ⟨ps, e1, e2⟩ := h.tb P hP
    have nP : P ≠ D := fun e => by rw [e, hD] at e1; cases e1
    exact ⟨ps, by rw [upd_ne nP]; exact e1, e2⟩
theorem _root_.Tree.Kx.weak {B D : List Addr} (k : Kx D H H') (h : ∀ b ∈ D, b ∈ B ∨ H b = none) : Kx B H H' := fun b o n e => k b o (fun z => (h b z).elim n fun y => by rw [y] at e; cases e) e
theorem _root_.Tree.Tr.items {B : List Addr} {a : Addr} {ds : List PyData} (t : Tr B H (.ref a) (.list ds)) : ∃ xs, H a = some (.lst xs) ∧ TrAll B H xs ds := by
  cases t with
  | lst _ h l => exact ⟨_, h, l⟩
theorem _root_.Tree.Tr.itemsT {B : List Addr} {a : Addr} {ds : List PyData} (t : Tr B H (.ref a) (.tuple ds)) : ∃ xs, H a = some (.tup xs) ∧ TrAll B H xs ds := by
  cases t with
  | tup _ h l => exact ⟨_, h, l⟩
/-- the tree of a list is at an address -/
theorem _root_.Tree.Tr.listV {B : List Addr} {v : V} {ds : List PyData} (t : Tr B H v (.list ds)) : ∃ a xs, v = .ref a ∧ H a = some (.lst xs) ∧ TrAll B H xs ds := by
  cases t with
  | lst _ h l => exact ⟨_, _, rfl, h, l⟩
theorem _root_.Tree.Tr.tupV {B : List Addr} {v : V} {ds : List PyData} (t : Tr B H v (.tuple ds)) : ∃ a xs, v = .ref a ∧ H a = some (.tup xs) ∧ TrAll B H xs ds := by
  cases t with
  | tup _ h l => exact ⟨_, _, rfl, h, l⟩
theorem _root_.Tree.Tr.intV {B : List Addr} {v : V} {i : Int} (t : Tr B H v (.int i)) : v = .int i := by
  cases t; rfl
end
section
variable {H : Hp}
theorem new_at {o : HO} {D : Addr} {H' : Hp} (hD : H D = none) (e : upd H D o = H') : Kx [] H H' ∧ H' D = some o := by
  subst e
  exact ⟨Kx.new hD, upd_same⟩
theorem mk_ints (ns : List Int) {D : Addr} (hD : H D = none) : Kx [] H (upd H D (.lst (ns.map V.int))) ∧ upd H D (.lst (ns.map V.int)) D = some (.lst (ns.map V.int)) := ⟨Kx.new hD, upd_same⟩
theorem pickI {ns : List Int} {r : Int} (h0 : 0 ≤ r) (h1 : r < (ns.length : Int)) : ∃ i, atI (ns.map V.int) r = some (.int i) ∧ i ∈ ns := by
  have e : ns[r.toNat]? = some ns[r.toNat] := List.getElem?_eq_getElem (by omega)
  refine ⟨_, ?_, List.mem_of_getElem? e⟩
  have := atI_nat (xs := ns.map V.int) (j := r.toNat) (v := .int ns[r.toNat]) (by rw [List.getElem?_map, e]; rfl)
  rwa [show ((r.toNat : Nat) : Int) = r by omega] at this
end
end Purse

set_option Elab.async false
set_option linter.all false
set_option maxRecDepth 100000
set_option maxHeartbeats 2000000
/-! Small: trees with bounds: list lengths, ints, texts, parts, depth. -/
namespace Small
open PySem PySem.Spec PyProof.Rows L2 GxR Tree Kit Data
mutual
def Bd (L M : Nat) : PyData → Prop
  | .none => True
  | .bool _ => True
  | .int i => i.natAbs ≤ M
  | .str x => (reprText x).length ≤ 140
  | .list xs => xs.length ≤ L ∧ BdAll L M xs
  | .tuple xs => xs.length ≤ L ∧ BdAll L M xs
  | .dict kvs => kvs = []
def BdAll (L M : Nat) : List PyData → Prop
  | [] => True
  | x :: xs => Bd L M x ∧ BdAll L M xs
end
theorem bdAll_iff {L M : Nat} : ∀ {xs : List PyData}, BdAll L M xs ↔ ∀ d ∈ xs, Bd L M d
  | [] => ⟨fun _ d h => (nomatch h), fun _ => trivial⟩
  | x :: xs => by
    simp only [BdAll, List.mem_cons, forall_eq_or_imp, bdAll_iff (xs := xs)]
theorem depthAll_le {D : Nat} : ∀ {xs : List PyData}, PyData.depthAll xs ≤ D ↔ ∀ d ∈ xs, d.depth ≤ D
  | [] => ⟨fun _ d h => (nomatch h), fun _ => Nat.zero_le _⟩
  | x :: xs => by
    simp only [PyData.depthAll, List.mem_cons, forall_eq_or_imp, Nat.max_le, depthAll_le (xs := xs)]
theorem szAll_le {S : Nat} : ∀ {xs : List PyData}, (∀ d ∈ xs, sz d ≤ S) → szAll xs ≤ xs.length * S
  | [], _ => by simp [szAll]
  | x :: xs, h => by
    have h1 := h x (by simp)
    have h2 := szAll_le (xs := xs) (S := S) fun d hd => h d (by simp [hd])
    simp only [szAll, List.length_cons, Nat.succ_mul]
    omega
structure Sm (L M S D : Nat) (d : PyData) : Prop where
  bd : Bd L M d
  sz : sz d ≤ S
  dp : d.depth ≤ D
section
variable {L M S D : Nat}
theorem Sm.mono {L' M' S' D' : Nat} {d : PyData} (h : Sm L M S D d) (hL : L ≤ L') (hM : M ≤ M') (hS : S ≤ S') (hD : D ≤ D') : Sm L' M' S' D' d := by
  refine ⟨?_, Nat.le_trans h.sz hS, Nat.le_trans h.dp hD⟩
  have key : ∀ k (d : PyData), Data.sz d ≤ k → Bd L M d → Bd L' M' d := by
    intro k
    induction k with
    | zero => intro d hk _; have := sz_pos d; omega
    | succ k ih =>
      intro d hk hb
      cases d with
      | list xs =>
        simp only [Bd, Data.sz, bdAll_iff] at hb hk ⊢
        exact ⟨by omega, fun d hd => ih d (by have := szAll_mem hd; omega) (hb.2 d hd)⟩
      | tuple xs =>
        simp only [Bd, Data.sz, bdAll_iff] at hb hk ⊢
        exact ⟨by omega, fun d hd => ih d (by have := szAll_mem hd; omega) (hb.2 d hd)⟩
      | int i => simp only [Bd] at hb ⊢; omega
      | _ => exact hb
  exact key _ d (Nat.le_refl _) h.bd
theorem Sm.int {i : Int} (h : i.natAbs ≤ M) : Sm L M 1 0 (.int i) := ⟨h, Nat.le_refl _, Nat.le_refl _⟩
theorem Sm.none : Sm L M 1 0 .none := ⟨trivial, Nat.le_refl _, Nat.le_refl _⟩
theorem Sm.bool (b : Bool) : Sm L M 1 0 (.bool b) := ⟨trivial, Nat.le_refl _, Nat.le_refl _⟩
theorem Sm.str {x : Str} (h : (reprText x).length ≤ 140) : Sm L M 1 0 (.str x) := ⟨h, Nat.le_refl _, Nat.le_refl _⟩
theorem Sm.dict : Sm L M 1 1 (.dict []) := ⟨rfl, Nat.le_refl _, Nat.le_refl _⟩
theorem Sm.list {N : Nat} {ds : List PyData} (h : ∀ d ∈ ds, Sm L M S D d) (hN : ds.length ≤ N) (hL : N ≤ L) : Sm L M (N * S + 1) (D + 1) (.list ds) := by
  refine ⟨⟨by omega, bdAll_iff.mpr fun d hd => (h d hd).bd⟩, ?_, ?_⟩
  · have := szAll_le (S := S) fun d hd => (h d hd).sz
    simp only [Data.sz]
    have := Nat.mul_le_mul_right S hN
    omega
  · simp only [PyData.depth]
    have := depthAll_le.mpr fun d hd => (h d hd).dp
    omega
theorem Sm.tuple {N : Nat} {ds : List PyData} (h : ∀ d ∈ ds, Sm L M S D d) (hN : ds.length ≤ N) (hL : N ≤ L) : Sm L M (N * S + 1) (D + 1) (.tuple ds) := by
  refine ⟨⟨by omega, bdAll_iff.mpr fun d hd => (h d hd).bd⟩, ?_, ?_⟩
  · have := szAll_le (S := S) fun d hd => (h d hd).sz
    simp only [Data.sz]
    have := Nat.mul_le_mul_right S hN
    omega
  · simp only [PyData.depth]
    have := depthAll_le.mpr fun d hd => (h d hd).dp
    omega
/-- the items of a list: their own bounds -/
theorem Sm.items {ds : List PyData} (h : Sm L M S D (.list ds)) : ds.length ≤ L ∧ szAll ds + 1 ≤ S ∧ ∀ d ∈ ds, Bd L M d ∧ d.depth + 1 ≤ D := by
  have h1 := h.bd
  have h2 := h.sz
  have h3 := h.dp
  simp only [Bd, bdAll_iff, Data.sz, PyData.depth] at h1 h2 h3
  have h4 : PyData.depthAll ds ≤ D - 1 := by omega
  exact ⟨h1.1, h2, fun d hd => ⟨h1.2 d hd, by have := depthAll_le.mp h4 d hd; omega⟩⟩
theorem Sm.itemsT {ds : List PyData} (h : Sm L M S D (.tuple ds)) : ds.length ≤ L ∧ szAll ds + 1 ≤ S ∧ ∀ d ∈ ds, Bd L M d ∧ d.depth + 1 ≤ D := by
  have h1 := h.bd
  have h2 := h.sz
  have h3 := h.dp
  simp only [Bd, bdAll_iff, Data.sz, PyData.depth] at h1 h2 h3
  have h4 : PyData.depthAll ds ≤ D - 1 := by omega
  exact ⟨h1.1, h2, fun d hd => ⟨h1.2 d hd, by have := depthAll_le.mp h4 d hd; omega⟩⟩
/-- made of parts: the sum of their sizes -/
theorem Sm.mkList {ds : List PyData} (hl : ds.length ≤ L) (hs : szAll ds + 1 ≤ S) (h : ∀ d ∈ ds, Bd L M d ∧ d.depth + 1 ≤ D) (hD : 1 ≤ D) : Sm L M S D (.list ds) := by
  refine ⟨⟨hl, bdAll_iff.mpr fun d hd => (h d hd).1⟩, hs, ?_⟩
  simp only [PyData.depth]
  have := depthAll_le (D := D - 1) |>.mpr fun d hd => by have := (h d hd).2; omega
  omega
theorem Sm.mkTuple {ds : List PyData} (hl : ds.length ≤ L) (hs : szAll ds + 1 ≤ S) (h : ∀ d ∈ ds, Bd L M d ∧ d.depth + 1 ≤ D) (hD : 1 ≤ D) : Sm L M S D (.tuple ds) := by
  refine ⟨⟨hl, bdAll_iff.mpr fun d hd => (h d hd).1⟩, hs, ?_⟩
  simp only [PyData.depth]
  have := depthAll_le (D := D - 1) |>.mpr fun d hd => by have := (h d hd).2; omega
  omega
end
end Small

set_option Elab.async false
set_option linter.all false
set_option maxRecDepth 100000
set_option maxHeartbeats 2000000
/-! Ib: truths among ints (+, -), str of either; how long a text of a number is when shown. -/
namespace Ib
open PySem PySem.Spec PyProof.Rows L2 GxR Tree Kit Data Small
def asI : V → Option Int
  | .int i => some i
  | .bl b => some (if b = true then 1 else 0)
  | _ => none
def rAddB : R2 := fun x y H Q => ∃ i j, asI x = some i ∧ y = .int j ∧ Q (.int (i + j)) H
def rSubB : R2 := fun x y H Q => ∃ i j, asI x = some i ∧ y = .int j ∧ Q (.int (i - j)) H
def rSubIB : R2 := fun x y H Q => ∃ i j, x = .int i ∧ asI y = some j ∧ Q (.int (i - j)) H
section
variable {X : Cx}
theorem op_addB : OpR X (binaryOp .Add) rAddB := by
  intro pins s σ H x y v u Q I rx ry h
  obtain ⟨i, j, ex, rfl, q⟩ := h
  obtain ⟨t', rfl⟩ := ry
  cases x with
  | int a =>
    have e : a = i := Option.some.inj ex
    subst e
    obtain ⟨t, rfl⟩ := rx
    exact add_int ⟨.int (a + j), H, I.tok _, ⟨_, rfl⟩, q⟩
  | bl b =>
    cases ex
    cases rx
    exact IntBool.add_bool_int ⟨.int ((if b = true then 1 else 0) + j), H, I.tok _, ⟨_, rfl⟩, q⟩
  | _ => cases ex
theorem op_subB : OpR X (binaryOp .Sub) rSubB := by
  intro pins s σ H x y v u Q I rx ry h
  obtain ⟨i, j, ex, rfl, q⟩ := h
  obtain ⟨t', rfl⟩ := ry
  cases x with
  | int a =>
    have e : a = i := Option.some.inj ex
    subst e
    obtain ⟨t, rfl⟩ := rx
    exact sub_int ⟨.int (a - j), H, I.tok _, ⟨_, rfl⟩, q⟩
  | bl b =>
    cases ex
    cases rx
    exact IntBool.sub_bool_int ⟨.int ((if b = true then 1 else 0) - j), H, I.tok _, ⟨_, rfl⟩, q⟩
  | _ => cases ex
theorem op_subIB : OpR X (binaryOp .Sub) rSubIB := by
  intro pins s σ H x y v u Q I rx ry h
  obtain ⟨i, j, rfl, ey, q⟩ := h
  obtain ⟨t, rfl⟩ := rx
  cases y with
  | int a =>
    have e : a = j := Option.some.inj ey
    subst e
    obtain ⟨t', rfl⟩ := ry
    exact sub_int ⟨.int (i - a), H, I.tok _, ⟨_, rfl⟩, q⟩
  | bl b =>
    cases ey
    cases ry
    exact IntBool.sub_int_bool ⟨.int (i - (if b = true then 1 else 0)), H, I.tok _, ⟨_, rfl⟩, q⟩
  | _ => cases ey
def strB : V → Option Str
  | .int i => if i.natAbs.log2 < 1920 then some (toString i) else none
  | .bl b => some (if b = true then "True" else "False")
  | _ => none
def rStrB : List V → Hp → VK → Prop := fun xs H Q => ∃ x t, xs = [x] ∧ strB x = some t ∧ Q (.str t) H
theorem call_strB : CallR X (.type "str") rStrB := by
  intro pins s σ H xs us Q I r h
  obtain ⟨x, t, rfl, e, q⟩ := h
  cases x with
  | int i =>
    obtain ⟨u, rfl, t', rfl⟩ := vals1 r
    simp only [strB] at e
    split at e
    · cases e
      exact PySem.P.str_of_int (by assumption) ⟨.str _, H, I.tok _, ⟨_, rfl⟩, q⟩
    · cases e
  | bl b =>
    obtain ⟨u, rfl, ru⟩ := vals1 r
    cases ru
    cases e
    exact PySem.P.str_of_bool ⟨.str _, H, I.tok _, ⟨_, rfl⟩, q⟩
  | _ => cases e
end
/-! ### how long -/
theorem reprChar_len {q c : Nat} (h : c < 16 ^ 8) : (Builtin.Str.reprChar q c).length ≤ 10 := by
  have hd : (Nat.toDigits 16 c).length ≤ 8 := (Nat.length_toDigits_le_iff (by decide) (by decide)).mpr h
  unfold Builtin.Str.reprChar
  simp only []
  repeat (first | split | (simp only [List.length_append, List.length_replicate, List.length_map, List.length_cons, List.length_nil]; omega))
theorem reprText_len {x : Str} (h : ∀ c ∈ x.cps.toList, c < 16 ^ 8) : (reprText x).length ≤ 10 * x.length + 2 := by
  rw [← reprLen_eq, ← Array.foldl_toList]
  have key : ∀ (l : List Nat) (n : Nat), (∀ c ∈ l, c < 16 ^ 8) → l.foldl (fun n c => n + (Builtin.Str.reprChar (reprQuote x) c).length) n ≤ 10 * l.length + n := by
    intro l
    induction l with
    | nil => intro n _; simp
    | cons c r ih =>
      intro n hl
      have h1 := reprChar_len (q := reprQuote x) (hl c (by simp))
      have h2 := ih (n + (Builtin.Str.reprChar (reprQuote x) c).length) fun c hc => hl c (by simp [hc])
      simp only [List.foldl_cons, List.length_cons]
      omega
  have := key x.cps.toList 2 h
  have e : x.cps.toList.length = x.length := by rw [Array.length_toList]; rfl
  omega
theorem reprText_of (t : String) : (reprText (Str.ofString t)).length ≤ 10 * t.length + 2 := by
  have e : (Str.ofString t).length = t.length := PySem.ofString_length t
  rw [← e]
  refine reprText_len fun c hc => ?_
  have : ∃ ch ∈ t.toList, c = ch.toNat := by
    rw [Str.ofString_eq_toList] at hc
    simp only [List.mem_map] at hc
    obtain ⟨ch, h1, h2⟩ := hc
    exact ⟨ch, h1, h2.symm⟩
  obtain ⟨ch, _, rfl⟩ := this
  have := ch.valid
  have h3 : ch.toNat < 1114112 := by
    rcases this with h | h
    · exact Nat.lt_trans h (by decide)
    · exact h.2
  omega
theorem repr_int {i : Int} (h : i.natAbs ≤ 100000000000) : (reprText (Str.ofString (toString i))).length ≤ 140 := by
  have h1 := reprText_of (toString i)
  have h2 := int_text_length_le10 (a := i) (k := 12) (by decide) (by omega)
  omega
/-! ### slices -/
theorem cut_hi (xs : List V) (k : Nat) : cutV xs none (some (k : Int)) = xs.take k := by
  unfold cutV
  rw [HT.sIx_none, HT.sIx_nat, List.drop_zero, Nat.sub_zero]
  exact (List.take_eq_take_min).symm
theorem cut_lo (xs : List V) (k : Nat) : cutV xs (some (k : Int)) none = xs.drop k := by
  unfold cutV
  rw [HT.sIx_none, HT.sIx_nat]
  by_cases h : k ≤ xs.length
  · rw [Nat.min_eq_left h]
    exact List.take_of_length_le (by rw [List.length_drop]; omega)
  · rw [Nat.min_eq_right (by omega), List.drop_of_length_le (Nat.le_refl _), List.drop_of_length_le (by omega), List.take_nil]
theorem cut_hi1 (xs : List V) (k : Nat) : cutV xs none (some ((k : Int) + 1)) = xs.take (k + 1) := cut_hi xs (k + 1)
theorem cut_lo1 (xs : List V) (k : Nat) : cutV xs (some ((k : Int) + 1)) none = xs.drop (k + 1) := cut_lo xs (k + 1)
theorem szAll_take (ds : List PyData) (k : Nat) : szAll (ds.take k) + szAll (ds.drop k) = szAll ds := by
  rw [← szAll_append, List.take_append_drop]
theorem szAll_reverse : ∀ ds : List PyData, szAll ds.reverse = szAll ds
  | [] => rfl
  | d :: ds => by
    rw [List.reverse_cons, szAll_append, szAll_reverse ds]
    simp only [szAll]
    omega
/-! ### lists of ints compared -/
theorem dp_ints {K : PySem.W.Frag} {H : Hp} {a : Addr} {ns : List Int} (h : H a = some (.lst (ns.map V.int))) : Dp K H (.ref a) (.list (ns.map .int)) := by
  refine .lst (SqL.of h) ?_
  clear h
  induction ns with
  | nil => exact .nil
  | cons n r ih => exact .cons (.int n) ih
theorem canLay_ints (ns : List Int) : PyData.canLay0 (.list (ns.map .int)) = true := by
  show PyData.canLayAll0 _ = true
  induction ns with
  | nil => rfl
  | cons n r ih =>
    show (PyData.canLay0 (.int n) && PyData.canLayAll0 (r.map .int)) = true
    rw [ih]; rfl
theorem shaped_ints (ns : List Int) : SeqAt.shaped (.list (ns.map .int)) = true := by
  unfold SeqAt.shaped
  rw [canLay_ints ns, Bool.true_and]
  refine decide_eq_true ?_
  show PyData.depthAll _ + 1 ≤ 64
  have : PyData.depthAll (ns.map .int) = 0 := by
    induction ns with
    | nil => rfl
    | cons n r ih =>
      show max (PyData.depth (.int n)) (PyData.depthAll (r.map .int)) = 0
      rw [ih]; rfl
  omega
theorem eqv_ints : ∀ ns ms : List Int, PyData.eqv (.list (ns.map .int)) (.list (ms.map .int)) = decide (ns = ms)
  | [], [] => by decide
  | [], m :: ms => by
    show false = _
    exact (decide_eq_false (by simp)).symm
  | n :: ns, [] => by
    show false = _
    exact (decide_eq_false (by simp)).symm
  | n :: ns, m :: ms => by
    have ih := eqv_ints ns ms
    show ((n == m) && PyData.eqvAll (ns.map .int) (ms.map .int)) = _
    have e : PyData.eqvAll (ns.map .int) (ms.map .int) = decide (ns = ms) := ih
    rw [e, Bool.eq_iff_iff]
    simp
theorem sorted_eq {ns ms : List Int} (hp : ms.Pairwise (· < ·)) (hm : ∀ k : Int, k ∈ ms ↔ k ∈ ns) : decide (ns = ms) = risesB ns := by
  rw [Bool.eq_iff_iff, decide_eq_true_eq]
  unfold risesB
  rw [decide_eq_true_eq]
  constructor
  · intro e
    rw [e]; exact hp
  · intro h
    have nd : ∀ {l : List Int}, l.Pairwise (· < ·) → l.Nodup := fun h => h.imp fun h => Int.ne_of_lt h
    exact List.Perm.eq_of_pairwise (le := (· < ·)) (fun a b _ _ h1 h2 => absurd h1 (by omega)) h hp ((List.perm_ext_iff_of_nodup (nd h) (nd hp)).mpr fun a => (hm a).symm)
section
variable {X : Cx}
theorem cr_sortedSetW (w : World) (h : X.w = w) (hc : X.calm = true) : CallR X (.builtin "sorted") (rSortedSet w) := h ▸ cr_sortedSet hc
end
end Ib

set_option Elab.async false
set_option linter.all false
set_option maxRecDepth 100000
set_option maxHeartbeats 2000000
/-! Lit: expressions that make a tree of what stands, and change nothing. -/
namespace Lit
open PySem PySem.Spec PyProof.Rows L2 GxR GX Tree Kit Comps Purse Ib
/-- te makes the tree d, whatever was added since H -/
def LitE (σ : L2.St) (C : List Addr) (H : Hp) (te : TE) (d : PyData) : Prop := ∀ H1, Kx [] H H1 → ∀ Q : VK, (∀ v H', Kx [] H1 H' → Tr C H' v d → Q v H') → te σ H1 Q
def LitL (σ : L2.St) (C : List Addr) (H : Hp) (ts : TA) (ds : List PyData) : Prop := ∀ H1, Kx [] H H1 → ∀ Q : List V → Hp → Prop, (∀ vs H', Kx [] H1 H' → TrAll C H' vs ds → Q vs H') → ts σ H1 Q
section
variable {σ : L2.St} {C : List Addr} {H : Hp} {te te' : TE} {ts : TA} {d : PyData} {ds es : List PyData} {K : PySem.W.Frag}
theorem lit_use {Q : VK} (l : LitE σ C H te d) (q : ∀ v H', Kx [] H H' → Tr C H' v d → Q v H') : te σ H Q := l H (Kx.refl H) Q q
theorem lit_at {H1 : Hp} {Q : VK} (l : LitE σ C H te d) (k : Kx [] H H1) (q : ∀ v H', Kx [] H1 H' → Tr C H' v d → Q v H') : te σ H1 Q := l H1 k Q q
theorem al_up {H1 : Hp} (al : ∀ c ∈ C, H c ≠ none) (k : Kx [] H H1) : ∀ c ∈ C, H1 c ≠ none := fun c hc => Kx.ne k (al c hc)
theorem lit_int {i : Int} : LitE σ C H (tC (.int i)) (.int i) := fun H1 _ Q q => q _ H1 (Kx.refl _) (.int i)
theorem lit_non : LitE σ C H (tC .non) .none := fun H1 _ Q q => q _ H1 (Kx.refl _) .non
theorem lit_bl {b : Bool} : LitE σ C H (tC (.bl b)) (.bool b) := fun H1 _ Q q => q _ H1 (Kx.refl _) (.bl b)
theorem lit_str {x : Str} : LitE σ C H (tC (.str x)) (.str x) := fun H1 _ Q q => q _ H1 (Kx.refl _) (.str x)
theorem lit_var {j : Nat} {v : V} (hσ : σ[j]? = some (some v)) (t : Tr C H v d) : LitE σ C H (tVar j) d := fun H1 k Q q => ⟨v, hσ, q v H1 (Kx.refl _) (t.up k)⟩
theorem lit_nil : LitL σ C H tNil [] := fun H1 _ Q q => q [] H1 (Kx.refl _) .nil
theorem lit_cons (a : LitE σ C H te d) (b : LitL σ C H ts ds) : LitL σ C H (tCons te ts) (d :: ds) := fun H1 k Q q =>
  st_cons (a H1 k _ fun v H2 k2 t => b H2 (k.trans k2) _ fun vs H3 k3 t3 => q _ H3 (k2.trans k3) (.cons (t.up k3) t3))
theorem lit_lst (al : ∀ c ∈ C, H c ≠ none) (b : LitL σ C H ts ds) (hl : ds.length ≤ 1000) : LitE σ C H (tLst ts) (.list ds) := fun H1 k Q q =>
  b H1 k _ fun vs H2 k2 t => ⟨by have := t.length; unfold sizeLine; omega, fun p hp => by
    obtain ⟨k3, e3, t3⟩ := mk_lst (al_up al (k.trans k2)) t hp
    exact q _ _ (k2.trans k3) t3⟩
theorem lit_tup (al : ∀ c ∈ C, H c ≠ none) (b : LitL σ C H ts ds) (hl : ds.length ≤ 1000) : LitE σ C H (tTup ts) (.tuple ds) := fun H1 k Q q =>
  b H1 k _ fun vs H2 k2 t => ⟨by have := t.length; unfold sizeLine; omega, fun p hp => by
    obtain ⟨k3, e3, t3⟩ := mk_tup (al_up al (k.trans k2)) t hp
    exact q _ _ (k2.trans k3) t3⟩
theorem lit_dict (al : ∀ c ∈ C, H c ≠ none) : LitE σ C H tDNewK (.dict []) := fun H1 k Q q p hp => by
  obtain ⟨k3, e3, t3⟩ := mk_dic (al_up al k) hp
  exact q _ _ k3 t3
theorem lit_cat (al : ∀ c ∈ C, H c ≠ none) (a : LitE σ C H te (.list ds)) (b : LitE σ C H te' (.list es)) (hl : ds.length + es.length ≤ 100000) : LitE σ C H (tOp rCat te te') (.list (ds ++ es)) := fun H1 k Q q =>
  st_op (a H1 k _ fun v H2 k2 t => b H2 (k.trans k2) _ fun u H3 k3 t3 => by
    obtain ⟨x, xs, rfl, ex, tx⟩ := (t.up k3).listV
    obtain ⟨y, ys, rfl, ey, ty⟩ := t3.listV
    refine ⟨x, y, xs, ys, rfl, rfl, ex, ey, by have h1 := tx.length; have h2 := ty.length; unfold sizeLine; omega, fun p hp => ?_⟩
    obtain ⟨k4, e4, t4⟩ := mk_lst (al_up al (k.trans (k2.trans k3))) (tx.append ty) hp
    exact q _ _ (k2.trans (k3.trans k4)) t4)
theorem trAll_rep {vs : List V} (t : TrAll C H vs ds) : ∀ n : Nat, TrAll C H (List.replicate n vs).flatten (List.replicate n ds).flatten
  | 0 => .nil
  | n + 1 => by
    rw [List.replicate_succ, List.replicate_succ, List.flatten_cons, List.flatten_cons]
    exact t.append (trAll_rep t n)
theorem lit_rep (al : ∀ c ∈ C, H c ≠ none) {n : Nat} (a : LitE σ C H te (.list ds)) (hl : ds.length ≤ 1000) (hn : n ≤ 1000) : LitE σ C H (tOp rRep te (tC (.int (n : Int)))) (.list (List.replicate n ds).flatten) := fun H1 k Q q =>
  st_op (a H1 k _ fun v H2 k2 t => by
    obtain ⟨x, xs, rfl, ex, tx⟩ := t.listV
    have h1 := tx.length
    refine ⟨x, (n : Int), xs, rfl, rfl, ex, by omega, by omega, ?_, fun p hp => ?_⟩
    · have : xs.length * n ≤ 1000 * 1000 := Nat.mul_le_mul (by omega) hn
      rw [Int.toNat_natCast]
      unfold sizeLine
      omega
    · rw [Int.toNat_natCast]
      obtain ⟨k4, e4, t4⟩ := mk_lst (al_up al (k.trans k2)) (trAll_rep tx n) hp
      exact q _ _ (k2.trans k4) t4)
theorem lit_take (al : ∀ c ∈ C, H c ≠ none) {n : Nat} (a : LitE σ C H te (.list ds)) : LitE σ C H (tSl (rSlL K) te tNoPart (tPart (tC (.int (n : Int))))) (.list (ds.take n)) := fun H1 k Q q =>
  a H1 k _ fun v H2 k2 t => by
    obtain ⟨x, xs, rfl, ex, tx⟩ := t.listV
    refine ⟨_, rfl, x, xs, rfl, SqL.of ex, fun p hp => ?_⟩
    rw [cut_hi]
    obtain ⟨k4, e4, t4⟩ := mk_lst (al_up al (k.trans k2)) (tx.take n) hp
    exact q _ _ (k2.trans k4) t4
theorem lit_drop (al : ∀ c ∈ C, H c ≠ none) {n : Nat} (a : LitE σ C H te (.list ds)) : LitE σ C H (tSl (rSlL K) te (tPart (tC (.int (n : Int)))) tNoPart) (.list (ds.drop n)) := fun H1 k Q q =>
  a H1 k _ fun v H2 k2 t => by
    obtain ⟨x, xs, rfl, ex, tx⟩ := t.listV
    refine ⟨_, rfl, x, xs, rfl, SqL.of ex, fun p hp => ?_⟩
    rw [cut_lo]
    obtain ⟨k4, e4, t4⟩ := mk_lst (al_up al (k.trans k2)) (tx.drop n) hp
    exact q _ _ (k2.trans k4) t4
theorem lit_sub {i j : Int} (a : LitE σ C H te (.int i)) : LitE σ C H (tOp (rI0 fun i j => .int (i - j)) te (tC (.int j))) (.int (i - j)) := fun H1 k Q q =>
  st_op (a H1 k _ fun v H2 k2 t => by
    rw [Tree.Tr.intV t]
    exact ⟨i, j, rfl, rfl, q _ _ k2 (.int _)⟩)
theorem lit_len {j : Nat} {a : Addr} (hσ : σ[j]? = some (some (.ref a))) (t : Tr C H (.ref a) (.list ds)) : LitE σ C H (tCB (rLenK K) (tCons (tVar j) tNil)) (.int ds.length) := fun H1 k Q q => by
  obtain ⟨xs, ex, tx⟩ := (t.up k).items
  refine ⟨.ref a, hσ, a, xs, rfl, .inl (SqL.of ex), ?_⟩
  rw [tx.length]
  exact q _ H1 (Kx.refl _) (.int _)
end

mutual
theorem avoid {B : List Addr} {H : Hp} {F : Addr} (hF : H F = none) : ∀ (d : PyData) (v : V), Tr B H v d → Tr (F :: B) H v d
  | _, _, .non => .non
  | _, _, .bl b => .bl b
  | _, _, .int i => .int i
  | _, _, .str x => .str x
  | .list ds, _, .lst n h l => .lst (fun z => (List.mem_cons.mp z).elim (fun e => by rw [e, hF] at h; cases h) n) h (avoidAll hF ds _ l)
  | .tuple ds, _, .tup n h l => .tup (fun z => (List.mem_cons.mp z).elim (fun e => by rw [e, hF] at h; cases h) n) h (avoidAll hF ds _ l)
  | _, _, .dic n h => .dic (fun z => (List.mem_cons.mp z).elim (fun e => by rw [e, hF] at h; cases h) n) h
theorem avoidAll {B : List Addr} {H : Hp} {F : Addr} (hF : H F = none) : ∀ (ds : List PyData) (vs : List V), TrAll B H vs ds → TrAll (F :: B) H vs ds
  | _, _, .nil => .nil
  | d :: ds, _, .cons h t => .cons (avoid hF d _ h) (avoidAll hF ds _ t)
end
end Lit

set_option Elab.async false
set_option linter.all false
set_option maxRecDepth 100000
set_option maxHeartbeats 2000000
/-! Shown: a small tree can be shown, and in how many signs. -/
namespace Shown
open PySem PySem.Spec PyProof.Rows L2 GxR Tree Kit Data Small
theorem shown_le {L M : Nat} (hM : M ≤ 10000000000) : ∀ (k : Nat) (d : PyData), sz d ≤ k → Bd L M d → d.shown.length + 2 ≤ 160 * sz d ∧ d.showable = true := by
  intro k
  induction k with
  | zero => intro d hk _; have := sz_pos d; omega
  | succ k ih =>
    have all : ∀ xs : List PyData, szAll xs ≤ k → BdAll L M xs → ((PyData.shownAll xs).map (·.length)).sum + 2 * xs.length ≤ 160 * szAll xs ∧ PyData.showableAll xs = true := by
      intro xs
      induction xs with
      | nil => intro _ _; exact ⟨Nat.zero_le _, rfl⟩
      | cons x r ih2 =>
        intro hk hb
        simp only [szAll] at hk
        obtain ⟨b1, b2⟩ := hb
        obtain ⟨h1, h2⟩ := ih x (by omega) b1
        obtain ⟨h3, h4⟩ := ih2 (by omega) b2
        refine ⟨?_, ?_⟩
        · simp only [PyData.shownAll, List.map_cons, List.sum_cons, List.length_cons, szAll]
          omega
        · simp only [PyData.showableAll, h2, h4, Bool.and_self]
    intro d hk hb
    cases d with
    | none => exact ⟨by decide, rfl⟩
    | bool b => exact ⟨by cases b <;> decide, rfl⟩
    | int i =>
      have hi : i.natAbs ≤ M := hb
      refine ⟨?_, ?_⟩
      · have h1 := int_text_length_le10 (a := i) (k := 12) (by decide) (by omega)
        have h2 : (PyData.shown (.int i)).length = (toString i).length := by
          show (Str.ofString (toString i)).length = _
          exact PySem.ofString_length _
        simp only [sz]
        omega
      · show decide (i.natAbs.log2 < 1920) = true
        have h3 : i.natAbs < 2 ^ 40 := by omega
        exact decide_eq_true (Nat.lt_of_lt_of_le (PySem.Flt.log2_lt_of (by decide) h3) (by decide))
    | str x =>
      have hx : (reprText x).length ≤ 140 := hb
      refine ⟨?_, rfl⟩
      show (reprText x).length + 2 ≤ 160 * 1
      omega
    | list xs =>
      simp only [sz] at hk ⊢
      obtain ⟨h1, h2⟩ := all xs (by omega) hb.2
      have h3 := listText_len_le (PyData.shownAll xs)
      have h4 := PyData.shownAll_length xs
      refine ⟨?_, h2⟩
      show (listText (PyData.shownAll xs)).length + 2 ≤ _
      omega
    | tuple xs =>
      simp only [sz] at hk ⊢
      obtain ⟨h1, h2⟩ := all xs (by omega) hb.2
      have h3 := tupleText_len_le (PyData.shownAll xs)
      have h4 := PyData.shownAll_length xs
      refine ⟨?_, h2⟩
      show (tupleText (PyData.shownAll xs)).length + 2 ≤ _
      omega
    | dict kvs =>
      obtain rfl : kvs = [] := hb
      exact ⟨by decide, rfl⟩
theorem shows {L M S D : Nat} {d : PyData} (h : Sm L M S D d) (hM : M ≤ 10000000000) (hS : S ≤ 2000) (hD : D ≤ 40) : d.showable = true ∧ d.depth ≤ 40 ∧ d.shown.length ≤ sizeLine := by
  obtain ⟨h1, h2⟩ := shown_le hM _ d (Nat.le_refl _) h.bd
  have := h.sz
  exact ⟨h2, Nat.le_trans h.dp hD, by unfold sizeLine; omega⟩
end Shown

set_option Elab.async false
set_option linter.all false
set_option maxRecDepth 100000
set_option maxHeartbeats 2000000
/-! Day: a day as typed data, and its tree. -/
namespace Day
open PySem PySem.Spec PyProof.Rows L2 GxR Tree Kit Data
structure Blk where
  house : Int
  craft : Int
  ready : Int
  due : Option Int
  worth : Int
structure Dy where
  hours : Int
  stores : List Int
  sights : List (List (List Int))
  asks : List (Option Int)
  blocks : List Blk
def optD : Option Int → PyData
  | none => .none
  | some i => .int i
def blkD (b : Blk) : PyData := .tuple [.int b.house, .int b.craft, .int b.ready, optD b.due, .int b.worth]
def rowD (r : List Int) : PyData := .list (r.map .int)
def sightD (s : List (List Int)) : PyData := .list (s.map rowD)
def dayD (D : Dy) : PyData := .tuple [.int D.hours, .list (D.stores.map .int), .list (D.sights.map sightD), .list (D.asks.map optD), .list (D.blocks.map blkD)]
structure BlkOk (hours craft : Int) (b : Blk) : Prop where
  h0 : 0 ≤ b.house
  h1 : b.house ≤ 5
  c0 : 0 ≤ b.craft
  c1 : b.craft < craft
  r0 : 0 ≤ b.ready
  r1 : b.ready < hours
  du : ∀ u, b.due = some u → b.ready ≤ u ∧ u < hours
  w0 : 1 ≤ b.worth
  w1 : b.worth ≤ 9999
structure RowOk (craft : Int) (r : List Int) : Prop where
  up : r.Pairwise (· < ·)
  bd : ∀ c ∈ r, 0 ≤ c ∧ c < craft
structure DyOk (D : Dy) : Prop where
  t0 : 1 ≤ D.hours
  t1 : D.hours ≤ 10
  s0 : 1 ≤ D.stores.length
  s1 : D.stores.length ≤ 4
  sb : ∀ n ∈ D.stores, 0 ≤ n ∧ n ≤ 5
  g0 : 1 ≤ D.sights.length
  g1 : D.sights.length ≤ 3
  gl : ∀ s ∈ D.sights, (s.length : Int) = D.hours
  gr : ∀ s ∈ D.sights, ∀ r ∈ s, RowOk D.stores.length r
  al : D.asks.length = D.sights.length
  ab : ∀ a, some a ∈ D.asks → 0 ≤ a ∧ a ≤ 999
  bl : D.blocks.length ≤ 14
  bb : ∀ b ∈ D.blocks, BlkOk D.hours D.stores.length b
theorem isWh_mk {lo hi i : Int} (h1 : lo ≤ i) (h2 : i ≤ hi) : isWh lo hi (.int i) = true := by
  show (decide (lo ≤ i) && decide (i ≤ hi)) = true
  simp only [Bool.and_eq_true, decide_eq_true_eq]
  exact ⟨h1, h2⟩
/-- each tree of a list is made of something typed -/
theorem each_of {α : Type} {f : α → PyData} {P : α → Prop} : ∀ {ds : List PyData}, (∀ d ∈ ds, ∃ a, d = f a ∧ P a) → ∃ as : List α, ds = as.map f ∧ ∀ a ∈ as, P a
  | [], _ => ⟨[], rfl, fun a h => nomatch h⟩
  | d :: ds, h => by
    obtain ⟨a, rfl, ha⟩ := h d (by simp)
    obtain ⟨as, rfl, has⟩ := each_of (ds := ds) fun d hd => h d (by simp [hd])
    exact ⟨a :: as, rfl, fun x hx => (List.mem_cons.mp hx).elim (fun e => e ▸ ha) (has x)⟩
theorem whs_of {lo hi : Int} {ds : List PyData} (h : ds.all (isWh lo hi) = true) : ∃ ns : List Int, ds = ns.map .int ∧ ∀ n ∈ ns, lo ≤ n ∧ n ≤ hi :=
  each_of fun d hd => isWh_int (List.all_eq_true.mp h d hd)
theorem and3 {a b : Bool} (h : (a && b) = true) : a = true ∧ b = true := Bool.and_eq_true_iff.mp h
theorem ints_back : ∀ ns : List Int, intsD (ns.map PyData.int) = ns
  | [] => rfl
  | n :: ns => congrArg (n :: ·) (ints_back ns)
theorem row_of {c : Int} {d : PyData} (h : heardB c d = true) : ∃ r, d = rowD r ∧ RowOk c r := by
  cases d with
  | list xs =>
    obtain ⟨h1, h2⟩ := and3 (show (xs.all (isWh 0 (c - 1)) && risesB (intsD xs)) = true from h)
    obtain ⟨ns, rfl, hb⟩ := whs_of h1
    refine ⟨ns, rfl, ?_, fun n hn => by have := hb n hn; omega⟩
    rw [ints_back] at h2
    exact of_decide_eq_true h2
  | _ => cases h
theorem sight_of {hh c : Int} {d : PyData} (h : sightB hh c d = true) : ∃ s, d = sightD s ∧ (s.length : Int) = hh ∧ ∀ r ∈ s, RowOk c r := by
  obtain ⟨h1, h2⟩ := and3 h
  obtain ⟨xs, rfl, l1, l2⟩ := isLs_list h1
  obtain ⟨s, rfl, hs⟩ := each_of (f := rowD) (P := RowOk c) fun d hd => row_of (List.all_eq_true.mp h2 d hd)
  rw [List.length_map] at l1 l2
  exact ⟨s, rfl, by omega, hs⟩
theorem opt_of {d : PyData} (h : (isNone d || isWh 0 999 d) = true) : ∃ o, d = optD o ∧ ∀ a, o = some a → 0 ≤ a ∧ a ≤ 999 := by
  cases d with
  | none => exact ⟨none, rfl, fun a e => nomatch e⟩
  | int i =>
    obtain ⟨j, e, h1, h2⟩ := isWh_int (show isWh 0 999 (.int i) = true from h)
    cases e
    exact ⟨some i, rfl, fun a e => by cases e; exact ⟨h1, h2⟩⟩
  | _ => cases h
theorem blk5 {hh c : Int} (d1 d2 d3 d4 d5 : PyData) : blockB hh c (.tuple [d1, d2, d3, d4, d5]) = (isWh 0 5 d1 && (isWh 0 (c - 1) d2 && (isWh 0 (hh - 1) d3 && ((isNone d4 || (isNum d3 && isWh (intOf d3) (hh - 1) d4)) && isWh 1 9999 d5)))) := by
  cases d3 <;> first | rfl | (simp only [blockB, isNum, intOf, Bool.false_and, Bool.true_and])
theorem blk_of {hh c : Int} {d : PyData} (h : blockB hh c d = true) : ∃ b, d = blkD b ∧ BlkOk hh c b := by
  cases d with
  | tuple xs =>
    match xs, h with
    | [d1, d2, d3, d4, d5], h =>
      obtain ⟨a1, h⟩ := and3 ((blk5 d1 d2 d3 d4 d5).symm.trans h)
      obtain ⟨a2, h⟩ := and3 h
      obtain ⟨a3, h⟩ := and3 h
      obtain ⟨a4, a5⟩ := and3 h
      obtain ⟨hs, rfl, b1, b2⟩ := isWh_int a1
      obtain ⟨cr, rfl, b3, b4⟩ := isWh_int a2
      obtain ⟨re, rfl, b5, b6⟩ := isWh_int a3
      obtain ⟨wo, rfl, b7, b8⟩ := isWh_int a5
      have a4 : (isNone d4 || isWh re (hh - 1) d4) = true := a4
      obtain ⟨o, rfl, ho⟩ : ∃ o, d4 = optD o ∧ ∀ u, o = some u → re ≤ u ∧ u ≤ hh - 1 := by
        cases d4 with
        | none => exact ⟨none, rfl, fun a e => nomatch e⟩
        | int i =>
          obtain ⟨j, e, h1, h2⟩ := isWh_int (show isWh re (hh - 1) (.int i) = true from a4)
          cases e
          exact ⟨some i, rfl, fun a e => by cases e; exact ⟨h1, h2⟩⟩
        | _ => cases a4
      exact ⟨⟨hs, cr, re, o, wo⟩, rfl, b1, b2, b3, by show cr < c; omega, b5, by show re < hh; omega, fun u e => by have := ho u e; exact ⟨this.1, by omega⟩, b7, b8⟩
  | _ => cases h
theorem day_of {d : PyData} (h : isDayB d = true) : ∃ D, d = dayD D ∧ DyOk D := by
  cases d with
  | tuple xs =>
    match xs, h with
    | [d1, d2, d3, d4, d5], h =>
      obtain ⟨a1, h⟩ := and3 (show (isWh 1 10 d1 && (storesB d2 && (sightsB (intOf d1) (lenD d2) d3 && (asksB (lenD d3) d4 && blocksB (intOf d1) (lenD d2) d5)))) = true from h)
      obtain ⟨a2, h⟩ := and3 h
      obtain ⟨a3, h⟩ := and3 h
      obtain ⟨a4, a5⟩ := and3 h
      obtain ⟨hh, rfl, b1, b2⟩ := isWh_int a1
      obtain ⟨c1, c2⟩ := and3 a2
      obtain ⟨xs2, rfl, l1, l2⟩ := isLs_list c1
      obtain ⟨sts, rfl, hsts⟩ := whs_of (show xs2.all (isWh 0 5) = true from c2)
      obtain ⟨c3, c4⟩ := and3 a3
      obtain ⟨xs3, rfl, l3, l4⟩ := isLs_list c3
      have ls : (((sts.map PyData.int).length : Nat) : Int) = (sts.length : Int) := by rw [List.length_map]
      have a5' : blocksB hh (sts.length : Int) d5 = true := by rw [← ls]; exact a5
      obtain ⟨sis, rfl, hsis⟩ := each_of (f := sightD) (P := fun s => (s.length : Int) = hh ∧ ∀ r ∈ s, RowOk (sts.length : Int) r) fun d hd => by
        have := List.all_eq_true.mp (show xs3.all (sightB hh (((sts.map PyData.int).length : Nat) : Int)) = true from c4) d hd
        rw [ls] at this
        exact sight_of this
      obtain ⟨c5, c6⟩ := and3 a4
      obtain ⟨xs4, rfl, l5, l6⟩ := isLs_list c5
      obtain ⟨ask, rfl, hask⟩ := each_of (f := optD) fun d hd => opt_of (List.all_eq_true.mp (show xs4.all (fun a => isNone a || isWh 0 999 a) = true from c6) d hd)
      obtain ⟨c7, c8⟩ := and3 a5'
      obtain ⟨xs5, rfl, l7, l8⟩ := isLs_list c7
      obtain ⟨bls, rfl, hbls⟩ := each_of (f := blkD) fun d hd => blk_of (List.all_eq_true.mp (show xs5.all (blockB hh (sts.length : Int)) = true from c8) d hd)
      have e3 : lenD (.list (sis.map sightD)) = (sis.length : Int) := by
        show (((sis.map sightD).length : Nat) : Int) = _
        rw [List.length_map]
      rw [e3] at l5 l6
      rw [List.length_map] at l1 l2 l3 l4 l5 l6 l7 l8
      exact ⟨⟨hh, sts, sis, ask, bls⟩, rfl, b1, b2, by show 1 ≤ sts.length; omega, by show sts.length ≤ 4; omega, hsts, by show 1 ≤ sis.length; omega, by show sis.length ≤ 3; omega, fun s hs => (hsis s hs).1, fun s hs => (hsis s hs).2, by show ask.length = sis.length; omega, fun a ha => hask _ ha a rfl, by show bls.length ≤ 14; omega, hbls⟩
  | _ => cases h
end Day

set_option Elab.async false
set_option linter.all false
set_option maxRecDepth 100000
set_option maxHeartbeats 2000000
/-! Loops3: comprehensions that make a tree of each item; trees that avoid what is no tuple. -/
namespace Loops3
open PySem PySem.Spec PyProof.Rows L2 GxR GX Tree Kit Comps Purse
section
variable {g : TG} {te : TE} {vs : List Nat} {σ : L2.St} {H : Hp} {Q : VK}
/-- [e for x in l]; F d: the tree that is made of the item d -/
theorem lc_mapC {K : PySem.W.Frag} {C : List Addr} {a : Addr} {xs : List V} {ds : List PyData} (F : PyData → PyData) (al : ∀ c ∈ C, H c ≠ none) (ha : H a = some (.lst xs)) (hd : TrAll [] H xs ds) (hN : ds.length < sizeLine)
    (step : ∀ D x d H', H D = none → (∀ c ∈ D :: C, H' c ≠ none) → d ∈ ds → Tr [] H' x d → Kx [] H H' → ∀ R : V → Hp → Prop, (∀ y H'', Kx [] H' H'' → Tr (D :: C) H'' y (F d) → R y H'') →
      g x (wipe σ vs) H' fun σ2 H2 => wipe σ2 vs = wipe σ vs ∧ te σ2 H2 R)
    (q : ∀ D H', Kx [] H H' → H D = none → Tr C H' (.ref D) (.list (ds.map F)) → Q (.ref D) H') :
    CompG (Itl K a) g tYes te vs σ H Q := by
  intro D hD
  have hlen := hd.length
  have nD : D ∉ C := fun z => al D z hD
  refine lc_gen (itl_at (B := []) ha (by simp)) (by omega) hD (A := fun i acc H' => TrAll (D :: C) H' acc ((ds.take i).map F)) .nil (fun i H' acc hi k hdd hacc R R0 hR hR0 => ?_) fun acc H' k hdd hacc => ?_
  · have ei : ds[i]? = some ds[i] := List.getElem?_eq_getElem (by omega)
    have ex : xs[i]? = some xs[i] := List.getElem?_eq_getElem (by omega)
    obtain ⟨d, e1, e2⟩ := hd.get ex
    rw [ei] at e1
    cases e1
    have e3 : xs.getD i V.non = xs[i] := by
      rw [List.getD_eq_getElem?_getD, ex]; rfl
    rw [e3]
    have alD : ∀ c ∈ D :: C, H' c ≠ none := fun c hc => by
      rcases List.mem_cons.mp hc with e | e
      · rw [e, hdd]; simp
      · exact Kx.ne k (al c e)
    have ef : (ds.take (i + 1)).map F = (ds.take i).map F ++ [F ds[i]] := by
      rw [List.take_add_one, ei, List.map_append]
      rfl
    have st := step D xs[i] ds[i] H' hD alD (List.getElem_mem (by omega)) (e2.up k) k R fun y H'' k2 t2 => hR y H'' (k.trans k2) (k2.lst (by simp) hdd) (by
      rw [ef]
      have t1 := hacc.up k2
      exact TrAll.kx (Kx.put (B := [D]) (by simp)) (fun b hb => by rw [List.mem_singleton.mp hb]; simp) _ _ (t1.snoc t2))
    exact st
  · rw [show xs.length = ds.length from hlen, List.take_length] at hacc
    exact q D H' k hD (.lst nD hdd (TrAll.less (fun b hb => List.mem_cons_of_mem _ hb) _ _ hacc))
end
theorem al_up' {C : List Addr} {H H1 : Hp} (al : ∀ c ∈ C, H c ≠ none) (k : Kx [] H H1) : ∀ c ∈ C, H1 c ≠ none := fun c hc => Kx.ne k (al c hc)
end Loops3

set_option Elab.async false
set_option linter.all false
set_option maxRecDepth 100000
set_option maxHeartbeats 2000000
/-! Obj: classes of the text: methods with their facts, attributes; comprehensions without a free name. -/
namespace Obj
open PySem PySem.Spec PyProof.Rows L2 GxR Tree Kit
/-- a class's function as it stands behind the top; q its qualified name -/
structure MethAt (K : PySem.W.Frag) (m q : Str) (st : Stmt) (ps : List Str) (f : Addr) (fd : FuncData) : Prop where
  F : FunD K m q (defArgs st) (defBody st) (defScope st) [] [] f fd
  b : Binds K fd ps []
section
variable {P : Program} {w : World} {K : PySem.W.Frag} {mg : Str → Option Value} {base : Heap} {m q : Str} {st : Stmt} {ps : List Str} {f : Addr} {fd : FuncData}
theorem MethAt.ok {N : List Str} {k : Nat} {sp : Sp} (D : MethAt K m q st ps f fd) (S : FnScope N ps (defScope st)) (len : ∀ vs H Q E, sp vs H Q E → vs.length = ps.length)
    (hbody : ∀ (cdv : Value) (A : Around) (outer : List Env) (s : Shared) (H : Hp) (vs : List V) (Q : VK) (E : XK), fd.code = cdv → Room k (A.deeper (envOfC q (defScope st) s.heap.objs.size f cdv)) → sp vs H Q E →
      ∃ t, PSs (cxOf CX0 P w K mg base N q (defScope st) f cdv A outer s H E).nox (defBody st) t ∧ t { nx := fun _ H' => Q .non H', rt := Q } (start N vs) H) : FnOk P w K mg base CX0 (k + 1) f fd ps sp := by
  obtain ⟨oc, od, dV, kV, doc, pm, an, cdv, ct, osl, rfl, lk, hcd, _, _⟩ := D.F.ex
  exact fn_of lk hcd S len fun A outer s H vs Q E hr hsp => by
    obtain ⟨t, h, q⟩ := hbody cdv A outer s H vs Q E rfl hr hsp
    exact ⟨t, h.nox, q⟩
end
section
variable {X : Cx} {o e value : Expr} {f : Str} {pos pos' tpos : Pos} {ta tv : TE}
theorem pe_fldK (K : PySem.W.Frag) (h : X.K = K) (he : PE X e ta) (hb : attributeBase e f X.env (eval e X.env) = eval e X.env) : PE X (.Attribute e f pos) (tFld K ta f) := h ▸ pe_fld he hb
theorem ps_fldK (K : PySem.W.Frag) (h : X.K = K) (ha : PE X o ta) (hv : PE X value tv) (hs : swapsWith value (some (.Attribute o f pos')) pos.line X.env = pure false) : PS X (.Assign [.Attribute o f pos'] value pos) (sFld K ta tv f) := h ▸ ps_fld ha hv hs
theorem ps_fldaugK (K : PySem.W.Frag) (h : X.K = K) {op : Operator} {rd : V → V → Hp → VK → Prop} (ha : PE X o ta) (hv : PE X value tv) (hop : InOp X op rd) : PS X (.AugAssign (.Attribute o f tpos) op value pos) (sFldAug K ta tv rd f) := h ▸ ps_fldaug ha hv hop
theorem pg_lstK (K : PySem.W.Frag) (hK : X.K = K) {es : List Expr} {k : Nat} {t : TGs} {n : Nat} {pos : Pos} (hc : X.calm = true) (h : PGs X es t)
    (hn : (assignEach es X.env).length = n := by rfl) (hst : (assignEach es X.env).findIdx? (·.1) = none := by rfl) : PG X (.Tuple es k pos) (gLst K n t) := hK ▸ pg_lst hc h hn hst
end
/-- a block without a free name stands in any scope -/
theorem blkOk_any {N : List Str} {sc scope : Scope} {own : List (Str × Nat)} (h : (blkC N scope scope own && scope.names.all fun y => match y.2 with | .free => false | _ => true) = true) : BlkOk N sc scope own := by
  obtain ⟨h1, h2⟩ := Bool.and_eq_true_iff.mp h
  have b := blkOk_by h1
  refine ⟨b.kind, b.uniq, b.ix, fun y hy e => ?_, b.own⟩
  have q := List.all_eq_true.mp h2 y hy
  rw [e] at q
  cases q
/-- an instance with these attributes -/
def InsAt (H : Hp) (p C : Addr) (fs : List (Str × V)) : Prop := ∃ dx, H p = some (.ins C dx fs)
theorem InsAt.kx {H H' : Hp} {B : List Addr} {p C : Addr} {fs : List (Str × V)} (h : InsAt H p C fs) (k : Kx B H H') (n : p ∉ B) : InsAt H' p C fs := by
  obtain ⟨dx, e⟩ := h
  exact ⟨dx, k.at n e fun _ z => by cases z⟩
theorem InsAt.ne {H : Hp} {p C : Addr} {fs : List (Str × V)} (h : InsAt H p C fs) : H p ≠ none := by
  obtain ⟨dx, e⟩ := h
  rw [e]; simp
end Obj

set_option Elab.async false
set_option linter.all false
set_option maxRecDepth 100000
set_option maxHeartbeats 4000000
namespace Enum
open PySem PySem.Spec PyProof.Rows L2 GxR GX Tree Kit Data Loops Loops2 Loops3 Comps Purse Ib
section
variable {X : Cx} {H : Hp}
theorem pi_enumerateK (K : PySem.W.Frag) (h : X.K = K) {e : Expr} {ta : TA} {p pos tpos : Pos} {elts : List Expr} {kk : Nat} (hg : Gl X "enumerate") (hm : X.mg "enumerate" = none) (ha : PA X [e] ta) (hs : starEach [e] X.env = [(false, eval e X.env)] := by rfl) :
    PI X (.Tuple elts kk tpos) (.Call (.Name "enumerate" p) [e] [] pos) (iEnum K ta) := h ▸ pi_enum hg hm ha hs
theorem pi_zipK (K : PySem.W.Frag) (h : X.K = K) {e e2 : Expr} {ta : TA} {p pos tpos : Pos} {elts : List Expr} {kk : Nat} (hg : Gl X "zip") (hm : X.mg "zip" = none) (ha : PA X [e, e2] ta)
    (hs : starEach [e, e2] X.env = (false, eval e X.env) :: starEach [e2] X.env := by rfl) (hpl : (backTo pos (starEach [e2] X.env)).any (·.1) = false := by rfl) :
    PI X (.Tuple elts kk tpos) (.Call (.Name "zip" p) [e, e2] [] pos) (iZip K ta) := h ▸ pi_zip hg hm ha hs hpl
theorem op_inDK (K : PySem.W.Frag) (h : X.K = K) (hu : X.A.units + 65 < cLine) : OpR X (compareOp .In) (rInD K) := h ▸ op_inD hu
end
theorem units1 {k : Nat} {A : Around} (r : Room k A) : A.units + 65 < cLine := by have := r.un; omega
/-- a walk whose items are new things -/
theorem for_any {J : It} {B : List Addr} {N : Nat} {σ : L2.St} {H : Hp} {g : TG} {tb : TS} {D : Ends} (go : ∀ i H', i < N → Kx B H H' → J.go i H') (stop : ∀ H', Kx B H H' → J.stop N H') {Iv : Nat → L2.St → Hp → Prop} (h0 : Iv 0 σ H)
    (step : ∀ i σ' H' x H5, i < N → Kx B H H' → Iv i σ' H' → J.yld i H' x H5 → ∀ Nn : L2.St → Hp → Prop, (∀ σ'' H'', Kx B H H'' → Iv (i + 1) σ'' H'' → Nn σ'' H'') → g x σ' H5 fun σ2 H2 => tb { D with nx := Nn, ct := Nn, bk := D.nx } σ2 H2)
    (q : ∀ σ' H', Kx B H H' → Iv N σ' H' → D.nx σ' H') :
    ∃ W : Nat → Nat → L2.St → Hp → Prop, (∃ m, W 0 m σ H) ∧ ∀ i m σ H, W i m σ H → (J.stop i H ∧ D.nx σ H) ∨ (J.go i H ∧ ∃ N : L2.St → Hp → Prop, (∀ σ' H', N σ' H' → ∃ m', m' < m ∧ W (i + 1) m' σ' H') ∧ ∀ x H', J.yld i H x H' → g x σ H' fun σ2 H2 => tb { D with nx := N, ct := N, bk := D.nx } σ2 H2) := by
  refine ⟨fun i m σ' H' => m = N - i ∧ i ≤ N ∧ Kx B H H' ∧ Iv i σ' H', ⟨N, by simp, Nat.zero_le _, Kx.refl _, h0⟩, ?_⟩
  rintro i m σ' H' ⟨rfl, hi, k, hv⟩
  by_cases hlt : i < N
  · exact .inr ⟨go i H' hlt k, fun σ'' H'' => Kx B H H'' ∧ Iv (i + 1) σ'' H'', fun σ'' H'' z => ⟨N - (i + 1), by omega, rfl, hlt, z⟩, fun x H5 y => step i σ' H' x H5 hlt k hv y _ fun σ'' H'' k2 h2 => ⟨k2, h2⟩⟩
  · have e : i = N := by omega
    subst e
    exact .inl ⟨stop H' k, q σ' H' k hv⟩
/-! ### trees as data that is compared -/
mutual
theorem tr_dp {K : PySem.W.Frag} {B : List Addr} {H : Hp} : ∀ (d : PyData) (v : V), Tr B H v d → PyData.canLay0 d = true → Dp K H v d
  | _, _, .non, _ => .non
  | _, _, .bl b, _ => .bl b
  | _, _, .int i, _ => .int i
  | _, _, .str x, _ => .str x
  | .list ds, _, .lst n h l, c => .lst (SqL.of h) (trs_dp ds _ l c)
  | .tuple ds, _, .tup n h l, c => .tup (SqT.of h) (trs_dp ds _ l c)
  | _, _, .dic n h, c => nomatch c
theorem trs_dp {K : PySem.W.Frag} {B : List Addr} {H : Hp} : ∀ (ds : List PyData) (vs : List V), TrAll B H vs ds → PyData.canLayAll0 ds = true → DpAll K H vs ds
  | _, _, .nil, _ => .nil
  | d :: ds, _, .cons h t, c => by
    have c' : (PyData.canLay0 d && PyData.canLayAll0 ds) = true := c
    obtain ⟨c1, c2⟩ := Bool.and_eq_true_iff.mp c'
    exact .cons (tr_dp d _ h c1) (trs_dp ds _ t c2)
end
theorem canAll {ds : List PyData} (h : ∀ d ∈ ds, PyData.canLay0 d = true) : PyData.canLay0 (.list ds) = true := by
  show PyData.canLayAll0 ds = true
  induction ds with
  | nil => rfl
  | cons d r ih =>
    show (PyData.canLay0 d && PyData.canLayAll0 r) = true
    rw [h d (by simp), ih fun e he => h e (List.mem_cons_of_mem _ he)]
    rfl
theorem depAll {ds : List PyData} {k : Nat} (h : ∀ d ∈ ds, PyData.depth d ≤ k) : PyData.depth (.list ds) ≤ k + 1 := by
  show PyData.depthAll ds + 1 ≤ k + 1
  have : PyData.depthAll ds ≤ k := by
    induction ds with
    | nil => exact Nat.zero_le _
    | cons d r ih =>
      show max (PyData.depth d) (PyData.depthAll r) ≤ k
      have := h d (by simp)
      have := ih fun e he => h e (List.mem_cons_of_mem _ he)
      omega
  omega
theorem shaped_by {d : PyData} {k : Nat} (h : PyData.canLay0 d = true) (e : PyData.depth d ≤ k) (hk : k ≤ 64 := by decide) : SeqAt.shaped d = true := by
  unfold SeqAt.shaped
  rw [h, Bool.true_and]
  exact decide_eq_true (by omega)
/-- lists of lists of ints -/
def intssD (ls : List (List Int)) : PyData := .list (ls.map fun l => .list (l.map PyData.int))
theorem can_intss (ls : List (List Int)) : PyData.canLay0 (intssD ls) = true := canAll fun d hd => by
  obtain ⟨l, _, rfl⟩ := List.mem_map.mp hd
  exact canLay_ints l
theorem dep_ints (l : List Int) : PyData.depth (.list (l.map PyData.int)) ≤ 1 := depAll (k := 0) fun d hd => by
  obtain ⟨l, _, rfl⟩ := List.mem_map.mp hd
  exact Nat.le_refl _
theorem shaped_intss (ls : List (List Int)) : SeqAt.shaped (intssD ls) = true := shaped_by (k := 2) (can_intss ls) (depAll fun d hd => by
  obtain ⟨l, _, rfl⟩ := List.mem_map.mp hd
  exact dep_ints l)
/-! ### a list's part told by its places -/
theorem part_sub {α : Type} (l : List α) (d : α) (js : List Nat) (h : js.Pairwise (· < ·)) (hj : ∀ j ∈ js, j < l.length) : List.Sublist (js.map fun j => l.getD j d) l := by
  let fs : List (Fin l.length) := js.attach.map fun j => ⟨j.1, hj j.1 j.2⟩
  have e : (js.map fun j => l.getD j d) = fs.map fun i => l[i] := by
    show _ = (js.attach.map fun j => (⟨j.1, hj j.1 j.2⟩ : Fin l.length)).map fun i => l[i]
    rw [List.map_map]
    conv => lhs; rw [← List.attach_map_subtype_val js]
    rw [List.map_map]
    refine List.map_congr_left fun j hj' => ?_
    show l.getD j.1 d = l[j.1]'(hj j.1 j.2)
    rw [List.getD_eq_getElem?_getD, List.getElem?_eq_getElem (hj j.1 j.2)]
    rfl
  rw [e]
  refine List.map_getElem_sublist ?_
  refine List.pairwise_map.mpr ?_
  have := List.pairwise_map.mp (show (js.attach.map (·.1)).Pairwise (· < ·) by rw [List.attach_map_subtype_val]; exact h)
  exact this.imp fun h => h
/-- a part of a list of different things is what of it is in the part -/
theorem sub_filter {α : Type} [BEq α] [LawfulBEq α] : ∀ {qs ps : List α}, List.Sublist qs ps → ps.Nodup → ps.filter (fun x => qs.contains x) = qs
  | _, _, .slnil, _ => rfl
  | qs, _, .cons (l₂ := ps) a s, n => by
    have na : a ∉ ps := (List.nodup_cons.mp n).1
    rw [List.filter_cons, if_neg (by simpa using fun z => na (s.subset z))]
    exact sub_filter s (List.nodup_cons.mp n).2
  | _, _, .cons₂ (l₁ := qs) (l₂ := ps) a s, n => by
    have na : a ∉ ps := (List.nodup_cons.mp n).1
    rw [List.filter_cons, if_pos (by simp)]
    have e : ps.filter (fun x => (a :: qs).contains x) = ps.filter (fun x => qs.contains x) := List.filter_congr fun x hx => by
      rw [List.contains_cons, show (x == a) = false from beq_false_of_ne (fun z => by rw [z] at hx; exact na hx), Bool.false_or]
    rw [e, sub_filter s (List.nodup_cons.mp n).2]
/-- [e for x in l]: the values that are made -/
theorem lc_mapV {K : PySem.W.Frag} {g : TG} {te : TE} {vs : List Nat} {σ : L2.St} {H : Hp} {Q : VK} {a : Addr} {xs : List V} (f : Nat → V) (ha : H a = some (.lst xs)) (hN : xs.length < sizeLine)
    (step : ∀ i H', i < xs.length → Kx [] H H' → ∀ R : V → Hp → Prop, (∀ H'', Kx [] H' H'' → R (f i) H'') → g (xs.getD i .non) (wipe σ vs) H' fun σ2 H2 => wipe σ2 vs = wipe σ vs ∧ te σ2 H2 R)
    (q : ∀ D H', Kx [] H H' → H D = none → H' D = some (.lst ((List.range xs.length).map f)) → Q (.ref D) H') : CompG (Itl K a) g tYes te vs σ H Q := by
  intro D hD
  refine lc_gen (B := []) (itl_at (B := []) ha (by simp)) hN hD (A := fun i acc _ => acc = (List.range i).map f) rfl (fun i H' acc hi k hd hacc R R0 hR hR0 => ?_) fun acc H' k hd hacc => q D H' k hD (hacc ▸ hd)
  have st := step i H' hi k R fun H'' k2 => hR (f i) H'' (k.trans k2) (k2.lst (by simp) hd) (by rw [List.range_succ, List.map_append, hacc]; rfl)
  exact st
theorem nodup_at {α : Type} {l : List α} (h : l.Nodup) {i j : Nat} (hi : i < l.length) (hj : j < l.length) (e : l[i] = l[j]) : i = j := by
  rcases Nat.lt_trichotomy i j with z | z | z
  · exact absurd e (List.pairwise_iff_getElem.mp h i j hi hj z)
  · exact z
  · exact absurd e.symm (List.pairwise_iff_getElem.mp h j i hj hi z)
end Enum

set_option Elab.async false
set_option linter.all false
set_option maxRecDepth 100000
set_option maxHeartbeats 2000000
/-! Caught: an exception that is kept behind the clause that caught it. -/
namespace Caught
open PySem PySem.Spec PyProof.Rows L2
/-- an exception of the class cls at a -/
def ExK (cls : Value) (d : Option Addr) (a : Addr) : HO := .ext fun h => ∃ oe : Obj, h.get? a = some oe ∧ Zc cls d oe ∧ ∃ vs, oe.data = .fields vs
theorem exK_ok {P : Program} {w : World} {H : Hp} {h : Heap} {a : Addr} {cls : Value} {d : Option Addr} {oe : Obj} {vs : Array Value} (e : h.get? a = some oe) (z : Zc cls d oe) (dt : oe.data = .fields vs) : ObjOk P w H h a (ExK cls d a) :=
  ⟨⟨oe, e, z, vs, dt⟩, ⟨oe, e⟩, fun h1 h2 ⟨o, e1, z1, vs1, d1⟩ k => ⟨o, k o e1, z1, vs1, d1⟩⟩
section
variable {X : Cx} {pins : List (Addr × Obj)} {σ : L2.St} {H : Hp} {s : Shared}
theorem adopt {a : Addr} {φ : Heap → Prop} (I : Inv X pins σ H s) (na : H a = none) (h0 : X.s_0.heap.get? a = none) (nL : a ≠ X.env.locals) (nC : ∀ x c, X.env.cells.lookup x = some c → c ≠ a) (np : ∀ p ∈ X.pn ++ pins, p.1 ≠ a)
    (new : ObjOk X.prog X.w (upd H a (.ext φ)) s.heap a (.ext φ)) : Inv X pins σ (upd H a (.ext φ)) s := by
  have ne : ∀ {b o}, H b = some o → b ≠ a := fun e z => by rw [z, na] at e; cases e
  have n0 : ∀ {b o}, X.s_0.heap.get? b = some o → b ≠ a := fun e z => by rw [z, h0] at e; cases e
  refine ⟨I.ok, I.os, I.bare, ⟨I.base.keep, I.base.slot, fun b o e n hx => ?_, I.base.there, fun b xs e => ?_, fun b o u e => ?_, fun b ps e => ?_⟩, I.loc, I.cell, ?_, fun x c e => ?_, fun p hp => ?_, fun b o e => ?_, I.len⟩
  · rw [upd_ne (n0 e)]; exact I.base.free b o e n hx
  · have q := I.base.tups b xs e
    rw [upd_ne (ne q)]; exact q
  · have q := I.base.frzs b o u e
    rw [upd_ne (ne q)]; exact q
  · obtain ⟨m, q⟩ := I.base.tbls b ps e
    exact ⟨m, by rw [upd_ne (ne q)]; exact q⟩
  · rw [upd_ne (Ne.symm nL)]; exact I.free
  · rw [upd_ne (nC x c e)]; exact I.freeC x c e
  · obtain ⟨e, n, r⟩ := I.pin p hp
    exact ⟨e, by rw [upd_ne (np p hp)]; exact n, r⟩
  · by_cases hb : b = a
    · subst hb
      rw [upd_same] at e
      cases e
      exact new
    · rw [upd_ne hb] at e
      exact (I.hok b o e).stay (fun c v _ q => q) (fun c q => by rw [upd_ne (ne q)]; exact q) fun c xs q => by rw [upd_ne (ne q)]; exact q
theorem suiteK (I : Inv X pins σ H s) (a : Addr) : Inv (X.suite a (X.pn ++ pins)) [] σ H s :=
  ⟨I.ok.suite _ _, I.os, I.bare, I.base, I.loc, I.cell, I.free, I.freeC, fun p hp => I.pin p (by rw [List.append_nil] at hp; exact hp), I.hok, I.len⟩
theorem unsuiteK {a : Addr} {pn' : List (Addr × Obj)} (I : Inv (X.suite a (X.pn ++ pins)) pn' σ H s) (ok : X.Ok) : Inv X pins σ H s :=
  ⟨ok, I.os, I.bare, I.base, I.loc, I.cell, I.free, I.freeC, fun p hp => I.pin p (List.mem_append_left _ hp), I.hok, I.len⟩
end
/-- what the clause 'except x as n' wishes, where the exception is kept -/
def wKeep (K : PySem.W.Frag) (c : Value) (i : Nat) (ts : Addr → TS) (Wout : WX) (D : Ends) : WX := fun cls d σ H =>
  ∃ b, PySem.W.exmOne K cls c = some b ∧ (b = true → ∀ a, H a = none → ts a { nx := fun σ' H' => D.nx (σ'.set i none) H', rt := D.rt, bk := fun σ' H' => D.bk (σ'.set i none) H', ct := fun σ' H' => D.ct (σ'.set i none) H' } (σ.set i (some (.ref a))) (upd H a (ExK cls d a))) ∧
    (b = false → Wout cls d σ H)
/-- an exception at a is of none of the frames l -/
theorem apart_of {B t : Heap} {l : List Env} {a : Addr} {o : Obj} {vs : Array Value} (ff : t.FunFrames B l) (e : t.get? a = some o) (dt : o.data = .fields vs) : a ∉ frs l := fun m => by
  obtain ⟨_, u, eu, no⟩ := ff.mem m
  rw [e] at eu
  cases eu
  exact no _ dt
/-- where a newly made thing lies -/
structure NewAt (X : Cx) (pins : List (Addr × Obj)) (a : Addr) : Prop where
  first : X.s_0.heap.get? a = none
  cells : ∀ y k, X.env.cells.lookup y = some k → k ≠ a
  pinned : ∀ p ∈ X.pn ++ pins, p.1 ≠ a
theorem NewAt.of {X : Cx} {pins : List (Addr × Obj)} {σ : L2.St} {H : Hp} {t : Shared} {a : Addr} (J : Inv X pins σ H t) (hex : X.ex = []) (no : t.heap.get? a = none) : NewAt X pins a := by
  refine ⟨?_, fun y k e z => ?_, fun p hp z => ?_⟩
  · by_cases e : X.s_0.heap.get? a = none
    · exact e
    · obtain ⟨o, eo⟩ := Option.ne_none_iff_exists'.mp e
      have nx : a ∉ X.ex := by rw [hex]; exact List.not_mem_nil
      obtain ⟨u, eu⟩ := J.base.there _ _ eo nx
      rw [no] at eu
      cases eu
  · obtain ⟨v, u, eu, _⟩ := J.cell y k e
    rw [z, no] at eu
    cases eu
  · have eu := (J.pin p hp).1
    rw [z, no] at eu
    cases eu
section
variable {X : Cx} {x n : Str} {c cls : Value} {d : Option Addr} {i : Nat} {body suite : List Stmt} {st₀ : Stmt} {np pos pos' : Pos} {tb : WX → TS} {ts : Addr → TS} {Wout : WX}
variable {pins : List (Addr × Obj)} {σ : L2.St} {H : Hp} {D : Ends}
/-- behind a suite in which the exception is kept -/
theorem suite_end {a : Addr} {r : Flow} {t : Shared} {i : Nat} (ok : X.Ok) (hN : X.N.Nodup) (hi : X.N[i]? = some n) (hln : X.env.kindOf n = some .local)
    (h : SP (X.suite a (X.pn ++ pins)) [] { nx := fun σ' H' => D.nx (σ'.set i none) H', rt := D.rt, bk := fun σ' H' => D.bk (σ'.set i none) H', ct := fun σ' H' => D.ct (σ'.set i none) H' } r t) :
    wpAny (model X.prog X.w) X.A (do bindName X.env n .none; unbindBehindTheSuite X.env n pos') (fun _ t' => SP X pins D r t') X.xe t := by
  cases r with
  | next => obtain ⟨σ1, H1, I1, w⟩ := h; exact gone_ok (unsuiteK I1 ok) hN hi hln fun t' I2 => ⟨_, H1, I2, w⟩
  | brk => obtain ⟨σ1, H1, I1, w⟩ := h; exact gone_ok (unsuiteK I1 ok) hN hi hln fun t' I2 => ⟨_, H1, I2, w⟩
  | cont => obtain ⟨σ1, H1, I1, w⟩ := h; exact gone_ok (unsuiteK I1 ok) hN hi hln fun t' I2 => ⟨_, H1, I2, w⟩
  | ret u => obtain ⟨y, σ1, H1, I1, ry, w⟩ := h; exact gone_ok (unsuiteK I1 ok) hN hi hln fun t' I2 => ⟨y, _, H1, I2, ry, w⟩
/-- the clause, for an exception that has been noted -/
theorem clause_keep {a : Addr} {B : Heap} {t0 t : Shared} (hs : X.stack = X.env :: X.outer) (hf : X.env.frame = some X.env.locals) (hex : X.ex = []) (hN : X.N.Nodup) (hi : X.N[i]? = some n) (hln : X.env.kindOf n = some .local) (hc : Names X x c) (tk : Takes X Wout)
    (hsu : ∀ (a : Addr) (pn : List (Addr × Obj)), PSs (X.suite a pn) (st₀ :: suite) (ts a))
    (J : Inv X pins σ H t0) (stays : ∀ b o, t0.heap.get? b = some o → b ∉ frs X.stack → B.get? b = some o) (up : t0.heap.UpToSlots t.heap) (os : t.os = t0.os) (ag : AllBare t.gens) (na : H a = none)
    (fl : HandSPX.FlyingZ B (X.env :: X.outer) a (Zc cls d) t.heap) (w : wKeep X.K c i ts Wout D cls d σ H) :
    wpAny (model X.prog X.w) X.A (handleBy (.ref a) X.env [.ExceptHandler (some (.Name x np)) (some n) (st₀ :: suite) pos']) (SP X pins D) X.xe t := by
  obtain ⟨b, eb, yes, no⟩ := w
  obtain ⟨ob, fs, eo, zo, fo⟩ := fl.there
  have away : a ∉ frs X.stack := by rw [hs]; exact apart_of fl.2.2.1 eo fo
  have aL : a ≠ X.env.locals := fun z => away (by rw [hs]; exact List.mem_filterMap.mpr ⟨X.env, List.mem_cons_self, by rw [hf, z]⟩)
  have aF : a ∉ X.fs := fun m => away (by
    obtain ⟨e, me, q⟩ := List.mem_filterMap.mp m
    rw [hs]
    exact List.mem_filterMap.mpr ⟨e, List.mem_cons_of_mem _ me, q⟩)
  have nt0 : t0.heap.get? a = none := by
    by_cases e : t0.heap.get? a = none
    · exact e
    · obtain ⟨o, eo'⟩ := Option.ne_none_iff_exists'.mp e
      have z := stays a o eo' away
      rw [fl.2.1] at z
      cases z
  have nw := NewAt.of J hex nt0
  have It : Inv X pins σ H t := J.landed stays fl.1 up os ag
  have Is := It.suite eo fo na aL aF
  refine wpAny_handleBy_cons (codeAny_handlers_test ?_) (by intro q; cases q)
  have ask : ∀ {Q : Value → Shared → Prop} {E : Value → Shared → Prop}, Q c t → wpAny (model X.prog X.w) (X.A.mark (some (.ref a))) (eval (.Name x np) X.env) Q E t := fun {Q E} q => by
    obtain ⟨h1, h2, h3 | ⟨h3, h4, h5⟩⟩ := hc
    · exact ld_glob (X := X.suite a ((a, ob) :: (X.pn ++ pins))) Is h1 h3 q h2
    · exact ld_blt (X := X.suite a ((a, ob) :: (X.pn ++ pins))) Is h1 h3 h4 q h5 h2
  have isOf := PySem.W.exm_one (M := model X.prog X.w) It.kIn (fun A Q E s k q => wpAny_typeOf_ref (k _ _ eo) (by rw [zo.1]; exact q)) eb
  refine ask (isOf.here ?_)
  cases b with
  | true =>
    refine codeAny_handlers_suite_as (HandSPX.lands_againZ fl fun h2 fl2 up2 => ?_)
    obtain ⟨ob2, fs2, eo2, zo2, fo2⟩ := fl2.there
    have I2 : Inv X pins σ H { t with heap := h2 } := J.landed stays fl2.1 (up.trans up2) os ag
    have I3 := suiteK (adopt I2 na nw.first aL nw.cells nw.pinned (exK_ok eo2 zo2 fo2)) a
    refine store_ok (X := X.suite a (X.pn ++ pins)) (v := .ref a) I3 hN hi (.inl hln) rfl (fun t2 I4 => ?_) (.inr hln)
    exact wpAny_mono ((hsu a (X.pn ++ pins)).run [] t2 _ _ _ I4 (yes rfl a na)) (fun r t3 h => suite_end J.ok hN hi hln h) fun _ _ z => False.elim z
  | false =>
    show wpAny _ X.A (handleBy (.ref a) X.env []) _ _ _
    refine wpAny_handleBy_nil ?_
    obtain ⟨_, _, _, o1, fs1, T, _, _, e1, _, f1, g1, _⟩ := id fl
    have out : wpAny (model X.prog X.w) X.A (setFlight (.ref a) X.env.frame) (fun _ t4 => wpAny (model X.prog X.w) X.A (throw (.ref a) : Sem Flow) (SP X pins D) X.xe t4) X.xe t := by
      rw [hf]
      refine HandSPX.setFlight_upZ fl fun h4 hh up4 => wpAny_throw (tk _ _ ?_)
      exact ⟨a, B, t0, pins, σ, H, cls, d, rfl, J, stays, up.trans up4, .inr (.inr (by rw [hs]; exact hh)), na, os, ag, no rfl⟩
    unfold PySem.passOn
    refine wpAny_bind (wpAny_field e1 f1 g1 ?_)
    rw [if_neg (show ¬ ((Value.ref T == Value.none) = true) from by simp)]
    first
      | exact wpAny_bind (wpAny_pure (wpAny_bind out))
      | exact wpAny_bind out
/-- try: body / except x as n: suite, where the suite may keep the exception -/
theorem ps_try_keep (hs : X.stack = X.env :: X.outer) (hf : X.env.frame = some X.env.locals) (hex : X.ex = []) (hN : X.N.Nodup) (hi : X.N[i]? = some n) (hln : X.env.kindOf n = some .local) (hc : Names X x c) (tk : Takes X Wout)
    (hb : ∀ (W : WX) (pn : List (Addr × Obj)) (xe : Value → Shared → Prop), Takes (X.tr pn xe) W → PSs (X.tr pn xe) body (tb W))
    (hsu : ∀ (a : Addr) (pn : List (Addr × Obj)), PSs (X.suite a pn) (st₀ :: suite) (ts a)) :
    PS X (.Try body [.ExceptHandler (some (.Name x np)) (some n) (st₀ :: suite) pos'] [] [] pos) (fun D σ H => tb (wKeep X.K c i ts Wout D) D σ H) := by
  refine ⟨fun pins s σ H D I h => wpAny_Try_except ?_⟩
  have fr : X.A.frames = some (X.env :: X.outer) := by rw [I.ok.frames, hs]
  let catch_ : Value → Shared → Prop := fun e s₁ => wpAny (model X.prog X.w) X.A (noteFrame e X.env) (fun _ s₂ => wpAny (model X.prog X.w) X.A (setFlight e none) (fun _ s₃ =>
    wpAny (model X.prog X.w) X.A (handleBy e X.env [.ExceptHandler (some (.Name x np)) (some n) (st₀ :: suite) pos']) (SP X pins D) X.xe s₃) X.xe s₂) X.xe s₁
  have took : Takes (X.tr (X.pn ++ pins) catch_) (wKeep X.K c i ts Wout D) := fun u t ⟨a, B, t0, pins', σ', H', cls, d, eu, J, stays, up, sky, na, os, ag, w⟩ => by
    subst eu
    have sky2 : Sky B (X.env :: X.outer) a (Zc cls d) X.env.locals t.heap := by rw [← hs]; exact sky
    exact Sky.land Zc.steady fr hf sky2 fun h3 fl up3 => clause_keep (t := { t with heap := h3 }) hs hf hex hN hi hln hc tk hsu (J.ofTry I.ok) stays (up.trans up3) os ag na fl w
  refine wpAny_mono ((hb _ (X.pn ++ pins) catch_ took).run [] s σ H D (I.toTry _) h) (fun r t e => ?_) (fun _ _ e => e)
  cases r with
  | next => obtain ⟨σ1, H1, I1, q⟩ := e; exact wpAny_execs_nil ⟨σ1, H1, I1.ofTry I.ok, q⟩
  | brk => obtain ⟨σ1, H1, I1, q⟩ := e; exact ⟨σ1, H1, I1.ofTry I.ok, q⟩
  | cont => obtain ⟨σ1, H1, I1, q⟩ := e; exact ⟨σ1, H1, I1.ofTry I.ok, q⟩
  | ret u => obtain ⟨y, σ1, H1, I1, ry, q⟩ := e; exact ⟨y, σ1, H1, I1.ofTry I.ok, ry, q⟩
end
/-! ### isinstance of a kept exception -/
/-- what is asked of the exception's class -/
structure ExcIs (K : PySem.W.Frag) (C : Addr) : Prop where
  cl : (PySem.W.clsIn K C).isSome = true
  ga : PySem.W.findIn K (.ref C) "__getattribute__" = some (some (.builtin "BaseException.__getattribute__"))
  gg : ∃ g, PySem.W.findIn K (.ref C) "__getattr__" = some g
  sb : PySem.W.subIn K (.ref C) (.type "BaseException") = some true
  kl : PySem.W.findIn K (.ref C) "__class__" = some (some (.builtin "object.__class__"))
  gt : PySem.W.specialIn K (.builtin "object.__class__") "__get__" = some (some (.builtin "getset_descriptor.__get__"))
  tk : PySem.W.takesIn K (.builtin "object.__class__") = some true
  mr : PySem.W.mroIn K C (.type "object") = some true
def excIsB (K : PySem.W.Frag) (C : Addr) : Bool :=
  (PySem.W.clsIn K C).isSome && (decide (PySem.W.findIn K (.ref C) "__getattribute__" = some (some (.builtin "BaseException.__getattribute__"))) && ((PySem.W.findIn K (.ref C) "__getattr__").isSome && (decide (PySem.W.subIn K (.ref C) (.type "BaseException") = some true) &&
    (decide (PySem.W.findIn K (.ref C) "__class__" = some (some (.builtin "object.__class__"))) && (decide (PySem.W.specialIn K (.builtin "object.__class__") "__get__" = some (some (.builtin "getset_descriptor.__get__"))) &&
      (decide (PySem.W.takesIn K (.builtin "object.__class__") = some true) && decide (PySem.W.mroIn K C (.type "object") = some true)))))))
theorem ExcIs.of {K : PySem.W.Frag} {C : Addr} (h : excIsB K C = true) : ExcIs K C := by
  unfold excIsB at h
  simp only [Bool.and_eq_true, decide_eq_true_eq] at h
  obtain ⟨h1, h2, h3, h4, h5, h6, h7, h8⟩ := h
  exact ⟨h1, h2, Option.isSome_iff_exists.mp h3, h4, h5, h6, h7, h8⟩
def rIsE (K : PySem.W.Frag) : List V → Hp → VK → Prop := fun xs H Q => (∃ (a C : Addr) (c : V) (u : Value) (b : Bool), xs = [.ref a, c] ∧ ClsV c u ∧ H a = some (ExK (.ref C) none a) ∧ ExcIs K C ∧ PySem.W.kitOne K (.ref C) u = some b ∧ Q (.bl b) H) ∨ rIsi K xs H Q
section
variable {X : Cx}
theorem call_isE : CallR X (.builtin "isinstance") (rIsE X.K) := by
  intro pins s σ H xs us Q I r h
  rcases h with ⟨a, C, c, u, b, rfl, kc, ea, T, eb, q⟩ | h
  · obtain ⟨u1, u2, rfl, r1, r2⟩ := vals2 r
    cases (show u1 = Value.ref a from r1)
    have e2 := kc.eq r2
    subst e2
    obtain ⟨⟨oe, eo, z, vs, dt⟩, _, _⟩ := I.hok a _ ea
    obtain ⟨g, eg⟩ := T.gg
    have Z := PySem.W.kitx_exc (K := X.K) (x := a) (C := C) (ox := oe) (od := none) T.cl T.ga eg T.sb T.kl T.gt T.tk T.mr
    refine PySem.W.kia_one Z I.kIn ⟨eo, z.1, ?_, ?_⟩ eb (fun y => nomatch y) fun tk => ⟨.bl b, H, I.tok tk, rfl, q⟩
    · unfold PySem.W.notCls
      rw [dt]
    · rw [z.2]
      trivial
  · exact call_isi pins s σ H xs us Q I r h
theorem call_isEK (K : PySem.W.Frag) (h : X.K = K) : CallR X (.builtin "isinstance") (rIsE K) := h ▸ call_isE
end
/-! ### methods that may raise -/
/-- o.m() in a try -/
def tMethS (C : Addr) (m : Str) (sp : Sp) (E : L2.St → XK) (ta : TE) : TE := fun σ H Q => ta σ H fun v H1 => ∃ a dx fs, v = .ref a ∧ H1 a = some (.ins C dx fs) ∧ fs.lookup m = none ∧ sp [v] H1 Q (E σ)
section
variable {X : Cx} {CX : CXT} {k : Nat} {f C : Addr} {fd : FuncData} {ps : List Str} {sp : Sp} {E : L2.St → XK} {m : Str} {pos apos : Pos} {o : Expr} {ta : TE}
theorem pe_meth0S {pl : Sem Bool} (ho : PE X o ta) (c : Cls X.K C) (hm : Meth X.K C m f) (F : FnOk X.prog X.w X.K X.mg X.base CX k f fd ps sp) (hr : Room k X.A) (hb : Binds X.K fd ps []) (hx : ∀ σ, PassesAt CX X σ (E σ))
    (ht : eval (.Call (.Attribute o m apos) [] [] pos) X.env = (do
      let ov ← eval o X.env
      standAt apos.atName
      let (f, first) ← holding [ov] (getMethod ov m pl)
      callWith pos f first (backTo pos (starEach [] X.env)) (backToKw pos (keywordEach [] X.env))) := by rfl) : PE X (.Call (.Attribute o m apos) [] [] pos) (tMethS C m sp E ta) :=
  ⟨fun pins s σ H Q I h => PySem.W.methodCall_KW (pl := pl) (thn (ho.run pins s σ H _ I h) fun u t ⟨v, H1, I1, rv, a, dx, fs, ev, ea, l, q⟩ => by
    subst ev
    have eu : u = Value.ref a := rv
    subst eu
    exact getmeth_ok I1 ea c hm l (PySem.W.callWith_K0 (first := [.ref a]) I1.kIn hm.kp (run_fnS (us := [.ref a]) (vs := [.ref a]) F hr hb (hx σ) I1 (.cons rfl .nil) q))) ht⟩
end
section
variable {P : Program} {w : World} {K : PySem.W.Frag} {mg : Str → Option Value} {base : Heap} {m q : Str} {st : Stmt} {ps : List Str} {f : Addr} {fd : FuncData}
/-- a method that may raise -/
theorem _root_.Obj.MethAt.okX {N : List Str} {k : Nat} {sp : Sp} (D : Obj.MethAt K m q st ps f fd) (S : FnScope N ps (defScope st)) (len : ∀ vs H Q E, sp vs H Q E → vs.length = ps.length)
    (hbody : ∀ (cdv : Value) (A : Around) (outer : List Env) (s : Shared) (H : Hp) (vs : List V) (Q : VK) (E : XK), fd.code = cdv → Room k (A.deeper (envOfC q (defScope st) s.heap.objs.size f cdv)) → sp vs H Q E →
      ∃ t, PSs (cxOf (L2.CX P w) P w K mg base N q (defScope st) f cdv A outer s H E) (defBody st) t ∧ t { nx := fun _ H' => Q .non H', rt := Q } (L2.start N vs) H) : FnOk P w K mg base (L2.CX P w) (k + 1) f fd ps sp := by
  obtain ⟨_, _, _, _, _, _, _, cdv, _, _, rfl, lk, hcd, _, _⟩ := D.F.ex
  exact fn_of lk hcd S len fun A outer s H vs Q E hr h => hbody cdv A outer s H vs Q E rfl hr h
end
theorem mt_indexK {X : Cx} (K : PySem.W.Frag) (h : X.K = K) : MtR X "list.index" (rIndex K) := h ▸ mt_index
theorem mt_lcountK {X : Cx} (K : PySem.W.Frag) (h : X.K = K) : MtR X "list.count" (rCntI K) := h ▸ mt_lcount
section
variable {X : Cx} {T id : String} {name : Str} {r : V → List V → Hp → VK → Prop} {o e : Expr} {es : List Expr} {to : TE} {t : TA} {apos cpos : Pos}
theorem pe_bmK (K : PySem.W.Frag) (h : X.K = K) (pa : PlainAttrs T) (slot : Slot T name id) (hty : typeOf (.builtin id) = pure (.type "method_descriptor")) (hm : MtR X id r) (ho : PE X o to) (ha : PA X (e :: es) t)
    (hbase : attributeBase o name X.env (eval o X.env) = eval o X.env := by rfl)
    (few : ((backTo cpos (starEach (e :: es) X.env)).all (fun x => !x.1) && (backToKw cpos (keywordEach [] X.env)).all (fun x => x.1.isSome) && decide ((e :: es).length + ([] : List Keyword).length + (if ([] : List Keyword).isEmpty then 0 else 1) < 30)) = true := by rfl)
    (line : (apos.endLine == cpos.line) = true := by rfl) (hs : starEach (e :: es) X.env = (false, eval e X.env) :: starEach es X.env := by rfl) (pl : (backTo cpos (starEach es X.env)).any (·.1) = false := by rfl) :
    PE X (.Call (.Attribute o name apos) (e :: es) [] cpos) (tBM K T r to t) := h ▸ pe_bm pa slot hty hm ho ha hbase few line hs pl
end
end Caught

set_option Elab.async false
set_option linter.all false
set_option maxRecDepth 100000
set_option maxHeartbeats 2000000
/-! Wipe: names of a block that are set and wiped; a state told otherwise. -/
namespace Wipe
open PySem PySem.Spec PyProof.Rows L2
theorem wipe_out : ∀ {vs : List Nat} {σ : L2.St} {i : Nat} {a : Option V}, i ∉ vs → wipe (σ.set i a) vs = (wipe σ vs).set i a
  | [], _, _, _, _ => rfl
  | j :: r, σ, i, a, h => by
    show (wipe (σ.set i a) r).set j none = ((wipe σ r).set j none).set i a
    rw [wipe_out fun z => h (List.mem_cons_of_mem _ z)]
    exact List.set_comm _ _ (fun e => h (by rw [e]; exact List.mem_cons_self))
theorem wipe_in : ∀ {vs : List Nat} {σ : L2.St} {i : Nat} {a : Option V}, i ∈ vs → wipe (σ.set i a) vs = wipe σ vs
  | j :: r, σ, i, a, h => by
    show (wipe (σ.set i a) r).set j none = (wipe σ r).set j none
    by_cases hr : i ∈ r
    · rw [wipe_in hr]
    · have e : i = j := (List.mem_cons.mp h).resolve_right hr
      rw [wipe_out hr, e, List.set_set]
theorem wipe_idem : ∀ {vs : List Nat} {σ : L2.St}, wipe (wipe σ vs) vs = wipe σ vs
  | [], _ => rfl
  | j :: r, σ => by
    have h : wipe ((wipe σ r).set j none) (j :: r) = wipe (wipe σ r) (j :: r) := wipe_in List.mem_cons_self
    show wipe ((wipe σ r).set j none) (j :: r) = _
    rw [h]
    show (wipe (wipe σ r) r).set j none = (wipe σ r).set j none
    rw [wipe_idem]
section
variable {vs : List Nat} {σ : L2.St} {i1 i2 i3 i4 i5 : Nat} {a1 a2 a3 a4 a5 : Option V}
theorem wipe1 (h1 : i1 ∈ vs) : wipe ((wipe σ vs).set i1 a1) vs = wipe σ vs := (wipe_in h1).trans wipe_idem
theorem wipe4 (h1 : i1 ∈ vs) (h2 : i2 ∈ vs) (h3 : i3 ∈ vs) (h4 : i4 ∈ vs) : wipe (((((wipe σ vs).set i1 a1).set i2 a2).set i3 a3).set i4 a4) vs = wipe σ vs := (wipe_in h4).trans ((wipe_in h3).trans ((wipe_in h2).trans (wipe1 h1)))
theorem wipe5 (h1 : i1 ∈ vs) (h2 : i2 ∈ vs) (h3 : i3 ∈ vs) (h4 : i4 ∈ vs) (h5 : i5 ∈ vs) : wipe ((((((wipe σ vs).set i1 a1).set i2 a2).set i3 a3).set i4 a4).set i5 a5) vs = wipe σ vs := (wipe_in h5).trans (wipe4 h1 h2 h3 h4)
end
theorem st_lit {t : TS} {D : Ends} {σ : L2.St} {H : Hp} (σ' : L2.St) (e : σ = σ') (h : t D σ' H) : t D σ H := e ▸ h
/-- a statement and what follows, met at J -/
theorem st_seqJ {a b : TS} {D : Ends} {σ : L2.St} {H : Hp} (J : L2.St → Hp → Prop) (h2 : ∀ σ' H', J σ' H' → b D σ' H') (h1 : ∀ N : L2.St → Hp → Prop, (∀ σ' H', J σ' H' → N σ' H') → a { D with nx := N } σ H) : tSeq a b D σ H := h1 (b D) h2
theorem st_tup {ts : TA} {σ : L2.St} {H : Hp} {Q : VK} (h : ts σ H fun xs H1 => xs.length ≤ sizeLine ∧ ∀ p, H1 p = none → Q (.ref p) (upd H1 p (.tup xs))) : tTup ts σ H Q := h
theorem st_nil {σ : L2.St} {H : Hp} {Q : List V → Hp → Prop} (h : Q [] H) : tNil σ H Q := h
theorem st_c {v : V} {σ : L2.St} {H : Hp} {Q : VK} (h : Q v H) : tC v σ H Q := h
theorem st_var {i : Nat} {v : V} {σ : L2.St} {H : Hp} {Q : VK} (e : σ[i]? = some (some v)) (h : Q v H) : tVar i σ H Q := ⟨v, e, h⟩
end Wipe

set_option Elab.async false
set_option linter.all false
set_option maxRecDepth 100000
set_option maxHeartbeats 2000000
namespace Law
open PySem PySem.Spec PyProof.Rows L2 GxR GX Tree Kit
def topS (i : Nat) : Stmt := PySem.Challenge.pw_skyprices_k05_whole_plans_and_parts.main.body.getD i (.Pass ⟨0, 0, 0, 0⟩)
abbrev s_is_number : Stmt := topS 13
theorem sc_is_number : FnScope ["thing"] ["thing"] (defScope s_is_number) := ⟨rfl, rfl, rfl, by decide +kernel, rfl, by decide +kernel, by decide +kernel⟩
abbrev s_is_whole : Stmt := topS 14
theorem sc_is_whole : FnScope ["thing", "least", "most"] ["thing", "least", "most"] (defScope s_is_whole) := ⟨rfl, rfl, rfl, by decide +kernel, rfl, by decide +kernel, by decide +kernel⟩
abbrev s_is_list : Stmt := topS 15
theorem sc_is_list : FnScope ["thing", "least", "most"] ["thing", "least", "most"] (defScope s_is_list) := ⟨rfl, rfl, rfl, by decide +kernel, rfl, by decide +kernel, by decide +kernel⟩
abbrev s_is_tuple : Stmt := topS 16
theorem sc_is_tuple : FnScope ["thing", "many"] ["thing", "many"] (defScope s_is_tuple) := ⟨rfl, rfl, rfl, by decide +kernel, rfl, by decide +kernel, by decide +kernel⟩
abbrev s_rises : Stmt := topS 17
theorem sc_rises : FnScope ["things", "at"] ["things"] (defScope s_rises) := ⟨rfl, rfl, rfl, by decide +kernel, rfl, by decide +kernel, by decide +kernel⟩
abbrev s_is_day : Stmt := topS 18
theorem sc_is_day : FnScope ["thing", "hours", "stores", "sights", "asks", "blocks"] ["thing"] (defScope s_is_day) := ⟨rfl, rfl, rfl, by decide +kernel, rfl, by decide +kernel, by decide +kernel⟩
abbrev s__are_stores : Stmt := topS 19
theorem sc__are_stores : FnScope ["thing", "store"] ["thing"] (defScope s__are_stores) := ⟨rfl, rfl, rfl, by decide +kernel, rfl, by decide +kernel, by decide +kernel⟩
abbrev s__are_sights : Stmt := topS 20
theorem sc__are_sights : FnScope ["thing", "hours", "craft", "sight"] ["thing", "hours", "craft"] (defScope s__are_sights) := ⟨rfl, rfl, rfl, by decide +kernel, rfl, by decide +kernel, by decide +kernel⟩
abbrev s__is_sight : Stmt := topS 21
theorem sc__is_sight : FnScope ["thing", "hours", "craft", "heard"] ["thing", "hours", "craft"] (defScope s__is_sight) := ⟨rfl, rfl, rfl, by decide +kernel, rfl, by decide +kernel, by decide +kernel⟩
abbrev s__are_heard : Stmt := topS 22
theorem sc__are_heard : FnScope ["thing", "craft", "number"] ["thing", "craft"] (defScope s__are_heard) := ⟨rfl, rfl, rfl, by decide +kernel, rfl, by decide +kernel, by decide +kernel⟩
abbrev s__are_asks : Stmt := topS 23
theorem sc__are_asks : FnScope ["thing", "dishes", "ask"] ["thing", "dishes"] (defScope s__are_asks) := ⟨rfl, rfl, rfl, by decide +kernel, rfl, by decide +kernel, by decide +kernel⟩
abbrev s__are_blocks : Stmt := topS 24
theorem sc__are_blocks : FnScope ["thing", "hours", "craft", "block"] ["thing", "hours", "craft"] (defScope s__are_blocks) := ⟨rfl, rfl, rfl, by decide +kernel, rfl, by decide +kernel, by decide +kernel⟩
abbrev s_is_block : Stmt := topS 25
theorem sc_is_block : FnScope ["thing", "hours", "craft", "house", "number", "ready", "due", "worth"] ["thing", "hours", "craft"] (defScope s_is_block) := ⟨rfl, rfl, rfl, by decide +kernel, rfl, by decide +kernel, by decide +kernel⟩
abbrev s_need_day : Stmt := topS 26
theorem sc_need_day : FnScope ["thing"] ["thing"] (defScope s_need_day) := ⟨rfl, rfl, rfl, by decide +kernel, rfl, by decide +kernel, by decide +kernel⟩
abbrev s_is_plan : Stmt := topS 27
theorem sc_is_plan : FnScope ["day", "thing", "part"] ["day", "thing"] (defScope s_is_plan) := ⟨rfl, rfl, rfl, by decide +kernel, rfl, by decide +kernel, by decide +kernel⟩
abbrev s__is_pass : Stmt := topS 28
theorem sc__is_pass : FnScope ["day", "thing", "hours", "stores", "sights", "asks", "blocks", "hour", "dish", "craft", "block"] ["day", "thing"] (defScope s__is_pass) := ⟨rfl, rfl, rfl, by decide +kernel, rfl, by decide +kernel, by decide +kernel⟩
abbrev s_may_be_sent : Stmt := topS 29
theorem sc_may_be_sent : FnScope ["block", "hour", "house", "craft", "ready", "due", "worth"] ["block", "hour"] (defScope s_may_be_sent) := ⟨rfl, rfl, rfl, by decide +kernel, rfl, by decide +kernel, by decide +kernel⟩
abbrev s__clash_nowhere : Stmt := topS 30
theorem sc__clash_nowhere : FnScope ["passes", "many", "hour", "dish", "craft", "block"] ["passes"] (defScope s__clash_nowhere) := ⟨rfl, rfl, rfl, by decide +kernel, rfl, by decide +kernel, by decide +kernel⟩
abbrev s__fit_stores : Stmt := topS 31
theorem sc__fit_stores : FnScope ["day", "passes", "hours", "stores", "sights", "asks", "blocks", "craft", "hour"] ["day", "passes"] (defScope s__fit_stores) := ⟨rfl, rfl, rfl, by decide +kernel, rfl, by decide +kernel, by decide +kernel⟩
abbrev s_kept_over : Stmt := topS 32
theorem sc_kept_over : FnScope ["day", "passes", "craft", "hour", "hours", "stores", "sights", "asks", "blocks", "kept", "sent_at", "dish", "sender", "number", "house", "own_craft", "ready", "due", "worth"] ["day", "passes", "craft", "hour"] (defScope s_kept_over) := ⟨rfl, rfl, rfl, by decide +kernel, rfl, by decide +kernel, by decide +kernel⟩
abbrev s_need_plan : Stmt := topS 33
theorem sc_need_plan : FnScope ["day", "thing"] ["day", "thing"] (defScope s_need_plan) := ⟨rfl, rfl, rfl, by decide +kernel, rfl, by decide +kernel, by decide +kernel⟩
abbrev s_gain_of : Stmt := topS 34
theorem sc_gain_of : FnScope ["day", "plan"] ["day", "plan"] (defScope s_gain_of) := ⟨rfl, rfl, rfl, by decide +kernel, rfl, by decide +kernel, by decide +kernel⟩
abbrev s_gain_of_passes : Stmt := topS 35
theorem sc_gain_of_passes : FnScope ["day", "passes", "hours", "stores", "sights", "asks", "blocks", "gain", "hour", "dish", "craft", "number", "house", "own_craft", "ready", "due", "worth"] ["day", "passes"] (defScope s_gain_of_passes) := ⟨rfl, rfl, rfl, by decide +kernel, rfl, by decide +kernel, by decide +kernel⟩
abbrev s__law_purse : Stmt := topS 37
theorem sc__law_purse : FnScope ["script", "k", "cell"] ["script", "k"] (defScope s__law_purse) := ⟨rfl, rfl, rfl, by decide +kernel, rfl, by decide +kernel, by decide +kernel⟩
abbrev s__law_coin : Stmt := topS 38
theorem sc__law_coin : FnScope ["purse", "many", "found", "mixed"] ["purse", "many"] (defScope s__law_coin) := ⟨rfl, rfl, rfl, by decide +kernel, rfl, by decide +kernel, by decide +kernel⟩
abbrev s__law_sight : Stmt := topS 39
theorem sc__law_sight : FnScope ["purse", "hours", "craft", "found", "hour", "some", "one"] ["purse", "hours", "craft"] (defScope s__law_sight) := ⟨rfl, rfl, rfl, by decide +kernel, rfl, by decide +kernel, by decide +kernel⟩
abbrev s__law_block : Stmt := topS 40
theorem sc__law_block : FnScope ["purse", "hours", "craft", "ready", "due", "worth"] ["purse", "hours", "craft"] (defScope s__law_block) := ⟨rfl, rfl, rfl, by decide +kernel, rfl, by decide +kernel, by decide +kernel⟩
abbrev s__law_day : Stmt := topS 41
theorem sc__law_day : FnScope ["purse", "most", "blocks", "full", "hours", "craft", "stores", "dishes", "sights", "asks", "many", "one", "dish"] ["purse", "most", "blocks"] (defScope s__law_day) := ⟨rfl, rfl, rfl, by decide +kernel, rfl, by decide +kernel, by decide +kernel⟩
abbrev s__law_may : Stmt := topS 42
theorem sc__law_may : FnScope ["block", "hour", "house", "craft", "ready", "due", "worth"] ["block", "hour"] (defScope s__law_may) := ⟨rfl, rfl, rfl, by decide +kernel, rfl, by decide +kernel, by decide +kernel⟩
abbrev s__law_passes : Stmt := topS 43
theorem sc__law_passes : FnScope ["purse", "day", "hours", "stores", "sights", "asks", "blocks", "found", "gone", "hour", "used", "dish", "some", "number", "n"] ["purse", "day"] (defScope s__law_passes) := ⟨rfl, rfl, rfl, by decide +kernel, rfl, by decide +kernel, by decide +kernel⟩
abbrev s__law_over : Stmt := topS 44
theorem sc__law_over : FnScope ["day", "passes", "hours", "stores", "sights", "asks", "blocks", "hour", "craft", "some", "one"] ["day", "passes"] (defScope s__law_over) := ⟨rfl, rfl, rfl, by decide +kernel, rfl, by decide +kernel, by decide +kernel⟩
abbrev s__law_plan : Stmt := topS 45
theorem sc__law_plan : FnScope ["purse", "day", "found", "turn", "over", "gone", "one"] ["purse", "day"] (defScope s__law_plan) := ⟨rfl, rfl, rfl, by decide +kernel, rfl, by decide +kernel, by decide +kernel⟩
abbrev s__law_copy : Stmt := topS 46
theorem sc__law_copy : FnScope ["day", "hours", "stores", "sights", "asks", "blocks", "sight", "heard"] ["day"] (defScope s__law_copy) := ⟨rfl, rfl, rfl, by decide +kernel, rfl, by decide +kernel, by decide +kernel⟩
abbrev s__law_turned : Stmt := topS 47
theorem sc__law_turned : FnScope ["purse", "many", "left", "one"] ["purse", "many"] (defScope s__law_turned) := ⟨rfl, rfl, rfl, by decide +kernel, rfl, by decide +kernel, by decide +kernel⟩
abbrev s__law_named : Stmt := topS 48
theorem sc__law_named : FnScope ["day", "crafts", "dishes", "numbers", "hours", "stores", "sights", "asks", "blocks", "heard", "made", "found", "k", "sight", "house", "craft", "ready", "due", "worth", "some", "one"] ["day", "crafts", "dishes", "numbers"] (defScope s__law_named) := ⟨rfl, rfl, rfl, by decide +kernel, rfl, by decide +kernel, by decide +kernel⟩
abbrev s__law_wider : Stmt := topS 49
theorem sc__law_wider : FnScope ["purse", "day", "hours", "stores", "sights", "asks", "blocks", "found", "one", "sight", "hour"] ["purse", "day"] (defScope s__law_wider) := ⟨rfl, rfl, rfl, by decide +kernel, rfl, by decide +kernel, by decide +kernel⟩
abbrev s__law_moved_right : Stmt := topS 50
theorem sc__law_moved_right : FnScope ["day", "plan", "at", "hour", "dish", "craft", "number", "rest", "taken", "other", "when", "used", "free", "moved", "one"] ["day", "plan", "at"] (defScope s__law_moved_right) := ⟨rfl, rfl, rfl, by decide +kernel, rfl, by decide +kernel, by decide +kernel⟩
abbrev s_law : Stmt := topS 51
theorem sc_law : FnScope ["script", "k", "purse", "day", "plan", "whole", "some", "rest", "crafts", "dishes", "numbers", "other", "called", "one", "at", "hour", "dish", "craft", "number"] ["script"] (defScope s_law) := ⟨rfl, rfl, rfl, by decide +kernel, rfl, by decide +kernel, by decide +kernel⟩
/-- what stands behind the top: each def, its function object, its code's table; the constants; the built-in names -/
structure Facts (K : PySem.W.Frag) (mg : Str → Option Value) (base : Heap) (fa : String → Addr) (fd : String → FuncData) (ca ta : String → Addr) : Prop where
  b : Bt mg
  c_MOST_HOURS : ∃ t, mg "MOST_HOURS" = some (.int 10 t)
  c_MOST_CRAFT : ∃ t, mg "MOST_CRAFT" = some (.int 4 t)
  c_MOST_STORE : ∃ t, mg "MOST_STORE" = some (.int 5 t)
  c_MOST_DISHES : ∃ t, mg "MOST_DISHES" = some (.int 3 t)
  c_MOST_ASK : ∃ t, mg "MOST_ASK" = some (.int 999 t)
  c_MOST_BLOCKS : ∃ t, mg "MOST_BLOCKS" = some (.int 14 t)
  c_MOST_HOUSE : ∃ t, mg "MOST_HOUSE" = some (.int 5 t)
  c_MOST_WORTH : ∃ t, mg "MOST_WORTH" = some (.int 9999 t)
  d_is_number : DefAt K mg "is_number" s_is_number ["thing"] (fa "is_number") (fd "is_number")
  d_is_whole : DefAt K mg "is_whole" s_is_whole ["thing", "least", "most"] (fa "is_whole") (fd "is_whole")
  d_is_list : DefAt K mg "is_list" s_is_list ["thing", "least", "most"] (fa "is_list") (fd "is_list")
  d_is_tuple : DefAt K mg "is_tuple" s_is_tuple ["thing", "many"] (fa "is_tuple") (fd "is_tuple")
  d_rises : DefAt K mg "rises" s_rises ["things"] (fa "rises") (fd "rises")
  d_is_day : DefAt K mg "is_day" s_is_day ["thing"] (fa "is_day") (fd "is_day")
  d__are_stores : DefAt K mg "_are_stores" s__are_stores ["thing"] (fa "_are_stores") (fd "_are_stores")
  d__are_sights : DefAt K mg "_are_sights" s__are_sights ["thing", "hours", "craft"] (fa "_are_sights") (fd "_are_sights")
  d__is_sight : DefAt K mg "_is_sight" s__is_sight ["thing", "hours", "craft"] (fa "_is_sight") (fd "_is_sight")
  d__are_heard : DefAt K mg "_are_heard" s__are_heard ["thing", "craft"] (fa "_are_heard") (fd "_are_heard")
  d__are_asks : DefAt K mg "_are_asks" s__are_asks ["thing", "dishes"] (fa "_are_asks") (fd "_are_asks")
  d__are_blocks : DefAt K mg "_are_blocks" s__are_blocks ["thing", "hours", "craft"] (fa "_are_blocks") (fd "_are_blocks")
  d_is_block : DefAt K mg "is_block" s_is_block ["thing", "hours", "craft"] (fa "is_block") (fd "is_block")
  d_need_day : DefAt K mg "need_day" s_need_day ["thing"] (fa "need_day") (fd "need_day")
  d_is_plan : DefAt K mg "is_plan" s_is_plan ["day", "thing"] (fa "is_plan") (fd "is_plan")
  d__is_pass : DefAt K mg "_is_pass" s__is_pass ["day", "thing"] (fa "_is_pass") (fd "_is_pass")
  d_may_be_sent : DefAt K mg "may_be_sent" s_may_be_sent ["block", "hour"] (fa "may_be_sent") (fd "may_be_sent")
  d__clash_nowhere : DefAt K mg "_clash_nowhere" s__clash_nowhere ["passes"] (fa "_clash_nowhere") (fd "_clash_nowhere")
  d__fit_stores : DefAt K mg "_fit_stores" s__fit_stores ["day", "passes"] (fa "_fit_stores") (fd "_fit_stores")
  d_kept_over : DefAt K mg "kept_over" s_kept_over ["day", "passes", "craft", "hour"] (fa "kept_over") (fd "kept_over")
  d_need_plan : DefAt K mg "need_plan" s_need_plan ["day", "thing"] (fa "need_plan") (fd "need_plan")
  d_gain_of : DefAt K mg "gain_of" s_gain_of ["day", "plan"] (fa "gain_of") (fd "gain_of")
  d_gain_of_passes : DefAt K mg "gain_of_passes" s_gain_of_passes ["day", "passes"] (fa "gain_of_passes") (fd "gain_of_passes")
  d__law_purse : DefAt K mg "_law_purse" s__law_purse ["script", "k"] (fa "_law_purse") (fd "_law_purse")
  d__law_coin : DefAt K mg "_law_coin" s__law_coin ["purse", "many"] (fa "_law_coin") (fd "_law_coin")
  d__law_sight : DefAt K mg "_law_sight" s__law_sight ["purse", "hours", "craft"] (fa "_law_sight") (fd "_law_sight")
  d__law_block : DefAt K mg "_law_block" s__law_block ["purse", "hours", "craft"] (fa "_law_block") (fd "_law_block")
  d__law_day : DefAt K mg "_law_day" s__law_day ["purse", "most", "blocks"] (fa "_law_day") (fd "_law_day")
  d__law_may : DefAt K mg "_law_may" s__law_may ["block", "hour"] (fa "_law_may") (fd "_law_may")
  d__law_passes : DefAt K mg "_law_passes" s__law_passes ["purse", "day"] (fa "_law_passes") (fd "_law_passes")
  d__law_over : DefAt K mg "_law_over" s__law_over ["day", "passes"] (fa "_law_over") (fd "_law_over")
  d__law_plan : DefAt K mg "_law_plan" s__law_plan ["purse", "day"] (fa "_law_plan") (fd "_law_plan")
  d__law_copy : DefAt K mg "_law_copy" s__law_copy ["day"] (fa "_law_copy") (fd "_law_copy")
  d__law_turned : DefAt K mg "_law_turned" s__law_turned ["purse", "many"] (fa "_law_turned") (fd "_law_turned")
  d__law_named : DefAt K mg "_law_named" s__law_named ["day", "crafts", "dishes", "numbers"] (fa "_law_named") (fd "_law_named")
  d__law_wider : DefAt K mg "_law_wider" s__law_wider ["purse", "day"] (fa "_law_wider") (fd "_law_wider")
  d__law_moved_right : DefAt K mg "_law_moved_right" s__law_moved_right ["day", "plan", "at"] (fa "_law_moved_right") (fd "_law_moved_right")
  t_rises : TabAt base mg (fd "rises") (ca "rises") (ta "rises")
  t__are_stores : TabAt base mg (fd "_are_stores") (ca "_are_stores") (ta "_are_stores")
  t__are_sights : TabAt base mg (fd "_are_sights") (ca "_are_sights") (ta "_are_sights")
  t__is_sight : TabAt base mg (fd "_is_sight") (ca "_is_sight") (ta "_is_sight")
  t__are_heard : TabAt base mg (fd "_are_heard") (ca "_are_heard") (ta "_are_heard")
  t__are_asks : TabAt base mg (fd "_are_asks") (ca "_are_asks") (ta "_are_asks")
  t__are_blocks : TabAt base mg (fd "_are_blocks") (ca "_are_blocks") (ta "_are_blocks")
  t_is_plan : TabAt base mg (fd "is_plan") (ca "is_plan") (ta "is_plan")
  t__fit_stores : TabAt base mg (fd "_fit_stores") (ca "_fit_stores") (ta "_fit_stores")
/-- all tables -/
def Ts (ta : String → Addr) : List Addr := [ta "rises", ta "_are_stores", ta "_are_sights", ta "_is_sight", ta "_are_heard", ta "_are_asks", ta "_are_blocks", ta "is_plan", ta "_fit_stores"]
theorem tab_rises {ta : String → Addr} {H : Hp} (h : Tb (Ts ta) H) : TabG H (ta "rises") := h _ (by simp [Ts])
theorem tab__are_stores {ta : String → Addr} {H : Hp} (h : Tb (Ts ta) H) : TabG H (ta "_are_stores") := h _ (by simp [Ts])
theorem tab__are_sights {ta : String → Addr} {H : Hp} (h : Tb (Ts ta) H) : TabG H (ta "_are_sights") := h _ (by simp [Ts])
theorem tab__is_sight {ta : String → Addr} {H : Hp} (h : Tb (Ts ta) H) : TabG H (ta "_is_sight") := h _ (by simp [Ts])
theorem tab__are_heard {ta : String → Addr} {H : Hp} (h : Tb (Ts ta) H) : TabG H (ta "_are_heard") := h _ (by simp [Ts])
theorem tab__are_asks {ta : String → Addr} {H : Hp} (h : Tb (Ts ta) H) : TabG H (ta "_are_asks") := h _ (by simp [Ts])
theorem tab__are_blocks {ta : String → Addr} {H : Hp} (h : Tb (Ts ta) H) : TabG H (ta "_are_blocks") := h _ (by simp [Ts])
theorem tab_is_plan {ta : String → Addr} {H : Hp} (h : Tb (Ts ta) H) : TabG H (ta "is_plan") := h _ (by simp [Ts])
theorem tab__fit_stores {ta : String → Addr} {H : Hp} (h : Tb (Ts ta) H) : TabG H (ta "_fit_stores") := h _ (by simp [Ts])
end Law

set_option Elab.async false
set_option linter.all false
set_option maxRecDepth 100000
set_option maxHeartbeats 4000000
namespace Law
open PySem PySem.Spec PyProof.Rows L2 GxR GX Tree Kit Data Loops
section
variable {P : Program} {w : World} {K : PySem.W.Frag} {mg : Str → Option Value} {base : Heap} {fa : String → Addr} {fd : String → FuncData} {ca ta : String → Addr}
/-! ### numbers, lists, tuples -/
def sp_is_number : Sp := fun vs H Q _ => ∃ v d, vs = [v] ∧ Tr [] H v d ∧ Q (.bl (isNum d)) H
theorem ok_is_number (Y : Facts K mg base fa fd ca ta) : FnOk P w K mg base CX0 1 (fa "is_number") (fd "is_number") ["thing"] sp_is_number := by
  refine Y.d_is_number.ok sc_is_number (fun vs H Q E h => ?_) (fun cdv A outer s H vs Q E hcd hr h => ?_)
  · obtain ⟨v, d, rfl, _⟩ := h; rfl
  · obtain ⟨v, d, rfl, ht, q⟩ := h
    refine ⟨_, (pss_one (ps_ret (pe_and (pe_callB (call_isiK' K rfl) (by rfl) Y.b.isinstance (by decide +kernel) (pa_cons (pv 0) (pa_cons (pe_bltn (v := .ty "int") (by rfl) Y.b.int (by decide +kernel) rfl) pa_nil))) (pe_one (pe_not (pe_callB (call_isiK' K rfl) (by rfl) Y.b.isinstance (by decide +kernel) (pa_cons (pv 0) (pa_cons (pe_bltn (v := .ty "bool") (by rfl) Y.b.bool (by decide +kernel) rfl) pa_nil)))))))), ?_⟩
    refine ⟨v, rfl, v, .ty "int", _, _, _, rfl, .ty _, ht.ty, kit_int d, _, rfl, ?_⟩
    have e : isNum d = (isiD "int" d && !isiD "bool" d) := by cases d <;> rfl
    rw [e] at q
    refine ite2 (fun c => ?_) (fun c => ?_)
    · rw [c] at q
      exact ⟨v, rfl, v, .ty "bool", _, _, _, rfl, .ty _, ht.ty, kit_bool d, _, rfl, q⟩
    · rw [Bool.not_eq_true] at c
      rw [c] at q
      exact q
def sp_is_whole : Sp := fun vs H Q _ => ∃ v d lo hi, vs = [v, .int lo, .int hi] ∧ Tr [] H v d ∧ Q (.bl (isWh lo hi d)) H
theorem ok_is_whole (Y : Facts K mg base fa fd ca ta) : FnOk P w K mg base CX0 2 (fa "is_whole") (fd "is_whole") ["thing", "least", "most"] sp_is_whole := by
  refine Y.d_is_whole.ok sc_is_whole (fun vs H Q E h => ?_) (fun cdv A outer s H vs Q E hcd hr h => ?_)
  · obtain ⟨v, d, lo, hi, rfl, _⟩ := h; rfl
  · obtain ⟨v, d, lo, hi, rfl, ht, q⟩ := h
    refine ⟨_, (pss_one (ps_ret (pe_and (pe_call (ok_is_number Y) (hr.mono (by decide)) (by rfl) Y.d_is_number.g Y.d_is_number.kp Y.d_is_number.b .nil pass0 (pa_cons (pv 0) pa_nil)) (pe_one (pe_chain op_le op_le (pv 1) (pv 0) (pv 2)))))), ?_⟩
    refine ⟨v, rfl, v, d, rfl, ht, _, rfl, ?_⟩
    refine ite2 (fun c => ?_) (fun c => ?_)
    · cases ht with
      | int i =>
        refine ⟨_, rfl, _, rfl, _, _, rfl, rfl, _, rfl, ?_⟩
        refine ite2 (fun c1 => ?_) (fun c1 => ?_)
        · refine ⟨_, rfl, _, _, rfl, rfl, ?_⟩
          have q' : Q (.bl (decide (lo ≤ i) && decide (i ≤ hi))) H := q
          rw [c1] at q'
          exact q'
        · have q' : Q (.bl (decide (lo ≤ i) && decide (i ≤ hi))) H := q
          rw [Bool.not_eq_true] at c1
          rw [c1] at q'
          exact q'
      | _ => cases c
    · have e : isWh lo hi d = false := by cases d <;> first | rfl | exact absurd rfl c
      rw [e] at q
      exact q
def sp_is_list : Sp := fun vs H Q _ => ∃ v d lo hi, vs = [v, .int lo, .int hi] ∧ Tr [] H v d ∧ Q (.bl (isLs lo hi d)) H
theorem ok_is_list (Y : Facts K mg base fa fd ca ta) : FnOk P w K mg base CX0 1 (fa "is_list") (fd "is_list") ["thing", "least", "most"] sp_is_list := by
  refine Y.d_is_list.ok sc_is_list (fun vs H Q E h => ?_) (fun cdv A outer s H vs Q E hcd hr h => ?_)
  · obtain ⟨v, d, lo, hi, rfl, _⟩ := h; rfl
  · obtain ⟨v, d, lo, hi, rfl, ht, q⟩ := h
    refine ⟨_, (pss_one (ps_ret (pe_and (pe_callB (call_isiK' K rfl) (by rfl) Y.b.isinstance (by decide +kernel) (pa_cons (pv 0) (pa_cons (pe_bltn (v := .ty "list") (by rfl) Y.b.list (by decide +kernel) rfl) pa_nil))) (pe_one (pe_chain op_le op_le (pv 1) (pe_callB (call_lenK K rfl) (by rfl) Y.b.len (by decide +kernel) (pa_cons (pv 0) pa_nil)) (pv 2)))))), ?_⟩
    refine ⟨v, rfl, v, .ty "list", _, _, _, rfl, .ty _, ht.ty, kit_list d, _, rfl, ?_⟩
    refine ite2 (fun c => ?_) (fun c => ?_)
    · cases ht with
      | lst n h l =>
        rename_i a xs ds
        have hl := l.length
        refine ⟨_, rfl, _, rfl, a, xs, rfl, .inl (SqL.of h), _, _, rfl, rfl, _, rfl, ?_⟩
        have q' : Q (.bl (decide (lo ≤ (ds.length : Int)) && decide ((ds.length : Int) ≤ hi))) H := q
        rw [← hl] at q'
        refine ite2 (fun c1 => ?_) (fun c1 => ?_)
        · refine ⟨_, rfl, _, _, rfl, rfl, ?_⟩
          rw [c1] at q'
          exact q'
        · rw [Bool.not_eq_true] at c1
          rw [c1] at q'
          exact q'
      | _ => cases c
    · have e : isLs lo hi d = false := by cases d <;> first | rfl | exact absurd rfl c
      rw [e] at q
      exact q
def sp_is_tuple : Sp := fun vs H Q _ => ∃ v d n, vs = [v, .int n] ∧ Tr [] H v d ∧ Q (.bl (isTp n d)) H
theorem ok_is_tuple (Y : Facts K mg base fa fd ca ta) : FnOk P w K mg base CX0 1 (fa "is_tuple") (fd "is_tuple") ["thing", "many"] sp_is_tuple := by
  refine Y.d_is_tuple.ok sc_is_tuple (fun vs H Q E h => ?_) (fun cdv A outer s H vs Q E hcd hr h => ?_)
  · obtain ⟨v, d, n, rfl, _⟩ := h; rfl
  · obtain ⟨v, d, n, rfl, ht, q⟩ := h
    refine ⟨_, (pss_one (ps_ret (pe_and (pe_callB (call_isiK' K rfl) (by rfl) Y.b.isinstance (by decide +kernel) (pa_cons (pv 0) (pa_cons (pe_bltn (v := .ty "tuple") (by rfl) Y.b.tuple (by decide +kernel) rfl) pa_nil))) (pe_one (pe_cmpR op_eq (pe_callB (call_lenK K rfl) (by rfl) Y.b.len (by decide +kernel) (pa_cons (pv 0) pa_nil)) (pv 1) (nomark _)))))), ?_⟩
    refine ⟨v, rfl, v, .ty "tuple", _, _, _, rfl, .ty _, ht.ty, kit_tuple d, _, rfl, ?_⟩
    refine ite2 (fun c => ?_) (fun c => ?_)
    · cases ht with
      | tup m h l =>
        rename_i a xs ds
        have hl := l.length
        refine ⟨_, rfl, a, xs, rfl, .inr (SqT.of h), _, rfl, rfl, ?_⟩
        have e : decide (V.int (xs.length : Int) = V.int n) = decide ((ds.length : Int) = n) := by
          rw [hl]
          by_cases z : (ds.length : Int) = n
          · rw [decide_eq_true z, z, decide_eq_true rfl]
          · rw [decide_eq_false z, decide_eq_false (fun y => z (V.int.inj y))]
        rw [e]
        exact q
      | _ => cases c
    · have e : isTp n d = false := by cases d <;> first | rfl | exact absurd rfl c
      rw [e] at q
      exact q
/-! ### rising -/
theorem getD_at {α : Type} : ∀ (l : List α) (d : α) {i : Nat} (h : i < l.length), l.getD i d = l[i]
  | [], _, _, h => absurd h (Nat.not_lt_zero _)
  | _ :: _, _, 0, _ => rfl
  | _ :: r, d, i + 1, h => getD_at r d (Nat.lt_of_succ_lt_succ h)
def risesN (ns : List Int) : Bool := (List.range (ns.length - 1)).all fun i => decide (ns.getD i 0 < ns.getD (i + 1) 0)
theorem risesN_eq : ∀ ns : List Int, risesN ns = risesB ns := by
  intro ns
  unfold risesN risesB
  rw [Bool.eq_iff_iff, List.all_eq_true, decide_eq_true_eq]
  constructor
  · intro h
    rw [List.pairwise_iff_getElem]
    have key : ∀ j i (hij : i < j) (hj : j < ns.length), ns[i]'(by omega) < ns[j] := by
      intro j
      induction j with
      | zero => intro i hij; omega
      | succ j ih =>
        intro i hij hj
        have h1 := of_decide_eq_true (h j (List.mem_range.mpr (by omega)))
        rw [getD_at _ _ (by omega), getD_at _ _ hj] at h1
        rcases Nat.lt_or_eq_of_le (Nat.le_of_lt_succ hij) with z | z
        · have := ih i z (by omega)
          omega
        · subst z
          exact h1
    intro i j hi hj hij
    exact key j i hij hj
  · intro h i hi
    have hi' := List.mem_range.mp hi
    rw [getD_at _ _ (by omega), getD_at _ _ (by omega)]
    exact decide_eq_true (List.pairwise_iff_getElem.mp h i (i + 1) (by omega) (by omega) (by omega))
def sp_rises (ta : String → Addr) : Sp := fun vs H Q _ => ∃ a ns, vs = [.ref a] ∧ H a = some (.lst (ns.map V.int)) ∧ ns.length ≤ 100000 ∧ Tb (Ts ta) H ∧ ∀ H', Kx [] H H' → Q (.bl (risesB ns)) H'
theorem ok_rises (Y : Facts K mg base fa fd ca ta) : FnOk P w K mg base CX0 2 (fa "rises") (fd "rises") ["things"] (sp_rises ta) := by
  refine Y.d_rises.ok sc_rises (fun vs H Q E h => ?_) (fun cdv A outer s H vs Q E hcd hr h => ?_)
  · obtain ⟨a, ns, rfl, _⟩ := h; rfl
  · obtain ⟨a, ns, rfl, ha, hz, hT, q⟩ := h
    refine ⟨_, (pss_one (ps_ret (pe_allG (own := [("at", 1)]) (g := gName 1) (tt := tYes) (hr.mono (by decide)) rfl sc_rises.nd (by rfl) Y.b.all Y.t_rises.tb (hcd.symm.trans Y.t_rises.code) (gok_by (N := ["things", "at"]) (sc := defScope s_rises) (by decide +kernel)) (pi_range1 (by rfl) Y.b.range (pa_cons (pe_op op_sub (pe_callB (call_lenK K rfl) (by rfl) Y.b.len (by decide +kernel) (pa_cons (pv 0) pa_nil)) pe_int) pa_nil)) (fun _ _ _ _ _ _ _ => (pg_name (i := 1) sc_rises.nd rfl (by first | exact Or.inl rfl | exact Or.inr rfl))) (fun _ _ _ _ _ _ _ => pts_nil) (fun _ _ _ _ _ _ _ => (pe_cmpR op_lt (pe_ix (ix_listK K rfl) (pv 0) (pv 1) (fun _ _ => rfl)) (pe_ix (ix_listK K rfl) (pv 0) (pe_op op_add (pv 1) pe_int) (fun _ _ => rfl)) (nomark _)))))), ?_⟩
    refine ⟨_, rfl, a, _, rfl, .inl (SqL.of ha), _, _, rfl, rfl, (ns.length : Int) - 1, by rw [List.length_map], ?_, ?_, ?_⟩
    · omega
    · omega
    · rw [show ((ns.length : Int) - 1).toNat = ns.length - 1 by omega]
      refine all_range (p := fun i => decide (ns.getD i 0 < ns.getD (i + 1) 0)) (tab_rises hT) (fun i H' hi k R hR => ?_) fun H' k => ?_
      · have ha' := k.lst (by simp) ha
        refine ⟨rfl, _, rfl, _, rfl, a, _, _, _, rfl, rfl, SqL.of ha', atI_nat (j := i) (by rw [List.getElem?_map, List.getElem?_eq_getElem (by omega)]; rfl), _, rfl, _, rfl, _, _, rfl, rfl, a, _, _, _, rfl, rfl, SqL.of ha', at_of (j := i + 1) (by simp) (by rw [List.getElem?_map, List.getElem?_eq_getElem (by omega)]; rfl), _, _, rfl, rfl, _, rfl, ?_⟩
        have := hR H' (Kx.refl _)
        simp only [getD_at _ _ (show i < ns.length by omega), getD_at _ _ (show i + 1 < ns.length by omega)] at this
        exact this
      · have := q H' k
        rw [← risesN_eq] at this
        exact this
/-! ### the parts of a day -/
theorem TrAll.intsV {B : List Addr} {H : Hp} {xs : List V} {ds : List PyData} (h : TrAll B H xs ds) (e : ds = (intsD ds).map PyData.int) : xs = (intsD ds).map V.int := by
  have key : ∀ (ns : List Int) (xs : List V), TrAll B H xs (ns.map PyData.int) → xs = ns.map V.int := by
    intro ns
    induction ns with
    | nil => intro xs h; cases h; rfl
    | cons n r ih =>
      intro xs h
      cases h with
      | cons h1 h2 =>
        cases h1
        rw [ih _ h2]
        rfl
  rw [e] at h
  exact key _ _ h
def sp_are_heard (ta : String → Addr) : Sp := fun vs H Q _ => ∃ v d craft, vs = [v, .int craft] ∧ Tr [] H v d ∧ sz d ≤ 100000 ∧ Tb (Ts ta) H ∧ ∀ H', Kx [] H H' → Q (.bl (heardB craft d)) H'
theorem ok__are_heard (Y : Facts K mg base fa fd ca ta) : FnOk P w K mg base CX0 4 (fa "_are_heard") (fd "_are_heard") ["thing", "craft"] (sp_are_heard ta) := by
  refine Y.d__are_heard.ok sc__are_heard (fun vs H Q E h => ?_) (fun cdv A outer s H vs Q E hcd hr h => ?_)
  · obtain ⟨v, d, cr, rfl, _⟩ := h; rfl
  · obtain ⟨v, d, cr, rfl, ht, hz, hT, q⟩ := h
    refine ⟨_, (pss_one (ps_ret (pe_and (pe_callB (call_isiK' K rfl) (by rfl) Y.b.isinstance (by decide +kernel) (pa_cons (pv 0) (pa_cons (pe_bltn (v := .ty "list") (by rfl) Y.b.list (by decide +kernel) rfl) pa_nil))) (pe_and (pe_allG (own := [("number", 2)]) (g := gName 2) (tt := tYes) (hr.mono (by decide)) rfl sc__are_heard.nd (by rfl) Y.b.all Y.t__are_heard.tb (hcd.symm.trans Y.t__are_heard.code) (gok_by (N := ["thing", "craft", "number"]) (sc := defScope s__are_heard) (by decide +kernel)) (pi_listK K rfl (pv 0)) (fun _ _ _ _ _ _ _ => (pg_name (i := 2) sc__are_heard.nd rfl (by first | exact Or.inl rfl | exact Or.inr rfl))) (fun _ _ _ _ _ _ _ => pts_nil) (fun _ _ _ _ _ _ _ => (pe_call (ok_is_whole Y) ((room_gen (k := 2) (hr.mono (by decide)) _).mono (by decide)) (by rfl) Y.d_is_whole.g Y.d_is_whole.kp Y.d_is_whole.b .nil pass0 (pa_cons (pv 2) (pa_cons pe_int (pa_cons (pe_op op_sub (pv 1) pe_int) pa_nil)))))) (pe_one (pe_call (ok_rises Y) (hr.mono (by decide)) (by rfl) Y.d_rises.g Y.d_rises.kp Y.d_rises.b .nil pass0 (pa_cons (pv 0) pa_nil))))))), ?_⟩
    refine ⟨v, rfl, v, .ty "list", _, _, _, rfl, .ty _, ht.ty, kit_list d, _, rfl, ?_⟩
    refine ite2 (fun c => ?_) (fun c => ?_)
    · cases ht with
      | lst n h l =>
        rename_i a xs ds
        refine all_treeV (isWh 0 (cr - 1)) rfl h l (tab__are_heard hT) (fun x d H' hd t k R hR => ?_) fun H' k => ⟨_, rfl, ?_⟩
        · exact ⟨rfl, x, rfl, _, rfl, _, _, rfl, rfl, x, d, 0, cr - 1, rfl, t, _, rfl, hR H' (Kx.refl _)⟩
        · refine ite2 (fun c => ?_) (fun c => ?_)
          · have ei := all_ints c
            refine ⟨_, rfl, a, intsD ds, rfl, ?_, ?_, hT.kx k, fun H'' k2 => ?_⟩
            · rw [← TrAll.intsV l ei]
              exact k.lst (by simp) h
            · have h1 := intsD_length ds
              have h2 := szAll_len ds
              simp only [sz] at hz
              omega
            · have := q H'' (k.trans k2)
              simp only [heardB, c, Bool.true_and] at this
              exact this
          · rw [Bool.not_eq_true] at c
            have := q H' k
            simp only [heardB, c, Bool.false_and] at this
            exact this
      | _ => cases c
    · have e : heardB cr d = false := by cases d <;> first | rfl | exact absurd rfl c
      have := q H (Kx.refl _)
      rw [e] at this
      exact this
theorem sz_in {d : PyData} {ds : List PyData} (h : d ∈ ds) (hz : sz (.list ds) ≤ 100000) : sz d ≤ 100000 := by
  have h1 := szAll_mem h
  simp only [sz] at hz
  omega
theorem sz_inT {d : PyData} {ds : List PyData} (h : d ∈ ds) (hz : sz (.tuple ds) ≤ 100000) : sz d ≤ 100000 := by
  have h1 := szAll_mem h
  simp only [sz] at hz
  omega
/-- a list's test by its length, then by its items -/
theorem lsall_false {lo hi : Int} {p : PyData → Bool} {d : PyData} (h : isLs lo hi d = false) : (isLs lo hi d && listAll p d) = false := by rw [h]; rfl
def sp_is_sight (ta : String → Addr) : Sp := fun vs H Q _ => ∃ v d h cr, vs = [v, .int h, .int cr] ∧ Tr [] H v d ∧ sz d ≤ 100000 ∧ Tb (Ts ta) H ∧ ∀ H', Kx [] H H' → Q (.bl (sightB h cr d)) H'
theorem ok__is_sight (Y : Facts K mg base fa fd ca ta) : FnOk P w K mg base CX0 6 (fa "_is_sight") (fd "_is_sight") ["thing", "hours", "craft"] (sp_is_sight ta) := by
  refine Y.d__is_sight.ok sc__is_sight (fun vs H Q E h => ?_) (fun cdv A outer s H vs Q E hcd hr h => ?_)
  · obtain ⟨v, d, h, cr, rfl, _⟩ := h; rfl
  · obtain ⟨v, d, h, cr, rfl, ht, hz, hT, q⟩ := h
    refine ⟨_, (pss_one (ps_ret (pe_and (pe_call (ok_is_list Y) (hr.mono (by decide)) (by rfl) Y.d_is_list.g Y.d_is_list.kp Y.d_is_list.b .nil pass0 (pa_cons (pv 0) (pa_cons (pv 1) (pa_cons (pv 1) pa_nil)))) (pe_one (pe_allG (own := [("heard", 3)]) (g := gName 3) (tt := tYes) (hr.mono (by decide)) rfl sc__is_sight.nd (by rfl) Y.b.all Y.t__is_sight.tb (hcd.symm.trans Y.t__is_sight.code) (gok_by (N := ["thing", "hours", "craft", "heard"]) (sc := defScope s__is_sight) (by decide +kernel)) (pi_listK K rfl (pv 0)) (fun _ _ _ _ _ _ _ => (pg_name (i := 3) sc__is_sight.nd rfl (by first | exact Or.inl rfl | exact Or.inr rfl))) (fun _ _ _ _ _ _ _ => pts_nil) (fun _ _ _ _ _ _ _ => (pe_call (ok__are_heard Y) ((room_gen (k := 4) (hr.mono (by decide)) _).mono (by decide)) (by rfl) Y.d__are_heard.g Y.d__are_heard.kp Y.d__are_heard.b .nil pass0 (pa_cons (pv 3) (pa_cons (pv 2) pa_nil))))))))), ?_⟩
    refine ⟨v, rfl, _, rfl, _, rfl, v, d, h, h, rfl, ht, _, rfl, ?_⟩
    refine ite2 (fun c => ?_) (fun c => ?_)
    · obtain ⟨ds, rfl, _, _⟩ := isLs_list c
      cases ht with
      | lst n ha l =>
        refine all_treeV (heardB cr) rfl ha l (tab__is_sight hT) (fun x d H' hd t k R hR => ?_) fun H' k => ?_
        · exact ⟨rfl, x, rfl, _, rfl, x, d, cr, rfl, t, sz_in hd hz, hT.kx k, fun H'' k2 => ⟨_, rfl, hR H'' k2⟩⟩
        · have := q H' k
          simp only [sightB, c, Bool.true_and] at this
          exact this
    · rw [Bool.not_eq_true] at c
      have := q H (Kx.refl _)
      rw [show sightB h cr d = false from lsall_false c] at this
      exact this
def sp_are_sights (ta : String → Addr) : Sp := fun vs H Q _ => ∃ v d h cr, vs = [v, .int h, .int cr] ∧ Tr [] H v d ∧ sz d ≤ 100000 ∧ Tb (Ts ta) H ∧ ∀ H', Kx [] H H' → Q (.bl (sightsB h cr d)) H'
theorem ok__are_sights (Y : Facts K mg base fa fd ca ta) : FnOk P w K mg base CX0 8 (fa "_are_sights") (fd "_are_sights") ["thing", "hours", "craft"] (sp_are_sights ta) := by
  refine Y.d__are_sights.ok sc__are_sights (fun vs H Q E h => ?_) (fun cdv A outer s H vs Q E hcd hr h => ?_)
  · obtain ⟨v, d, h, cr, rfl, _⟩ := h; rfl
  · obtain ⟨v, d, h, cr, rfl, ht, hz, hT, q⟩ := h
    refine ⟨_, (pss_one (ps_ret (pe_and (pe_call (ok_is_list Y) (hr.mono (by decide)) (by rfl) Y.d_is_list.g Y.d_is_list.kp Y.d_is_list.b .nil pass0 (pa_cons (pv 0) (pa_cons pe_int (pa_cons (pe_gint (by rfl) Y.c_MOST_DISHES) pa_nil)))) (pe_one (pe_allG (own := [("sight", 3)]) (g := gName 3) (tt := tYes) (hr.mono (by decide)) rfl sc__are_sights.nd (by rfl) Y.b.all Y.t__are_sights.tb (hcd.symm.trans Y.t__are_sights.code) (gok_by (N := ["thing", "hours", "craft", "sight"]) (sc := defScope s__are_sights) (by decide +kernel)) (pi_listK K rfl (pv 0)) (fun _ _ _ _ _ _ _ => (pg_name (i := 3) sc__are_sights.nd rfl (by first | exact Or.inl rfl | exact Or.inr rfl))) (fun _ _ _ _ _ _ _ => pts_nil) (fun _ _ _ _ _ _ _ => (pe_call (ok__is_sight Y) ((room_gen (k := 6) (hr.mono (by decide)) _).mono (by decide)) (by rfl) Y.d__is_sight.g Y.d__is_sight.kp Y.d__is_sight.b .nil pass0 (pa_cons (pv 3) (pa_cons (pv 1) (pa_cons (pv 2) pa_nil)))))))))), ?_⟩
    refine ⟨v, rfl, v, d, 1, 3, rfl, ht, _, rfl, ?_⟩
    refine ite2 (fun c => ?_) (fun c => ?_)
    · obtain ⟨ds, rfl, _, _⟩ := isLs_list c
      cases ht with
      | lst n ha l =>
        refine all_treeV (sightB h cr) rfl ha l (tab__are_sights hT) (fun x d H' hd t k R hR => ?_) fun H' k => ?_
        · exact ⟨rfl, x, rfl, _, rfl, _, rfl, x, d, h, cr, rfl, t, sz_in hd hz, hT.kx k, fun H'' k2 => ⟨_, rfl, hR H'' k2⟩⟩
        · have := q H' k
          simp only [sightsB, c, Bool.true_and] at this
          exact this
    · rw [Bool.not_eq_true] at c
      have := q H (Kx.refl _)
      rw [show sightsB h cr d = false from lsall_false c] at this
      exact this
def sp_are_stores (ta : String → Addr) : Sp := fun vs H Q _ => ∃ v d, vs = [v] ∧ Tr [] H v d ∧ Tb (Ts ta) H ∧ ∀ H', Kx [] H H' → Q (.bl (storesB d)) H'
theorem ok__are_stores (Y : Facts K mg base fa fd ca ta) : FnOk P w K mg base CX0 4 (fa "_are_stores") (fd "_are_stores") ["thing"] (sp_are_stores ta) := by
  refine Y.d__are_stores.ok sc__are_stores (fun vs H Q E h => ?_) (fun cdv A outer s H vs Q E hcd hr h => ?_)
  · obtain ⟨v, d, rfl, _⟩ := h; rfl
  · obtain ⟨v, d, rfl, ht, hT, q⟩ := h
    refine ⟨_, (pss_one (ps_ret (pe_and (pe_call (ok_is_list Y) (hr.mono (by decide)) (by rfl) Y.d_is_list.g Y.d_is_list.kp Y.d_is_list.b .nil pass0 (pa_cons (pv 0) (pa_cons pe_int (pa_cons (pe_gint (by rfl) Y.c_MOST_CRAFT) pa_nil)))) (pe_one (pe_allG (own := [("store", 1)]) (g := gName 1) (tt := tYes) (hr.mono (by decide)) rfl sc__are_stores.nd (by rfl) Y.b.all Y.t__are_stores.tb (hcd.symm.trans Y.t__are_stores.code) (gok_by (N := ["thing", "store"]) (sc := defScope s__are_stores) (by decide +kernel)) (pi_listK K rfl (pv 0)) (fun _ _ _ _ _ _ _ => (pg_name (i := 1) sc__are_stores.nd rfl (by first | exact Or.inl rfl | exact Or.inr rfl))) (fun _ _ _ _ _ _ _ => pts_nil) (fun _ _ _ _ _ _ _ => (pe_call (ok_is_whole Y) ((room_gen (k := 2) (hr.mono (by decide)) _).mono (by decide)) (by rfl) Y.d_is_whole.g Y.d_is_whole.kp Y.d_is_whole.b .nil pass0 (pa_cons (pv 1) (pa_cons pe_int (pa_cons (pe_gint (by rfl) Y.c_MOST_STORE) pa_nil)))))))))), ?_⟩
    refine ⟨v, rfl, v, d, 1, 4, rfl, ht, _, rfl, ?_⟩
    refine ite2 (fun c => ?_) (fun c => ?_)
    · obtain ⟨ds, rfl, _, _⟩ := isLs_list c
      cases ht with
      | lst n ha l =>
        refine all_treeV (isWh 0 5) rfl ha l (tab__are_stores hT) (fun x d H' hd t k R hR => ?_) fun H' k => ?_
        · exact ⟨rfl, x, rfl, x, d, 0, 5, rfl, t, _, rfl, hR H' (Kx.refl _)⟩
        · have := q H' k
          simp only [storesB, c, Bool.true_and] at this
          exact this
    · rw [Bool.not_eq_true] at c
      have := q H (Kx.refl _)
      rw [show storesB d = false from lsall_false c] at this
      exact this
def sp_are_asks (ta : String → Addr) : Sp := fun vs H Q _ => ∃ v d n, vs = [v, .int n] ∧ Tr [] H v d ∧ Tb (Ts ta) H ∧ ∀ H', Kx [] H H' → Q (.bl (asksB n d)) H'
theorem isNone_v {B : List Addr} {H : Hp} {x : V} {d : PyData} (t : Tr B H x d) : decide (x = V.non) = isNone d := by
  cases t <;> first | rfl | exact decide_eq_false (fun z => by cases z)
theorem ok__are_asks (Y : Facts K mg base fa fd ca ta) : FnOk P w K mg base CX0 4 (fa "_are_asks") (fd "_are_asks") ["thing", "dishes"] (sp_are_asks ta) := by
  refine Y.d__are_asks.ok sc__are_asks (fun vs H Q E h => ?_) (fun cdv A outer s H vs Q E hcd hr h => ?_)
  · obtain ⟨v, d, n, rfl, _⟩ := h; rfl
  · obtain ⟨v, d, n, rfl, ht, hT, q⟩ := h
    refine ⟨_, (pss_one (ps_ret (pe_and (pe_call (ok_is_list Y) (hr.mono (by decide)) (by rfl) Y.d_is_list.g Y.d_is_list.kp Y.d_is_list.b .nil pass0 (pa_cons (pv 0) (pa_cons (pv 1) (pa_cons (pv 1) pa_nil)))) (pe_one (pe_allG (own := [("ask", 2)]) (g := gName 2) (tt := tYes) (hr.mono (by decide)) rfl sc__are_asks.nd (by rfl) Y.b.all Y.t__are_asks.tb (hcd.symm.trans Y.t__are_asks.code) (gok_by (N := ["thing", "dishes", "ask"]) (sc := defScope s__are_asks) (by decide +kernel)) (pi_listK K rfl (pv 0)) (fun _ _ _ _ _ _ _ => (pg_name (i := 2) sc__are_asks.nd rfl (by first | exact Or.inl rfl | exact Or.inr rfl))) (fun _ _ _ _ _ _ _ => pts_nil) (fun _ _ _ _ _ _ _ => (pe_or (pe_cmpR op_isN (pv 2) pe_non (nomark _)) (pe_one (pe_call (ok_is_whole Y) ((room_gen (k := 2) (hr.mono (by decide)) _).mono (by decide)) (by rfl) Y.d_is_whole.g Y.d_is_whole.kp Y.d_is_whole.b .nil pass0 (pa_cons (pv 2) (pa_cons pe_int (pa_cons (pe_gint (by rfl) Y.c_MOST_ASK) pa_nil)))))))))))), ?_⟩
    refine ⟨v, rfl, _, rfl, _, rfl, v, d, n, n, rfl, ht, _, rfl, ?_⟩
    refine ite2 (fun c => ?_) (fun c => ?_)
    · obtain ⟨ds, rfl, _, _⟩ := isLs_list c
      cases ht with
      | lst m ha l =>
        refine all_treeV (fun a => isNone a || isWh 0 999 a) rfl ha l (tab__are_asks hT) (fun x d H' hd t k R hR => ?_) fun H' k => ?_
        · refine ⟨rfl, x, rfl, rfl, _, rfl, ?_⟩
          rw [isNone_v t]
          refine ite2 (fun c => ?_) (fun c => ?_)
          · refine ⟨_, rfl, ?_⟩
            have := hR H' (Kx.refl _)
            rw [c] at this
            exact this
          · rw [Bool.not_eq_true] at c
            refine ⟨x, rfl, x, d, 0, 999, rfl, t, _, rfl, ?_⟩
            have := hR H' (Kx.refl _)
            rw [c] at this
            exact this
        · have := q H' k
          simp only [asksB, c, Bool.true_and] at this
          exact this
    · rw [Bool.not_eq_true] at c
      have := q H (Kx.refl _)
      rw [show asksB n d = false from lsall_false c] at this
      exact this
def sp_is_block : Sp := fun vs H Q _ => ∃ v d h cr, vs = [v, .int h, .int cr] ∧ Tr [] H v d ∧ Q (.bl (blockB h cr d)) H
theorem TrAll.five {B : List Addr} {H : Hp} {xs : List V} {a b c d e : PyData} (h : TrAll B H xs [a, b, c, d, e]) : ∃ v1 v2 v3 v4 v5, xs = [v1, v2, v3, v4, v5] ∧ Tr B H v1 a ∧ Tr B H v2 b ∧ Tr B H v3 c ∧ Tr B H v4 d ∧ Tr B H v5 e := by
  cases h with
  | cons h1 r => cases r with
    | cons h2 r => cases r with
      | cons h3 r => cases r with
        | cons h4 r => cases r with
          | cons h5 r => cases r; exact ⟨_, _, _, _, _, rfl, h1, h2, h3, h4, h5⟩
/-- a && .. answered from the left -/
theorem andV {a b : Bool} {A : Prop} {R : Bool → Prop} (q : R (a && b)) (h1 : a = true → R b → A) : if a = true then A else R false := by
  cases a with
  | true => exact iteT (h1 rfl q)
  | false => exact iteF q
theorem orV {a b : Bool} {A : Prop} {R : Bool → Prop} (q : R (a || b)) (h1 : a = false → R b → A) : if a = true then R true else A := by
  cases a with
  | true => exact iteT q
  | false => exact iteF (h1 rfl q)
theorem ok_is_block (Y : Facts K mg base fa fd ca ta) : FnOk P w K mg base CX0 3 (fa "is_block") (fd "is_block") ["thing", "hours", "craft"] sp_is_block := by
  refine Y.d_is_block.ok sc_is_block (fun vs H Q E h => ?_) (fun cdv A outer s H vs Q E hcd hr h => ?_)
  · obtain ⟨v, d, h, cr, rfl, _⟩ := h; rfl
  · obtain ⟨v, d, h, cr, rfl, ht, q⟩ := h
    refine ⟨_, (pss_cons (ps_if (pt_not (pt_val (pe_call (ok_is_tuple Y) (hr.mono (by decide)) (by rfl) Y.d_is_tuple.g Y.d_is_tuple.kp Y.d_is_tuple.b .nil pass0 (pa_cons (pv 0) (pa_cons pe_int pa_nil))))) (pss_one (ps_ret pe_bl)) pss_nil)
      (pss_cons (ps_asg (pv 0) (pg_tupK (n := 5) K rfl rfl (pgs_cons (pg_name (i := 3) sc_is_block.nd rfl (by first | exact Or.inl rfl | exact Or.inr rfl)) (pgs_cons (pg_name (i := 4) sc_is_block.nd rfl (by first | exact Or.inl rfl | exact Or.inr rfl)) (pgs_cons (pg_name (i := 5) sc_is_block.nd rfl (by first | exact Or.inl rfl | exact Or.inr rfl)) (pgs_cons (pg_name (i := 6) sc_is_block.nd rfl (by first | exact Or.inl rfl | exact Or.inr rfl)) (pgs_cons (pg_name (i := 7) sc_is_block.nd rfl (by first | exact Or.inl rfl | exact Or.inr rfl)) pgs_nil)))))))
      (pss_one (ps_ret (pe_and (pe_call (ok_is_whole Y) (hr.mono (by decide)) (by rfl) Y.d_is_whole.g Y.d_is_whole.kp Y.d_is_whole.b .nil pass0 (pa_cons (pv 3) (pa_cons pe_int (pa_cons (pe_gint (by rfl) Y.c_MOST_HOUSE) pa_nil)))) (pe_and (pe_call (ok_is_whole Y) (hr.mono (by decide)) (by rfl) Y.d_is_whole.g Y.d_is_whole.kp Y.d_is_whole.b .nil pass0 (pa_cons (pv 4) (pa_cons pe_int (pa_cons (pe_op op_sub (pv 2) pe_int) pa_nil)))) (pe_and (pe_call (ok_is_whole Y) (hr.mono (by decide)) (by rfl) Y.d_is_whole.g Y.d_is_whole.kp Y.d_is_whole.b .nil pass0 (pa_cons (pv 5) (pa_cons pe_int (pa_cons (pe_op op_sub (pv 1) pe_int) pa_nil)))) (pe_and (pe_or (pe_cmpR op_isN (pv 6) pe_non (nomark _)) (pe_one (pe_call (ok_is_whole Y) (hr.mono (by decide)) (by rfl) Y.d_is_whole.g Y.d_is_whole.kp Y.d_is_whole.b .nil pass0 (pa_cons (pv 6) (pa_cons (pv 5) (pa_cons (pe_op op_sub (pv 1) pe_int) pa_nil)))))) (pe_one (pe_call (ok_is_whole Y) (hr.mono (by decide)) (by rfl) Y.d_is_whole.g Y.d_is_whole.kp Y.d_is_whole.b .nil pass0 (pa_cons (pv 7) (pa_cons pe_int (pa_cons (pe_gint (by rfl) Y.c_MOST_WORTH) pa_nil))))))))))))), ?_⟩
    refine ⟨v, rfl, v, d, 5, rfl, ht, _, rfl, ?_⟩
    refine ite2 (fun c => ?_) (fun c => ?_)
    · have e : blockB h cr d = false := by
        cases d with
        | tuple xs =>
          match xs with
          | [a, b, c', d', e'] => cases c
          | [] => rfl
          | [_] => rfl
          | [_, _] => rfl
          | [_, _, _] => rfl
          | [_, _, _, _] => rfl
          | _ :: _ :: _ :: _ :: _ :: _ :: _ => rfl
        | _ => rfl
      rw [e] at q
      exact q
    · have c : isTp 5 d = true := by
        cases z : isTp 5 d with
        | true => rfl
        | false => rw [z] at c; exact absurd rfl c
      obtain ⟨ds, rfl, hl⟩ := isTp_tuple c
      obtain ⟨ho, nu, re, du, wo, rfl⟩ := tuple5 hl
      cases ht with
      | tup m ha l =>
        rename_i a xs
        obtain ⟨v1, v2, v3, v4, v5, rfl, t1, t2, t3, t4, t5⟩ := TrAll.five l
        refine ⟨.ref a, rfl, a, _, rfl, SqT.of ha, rfl, v1, _, rfl, v2, _, rfl, v3, _, rfl, v4, _, rfl, v5, _, rfl, rfl, ?_⟩
        refine ⟨_, rfl, _, ho, 0, 5, rfl, t1, _, rfl, andV (R := fun b => Q (.bl b) H) q fun _ q => ?_⟩
        refine ⟨_, rfl, _, rfl, _, _, rfl, rfl, _, nu, 0, cr - 1, rfl, t2, _, rfl, andV (R := fun b => Q (.bl b) H) q fun _ q => ?_⟩
        refine ⟨_, rfl, _, rfl, _, _, rfl, rfl, _, re, 0, h - 1, rfl, t3, _, rfl, andV (R := fun b => Q (.bl b) H) q fun c3 q => ?_⟩
        obtain ⟨r, rfl, _, _⟩ := isWh_int c3
        cases t3
        refine ⟨_, rfl, rfl, _, rfl, ?_⟩
        rw [isNone_v t4]
        cases hn : isNone du with
        | true =>
          rw [hn] at q
          refine iteT ⟨_, rfl, andV (R := fun b => Q (.bl b) H) q fun _ q => ?_⟩
          exact ⟨v5, rfl, v5, wo, 1, 9999, rfl, t5, q⟩
        | false =>
          rw [hn] at q
          refine iteF ⟨v4, rfl, _, rfl, _, rfl, _, _, rfl, rfl, v4, du, r, h - 1, rfl, t4, _, rfl, andV (R := fun b => Q (.bl b) H) q fun _ q => ?_⟩
          exact ⟨v5, rfl, v5, wo, 1, 9999, rfl, t5, q⟩
      | _ => cases c
def sp_are_blocks (ta : String → Addr) : Sp := fun vs H Q _ => ∃ v d h cr, vs = [v, .int h, .int cr] ∧ Tr [] H v d ∧ Tb (Ts ta) H ∧ ∀ H', Kx [] H H' → Q (.bl (blocksB h cr d)) H'
theorem ok__are_blocks (Y : Facts K mg base fa fd ca ta) : FnOk P w K mg base CX0 5 (fa "_are_blocks") (fd "_are_blocks") ["thing", "hours", "craft"] (sp_are_blocks ta) := by
  refine Y.d__are_blocks.ok sc__are_blocks (fun vs H Q E h => ?_) (fun cdv A outer s H vs Q E hcd hr h => ?_)
  · obtain ⟨v, d, h, cr, rfl, _⟩ := h; rfl
  · obtain ⟨v, d, h, cr, rfl, ht, hT, q⟩ := h
    refine ⟨_, (pss_one (ps_ret (pe_and (pe_call (ok_is_list Y) (hr.mono (by decide)) (by rfl) Y.d_is_list.g Y.d_is_list.kp Y.d_is_list.b .nil pass0 (pa_cons (pv 0) (pa_cons pe_int (pa_cons (pe_gint (by rfl) Y.c_MOST_BLOCKS) pa_nil)))) (pe_one (pe_allG (own := [("block", 3)]) (g := gName 3) (tt := tYes) (hr.mono (by decide)) rfl sc__are_blocks.nd (by rfl) Y.b.all Y.t__are_blocks.tb (hcd.symm.trans Y.t__are_blocks.code) (gok_by (N := ["thing", "hours", "craft", "block"]) (sc := defScope s__are_blocks) (by decide +kernel)) (pi_listK K rfl (pv 0)) (fun _ _ _ _ _ _ _ => (pg_name (i := 3) sc__are_blocks.nd rfl (by first | exact Or.inl rfl | exact Or.inr rfl))) (fun _ _ _ _ _ _ _ => pts_nil) (fun _ _ _ _ _ _ _ => (pe_call (ok_is_block Y) ((room_gen (k := 3) (hr.mono (by decide)) _).mono (by decide)) (by rfl) Y.d_is_block.g Y.d_is_block.kp Y.d_is_block.b .nil pass0 (pa_cons (pv 3) (pa_cons (pv 1) (pa_cons (pv 2) pa_nil)))))))))), ?_⟩
    refine ⟨v, rfl, v, d, 0, 14, rfl, ht, _, rfl, ?_⟩
    refine ite2 (fun c => ?_) (fun c => ?_)
    · obtain ⟨ds, rfl, _, _⟩ := isLs_list c
      cases ht with
      | lst n ha l =>
        refine all_treeV (blockB h cr) rfl ha l (tab__are_blocks hT) (fun x d H' hd t k R hR => ?_) fun H' k => ?_
        · exact ⟨rfl, x, rfl, _, rfl, _, rfl, x, d, h, cr, rfl, t, _, rfl, hR H' (Kx.refl _)⟩
        · have := q H' k
          simp only [blocksB, c, Bool.true_and] at this
          exact this
    · rw [Bool.not_eq_true] at c
      have := q H (Kx.refl _)
      rw [show blocksB h cr d = false from lsall_false c] at this
      exact this
/-! ### a day -/
theorem storesB_list {d : PyData} (h : storesB d = true) : ∃ xs, d = .list xs := by
  have h1 : isLs 1 4 d = true := (Bool.and_eq_true_iff.mp h).1
  obtain ⟨xs, e, _⟩ := isLs_list h1
  exact ⟨xs, e⟩
theorem sightsB_list {a b : Int} {d : PyData} (h : sightsB a b d = true) : ∃ xs, d = .list xs := by
  have h1 : isLs 1 3 d = true := (Bool.and_eq_true_iff.mp h).1
  obtain ⟨xs, e, _⟩ := isLs_list h1
  exact ⟨xs, e⟩
def sp_is_day (ta : String → Addr) : Sp := fun vs H Q _ => ∃ v d, vs = [v] ∧ Tr [] H v d ∧ sz d ≤ 100000 ∧ Tb (Ts ta) H ∧ ∀ H', Kx [] H H' → Q (.bl (isDayB d)) H'
theorem ok_is_day (Y : Facts K mg base fa fd ca ta) : FnOk P w K mg base CX0 9 (fa "is_day") (fd "is_day") ["thing"] (sp_is_day ta) := by
  refine Y.d_is_day.ok sc_is_day (fun vs H Q E h => ?_) (fun cdv A outer s H vs Q E hcd hr h => ?_)
  · obtain ⟨v, d, rfl, _⟩ := h; rfl
  · obtain ⟨v, d, rfl, ht, hz, hT, q⟩ := h
    refine ⟨_, (pss_cons (ps_if (pt_not (pt_val (pe_call (ok_is_tuple Y) (hr.mono (by decide)) (by rfl) Y.d_is_tuple.g Y.d_is_tuple.kp Y.d_is_tuple.b .nil pass0 (pa_cons (pv 0) (pa_cons pe_int pa_nil))))) (pss_one (ps_ret pe_bl)) pss_nil)
      (pss_cons (ps_asg (pv 0) (pg_tupK (n := 5) K rfl rfl (pgs_cons (pg_name (i := 1) sc_is_day.nd rfl (by first | exact Or.inl rfl | exact Or.inr rfl)) (pgs_cons (pg_name (i := 2) sc_is_day.nd rfl (by first | exact Or.inl rfl | exact Or.inr rfl)) (pgs_cons (pg_name (i := 3) sc_is_day.nd rfl (by first | exact Or.inl rfl | exact Or.inr rfl)) (pgs_cons (pg_name (i := 4) sc_is_day.nd rfl (by first | exact Or.inl rfl | exact Or.inr rfl)) (pgs_cons (pg_name (i := 5) sc_is_day.nd rfl (by first | exact Or.inl rfl | exact Or.inr rfl)) pgs_nil)))))))
      (pss_one (ps_ret (pe_and (pe_call (ok_is_whole Y) (hr.mono (by decide)) (by rfl) Y.d_is_whole.g Y.d_is_whole.kp Y.d_is_whole.b .nil pass0 (pa_cons (pv 1) (pa_cons pe_int (pa_cons (pe_gint (by rfl) Y.c_MOST_HOURS) pa_nil)))) (pe_and (pe_call (ok__are_stores Y) (hr.mono (by decide)) (by rfl) Y.d__are_stores.g Y.d__are_stores.kp Y.d__are_stores.b .nil pass0 (pa_cons (pv 2) pa_nil)) (pe_and (pe_call (ok__are_sights Y) (hr.mono (by decide)) (by rfl) Y.d__are_sights.g Y.d__are_sights.kp Y.d__are_sights.b .nil pass0 (pa_cons (pv 3) (pa_cons (pv 1) (pa_cons (pe_callB (call_lenK K rfl) (by rfl) Y.b.len (by decide +kernel) (pa_cons (pv 2) pa_nil)) pa_nil)))) (pe_and (pe_call (ok__are_asks Y) (hr.mono (by decide)) (by rfl) Y.d__are_asks.g Y.d__are_asks.kp Y.d__are_asks.b .nil pass0 (pa_cons (pv 4) (pa_cons (pe_callB (call_lenK K rfl) (by rfl) Y.b.len (by decide +kernel) (pa_cons (pv 3) pa_nil)) pa_nil))) (pe_one (pe_call (ok__are_blocks Y) (hr.mono (by decide)) (by rfl) Y.d__are_blocks.g Y.d__are_blocks.kp Y.d__are_blocks.b .nil pass0 (pa_cons (pv 5) (pa_cons (pv 1) (pa_cons (pe_callB (call_lenK K rfl) (by rfl) Y.b.len (by decide +kernel) (pa_cons (pv 2) pa_nil)) pa_nil))))))))))))), ?_⟩
    refine ⟨v, rfl, v, d, 5, rfl, ht, _, rfl, ?_⟩
    refine ite2 (fun c => ?_) (fun c => ?_)
    · have e : isDayB d = false := by
        cases d with
        | tuple xs =>
          match xs with
          | [a, b, c', d', e'] => cases c
          | [] => rfl
          | [_] => rfl
          | [_, _] => rfl
          | [_, _, _] => rfl
          | [_, _, _, _] => rfl
          | _ :: _ :: _ :: _ :: _ :: _ :: _ => rfl
        | _ => rfl
      have := q H (Kx.refl _)
      rw [e] at this
      exact this
    · have c : isTp 5 d = true := by
        cases z : isTp 5 d with
        | true => rfl
        | false => rw [z] at c; exact absurd rfl c
      obtain ⟨ds, rfl, hl⟩ := isTp_tuple c
      obtain ⟨ho, st, si, as, bl, rfl⟩ := tuple5 hl
      cases ht with
      | tup m ha l =>
        rename_i a xs
        obtain ⟨v1, v2, v3, v4, v5, rfl, t1, t2, t3, t4, t5⟩ := TrAll.five l
        refine ⟨.ref a, rfl, a, _, rfl, SqT.of ha, rfl, v1, _, rfl, v2, _, rfl, v3, _, rfl, v4, _, rfl, v5, _, rfl, rfl, ?_⟩
        refine ⟨_, rfl, _, ho, 1, 10, rfl, t1, _, rfl, andV (R := fun b => Q (.bl b) H) (q H (Kx.refl _)) fun c1 q1 => ?_⟩
        obtain ⟨hn, rfl, _, _⟩ := isWh_int c1
        cases t1
        have q2 : ∀ H', Kx [] H H' → Q (.bl (storesB st && (sightsB hn (lenD st) si && (asksB (lenD si) as && blocksB hn (lenD st) bl)))) H' := fun H' k => by
          have := q H' k
          simp only [isDayB, c1, Bool.true_and] at this
          exact this
        refine ⟨_, rfl, v2, st, rfl, t2, hT, fun H1 k1 => ⟨_, rfl, andV (R := fun b => Q (.bl b) H1) (q2 H1 k1) fun c2 q3 => ?_⟩⟩
        obtain ⟨sts, rfl⟩ := storesB_list c2
        cases t2 with
        | lst n2 h2 l2 =>
          rename_i a2 xs2
          have e2 := l2.length
          refine ⟨_, rfl, _, rfl, .ref a2, rfl, a2, xs2, rfl, .inl (SqL.of (k1.lst (by simp) h2)), v3, si, hn, (xs2.length : Int), rfl, t3.up k1, sz_inT (by simp) hz, hT.kx k1, fun H2 k2 => ⟨_, rfl, andV (b := asksB (lenD si) as && blocksB hn (lenD (.list sts)) bl) (R := fun b => Q (.bl b) H2) (q := ?_) fun c3 q4 => ?_⟩⟩
          · have := q2 H2 (k1.trans k2)
            rw [c2, Bool.true_and] at this
            rw [e2]
            exact this
          · obtain ⟨sis, rfl⟩ := sightsB_list c3
            cases t3 with
            | lst n3 h3 l3 =>
              rename_i a3 xs3
              have e3 := l3.length
              have k12 := k1.trans k2
              refine ⟨_, rfl, .ref a3, rfl, a3, xs3, rfl, .inl (SqL.of (k12.lst (by simp) h3)), v4, as, (xs3.length : Int), rfl, t4.up k12, hT.kx k12, fun H3 k3 => ⟨_, rfl, andV (b := blocksB hn (lenD (.list sts)) bl) (R := fun b => Q (.bl b) H3) (q := ?_) fun c4 q5 => ?_⟩⟩
              · have := q2 H3 (k12.trans k3)
                rw [c2, Bool.true_and] at this
                rw [e2] at c3
                rw [show sightsB hn (lenD (.list sts)) (.list sis) = true from c3, Bool.true_and] at this
                rw [e3]
                exact this
              · have k123 := k12.trans k3
                refine ⟨_, rfl, _, rfl, .ref a2, rfl, a2, xs2, rfl, .inl (SqL.of (k123.lst (by simp) h2)), v5, bl, hn, (xs2.length : Int), rfl, t5.up k123, hT.kx k123, fun H4 k4 => ?_⟩
                have := q2 H4 (k123.trans k4)
                rw [c2, Bool.true_and] at this
                rw [e2] at c3 ⊢
                rw [e3] at c4
                rw [show sightsB hn (lenD (.list sts)) (.list sis) = true from c3, Bool.true_and, show asksB (lenD (.list sis)) as = true from c4, Bool.true_and] at this
                exact this
      | _ => cases c
end
end Law

set_option Elab.async false
set_option linter.all false
set_option maxRecDepth 100000
set_option maxHeartbeats 4000000
namespace Law
open PySem PySem.Spec PyProof.Rows L2 GxR GX Tree Kit Data Loops Comps Purse Day SetG SetL
section
variable {P : Program} {w : World} {K : PySem.W.Frag} {mg : Str → Option Value} {base : Heap} {fa : String → Addr} {fd : String → FuncData} {ca ta : String → Addr}
/-! ### a day is a day -/
theorem isDayB_of {d : PyData} {D : Dy} (h : isDayB d = true) (e : d = dayD D) : isDayB (dayD D) = true := e ▸ h
def sp_need_day (ta : String → Addr) : Sp := fun vs H Q _ => ∃ v d, vs = [v] ∧ Tr [] H v d ∧ sz d ≤ 100000 ∧ Tb (Ts ta) H ∧ isDayB d = true ∧ ∀ H', Kx [] H H' → Q .non H'
theorem ok_need_day (Y : Facts K mg base fa fd ca ta) : FnOk P w K mg base CX0 10 (fa "need_day") (fd "need_day") ["thing"] (sp_need_day ta) := by
  refine Y.d_need_day.ok sc_need_day (fun vs H Q E h => ?_) (fun cdv A outer s H vs Q E hcd hr h => ?_)
  · obtain ⟨v, d, rfl, _⟩ := h; rfl
  · obtain ⟨v, d, rfl, ht, hz, hT, hd, q⟩ := h
    refine ⟨_, (pss_one (ps_if (pt_not (pt_val (pe_call (ok_is_day Y) (hr.mono (by decide)) (by rfl) Y.d_is_day.g Y.d_is_day.kp Y.d_is_day.b .nil pass0 (pa_cons (pv 0) pa_nil)))) (pss_one ps_never) pss_nil)), ?_⟩
    refine ⟨v, rfl, v, d, rfl, ht, hz, hT, fun H' k => ⟨_, rfl, ?_⟩⟩
    rw [hd]
    exact iteF (q H' k)
/-! ### passes -/
def mayB (b : Blk) (h : Int) : Bool := decide (b.ready ≤ h) && (match b.due with | none => true | some u => decide (h ≤ u))
def sp_may : Sp := fun vs H Q _ => ∃ v b h, vs = [v, .int h] ∧ Tr [] H v (blkD b) ∧ Q (.bl (mayB b h)) H
theorem ok_may_be_sent (Y : Facts K mg base fa fd ca ta) : FnOk P w K mg base CX0 1 (fa "may_be_sent") (fd "may_be_sent") ["block", "hour"] sp_may := by
  refine Y.d_may_be_sent.ok sc_may_be_sent (fun vs H Q E h => ?_) (fun cdv A outer s H vs Q E hcd hr h => ?_)
  · obtain ⟨v, b, h, rfl, _⟩ := h; rfl
  · obtain ⟨v, b, hh, rfl, ht, q⟩ := h
    refine ⟨_, (pss_cons (ps_asg (pv 0) (pg_tupK (n := 5) K rfl rfl (pgs_cons (pg_name (i := 2) sc_may_be_sent.nd rfl (by first | exact Or.inl rfl | exact Or.inr rfl)) (pgs_cons (pg_name (i := 3) sc_may_be_sent.nd rfl (by first | exact Or.inl rfl | exact Or.inr rfl)) (pgs_cons (pg_name (i := 4) sc_may_be_sent.nd rfl (by first | exact Or.inl rfl | exact Or.inr rfl)) (pgs_cons (pg_name (i := 5) sc_may_be_sent.nd rfl (by first | exact Or.inl rfl | exact Or.inr rfl)) (pgs_cons (pg_name (i := 6) sc_may_be_sent.nd rfl (by first | exact Or.inl rfl | exact Or.inr rfl)) pgs_nil)))))))
      (pss_one (ps_ret (pe_and (pe_cmpR op_le (pv 4) (pv 1) (nomark _)) (pe_one (pe_or (pe_cmpR op_isN (pv 5) pe_non (nomark _)) (pe_one (pe_cmpR op_le (pv 1) (pv 5) (nomark _))))))))), ?_⟩
    obtain ⟨a, xs, rfl, ex, tx⟩ := ht.tupV
    obtain ⟨v1, v2, v3, v4, v5, rfl, t1, t2, t3, t4, t5⟩ := TrAll.five tx
    cases t3
    refine ⟨.ref a, rfl, a, _, rfl, SqT.of ex, rfl, v1, _, rfl, v2, _, rfl, _, _, rfl, v4, _, rfl, v5, _, rfl, rfl, ?_⟩
    refine ⟨_, rfl, .int hh, rfl, _, _, rfl, rfl, _, rfl, andV (b := match b.due with | none => true | some u => decide (hh ≤ u)) (R := fun b => Q (.bl b) H) q fun _ q => ?_⟩
    refine ⟨v4, rfl, rfl, _, rfl, ?_⟩
    rw [isNone_v t4]
    cases hd : b.due with
    | none =>
      rw [hd] at t4 q
      exact iteT q
    | some u =>
      rw [hd] at t4 q
      cases t4
      exact iteF ⟨.int hh, rfl, .int u, rfl, _, _, rfl, rfl, q⟩
structure Pass where
  hour : Int
  dish : Int
  craft : Int
  block : Int
def passD (p : Pass) : PyData := .tuple [.int p.hour, .int p.dish, .int p.craft, .int p.block]
def heardAt (D : Dy) (d h : Int) : List Int := (D.sights.getD d.toNat []).getD h.toNat []
def blkAt (D : Dy) (b : Int) : Blk := D.blocks.getD b.toNat ⟨0, 0, 0, none, 0⟩
def passT (D : Dy) (p : Pass) : Bool := isWh 0 (D.hours - 1) (.int p.hour) && (isWh 0 ((D.sights.length : Int) - 1) (.int p.dish) && (isWh 0 ((D.stores.length : Int) - 1) (.int p.craft) && (isWh 0 ((D.blocks.length : Int) - 1) (.int p.block) &&
  ((heardAt D p.dish p.hour).contains p.craft && (decide (p.craft = (blkAt D p.block).craft) && mayB (blkAt D p.block) p.hour)))))
def passB (D : Dy) : PyData → Bool
  | .tuple [a, b, c, d] => isWh 0 (D.hours - 1) a && (isWh 0 ((D.sights.length : Int) - 1) b && (isWh 0 ((D.stores.length : Int) - 1) c && (isWh 0 ((D.blocks.length : Int) - 1) d &&
    ((heardAt D (intOf b) (intOf a)).contains (intOf c) && (decide (intOf c = (blkAt D (intOf d)).craft) && mayB (blkAt D (intOf d)) (intOf a))))))
  | _ => false
theorem passB_D (D : Dy) (p : Pass) : passB D (passD p) = passT D p := rfl
theorem passB_of {D : Dy} {d : PyData} (h : passB D d = true) : ∃ p, d = passD p ∧ passT D p = true := by
  cases d with
  | tuple xs =>
    match xs, h with
    | [a, b, c, d], h =>
      have h0 := h
      obtain ⟨a1, h⟩ := and3 (show (isWh 0 (D.hours - 1) a && _) = true from h)
      obtain ⟨a2, h⟩ := and3 h
      obtain ⟨a3, h⟩ := and3 h
      obtain ⟨a4, _⟩ := and3 h
      obtain ⟨i, rfl, _⟩ := isWh_int a1
      obtain ⟨j, rfl, _⟩ := isWh_int a2
      obtain ⟨k, rfl, _⟩ := isWh_int a3
      obtain ⟨l, rfl, _⟩ := isWh_int a4
      exact ⟨⟨i, j, k, l⟩, rfl, h0⟩
  | _ => cases h
/-- an item of a list of trees, by a place within -/
theorem ixT {B : List Addr} {H : Hp} {v : V} {ds : List PyData} (t : Tr B H v (.list ds)) {i : Int} (h0 : 0 ≤ i) (h1 : i < (ds.length : Int)) : ∃ a xs x, v = .ref a ∧ H a = some (.lst xs) ∧ atI xs i = some x ∧ Tr B H x (ds.getD i.toNat .none) := by
  obtain ⟨a, xs, rfl, ex, tx⟩ := t.listV
  have hl : i.toNat < ds.length := by omega
  obtain ⟨x, e1, e2⟩ := tx.get' (List.getElem?_eq_getElem hl)
  have := atI_nat e1
  rw [show ((i.toNat : Nat) : Int) = i by omega] at this
  exact ⟨a, xs, x, rfl, ex, this, by rw [List.getD_eq_getElem?_getD, List.getElem?_eq_getElem hl]; exact e2⟩
theorem getD_map {α : Type} (f : α → PyData) (l : List α) (i : Nat) (d : α) (e : PyData) (h : i < l.length) : (l.map f).getD i e = f (l.getD i d) := by
  rw [List.getD_eq_getElem?_getD, List.getD_eq_getElem?_getD, List.getElem?_map, List.getElem?_eq_getElem h]
  rfl
theorem inV_ints (c : Int) (r : List Int) : inV (.int c) (r.map V.int) = r.contains c := by
  unfold inV
  rw [List.any_map, List.contains_eq_any_beq]
  congr 1
  funext x
  show (x == c) = (c == x)
  exact BEq.comm
theorem flat_ints (r : List Int) : (r.map V.int).all flatV = true := List.all_eq_true.mpr fun x hx => by
  obtain ⟨n, _, rfl⟩ := List.mem_map.mp hx
  rfl
theorem four_of {xs : List PyData} (h : (xs.length : Int) = 4) : ∃ a b c d, xs = [a, b, c, d] := by
  match xs, h with
  | [a, b, c, d], _ => exact ⟨a, b, c, d, rfl⟩
  | [], h => simp at h
  | [_], h => simp at h
  | [_, _], h => simp at h
  | [_, _, _], h => simp at h
  | _ :: _ :: _ :: _ :: _ :: r, h => simp at h; omega
theorem TrAll.four {B : List Addr} {H : Hp} {xs : List V} {a b c d : PyData} (h : TrAll B H xs [a, b, c, d]) : ∃ v1 v2 v3 v4, xs = [v1, v2, v3, v4] ∧ Tr B H v1 a ∧ Tr B H v2 b ∧ Tr B H v3 c ∧ Tr B H v4 d := by
  cases h with
  | cons h1 r => cases r with
    | cons h2 r => cases r with
      | cons h3 r => cases r with
        | cons h4 r => cases r; exact ⟨_, _, _, _, rfl, h1, h2, h3, h4⟩
theorem passB_tp {D : Dy} (d : PyData) (c : isTp 4 d = false) : passB D d = false := by
  cases d with
  | tuple xs =>
    match xs with
    | [a, b, c', d'] => cases c
    | [] => rfl
    | [_] => rfl
    | [_, _] => rfl
    | [_, _, _] => rfl
    | _ :: _ :: _ :: _ :: _ :: _ => rfl
  | _ => rfl
def sp_is_pass : Sp := fun vs H Q _ => ∃ dv D v d, vs = [dv, v] ∧ Tr [] H dv (dayD D) ∧ DyOk D ∧ Tr [] H v d ∧ Q (.bl (passB D d)) H
theorem ok__is_pass (Y : Facts K mg base fa fd ca ta) : FnOk P w K mg base CX0 3 (fa "_is_pass") (fd "_is_pass") ["day", "thing"] sp_is_pass := by
  refine Y.d__is_pass.ok sc__is_pass (fun vs H Q E h => ?_) (fun cdv A outer s H vs Q E hcd hr h => ?_)
  · obtain ⟨dv, D, v, d, rfl, _⟩ := h; rfl
  · obtain ⟨dv, D, v, d, rfl, hdt, hD, ht, q⟩ := h
    refine ⟨_, (pss_cons (ps_if (pt_not (pt_val (pe_call (ok_is_tuple Y) (hr.mono (by decide)) (by rfl) Y.d_is_tuple.g Y.d_is_tuple.kp Y.d_is_tuple.b .nil pass0 (pa_cons (pv 1) (pa_cons pe_int pa_nil))))) (pss_one (ps_ret pe_bl)) pss_nil)
      (pss_cons (ps_asg (pv 0) (pg_tupK (n := 5) K rfl rfl (pgs_cons (pg_name (i := 2) sc__is_pass.nd rfl (by first | exact Or.inl rfl | exact Or.inr rfl)) (pgs_cons (pg_name (i := 3) sc__is_pass.nd rfl (by first | exact Or.inl rfl | exact Or.inr rfl)) (pgs_cons (pg_name (i := 4) sc__is_pass.nd rfl (by first | exact Or.inl rfl | exact Or.inr rfl)) (pgs_cons (pg_name (i := 5) sc__is_pass.nd rfl (by first | exact Or.inl rfl | exact Or.inr rfl)) (pgs_cons (pg_name (i := 6) sc__is_pass.nd rfl (by first | exact Or.inl rfl | exact Or.inr rfl)) pgs_nil)))))))
      (pss_cons (ps_asg (pv 1) (pg_tupK (n := 4) K rfl rfl (pgs_cons (pg_name (i := 7) sc__is_pass.nd rfl (by first | exact Or.inl rfl | exact Or.inr rfl)) (pgs_cons (pg_name (i := 8) sc__is_pass.nd rfl (by first | exact Or.inl rfl | exact Or.inr rfl)) (pgs_cons (pg_name (i := 9) sc__is_pass.nd rfl (by first | exact Or.inl rfl | exact Or.inr rfl)) (pgs_cons (pg_name (i := 10) sc__is_pass.nd rfl (by first | exact Or.inl rfl | exact Or.inr rfl)) pgs_nil))))))
      (pss_one (ps_ret (pe_and (pe_call (ok_is_whole Y) (hr.mono (by decide)) (by rfl) Y.d_is_whole.g Y.d_is_whole.kp Y.d_is_whole.b .nil pass0 (pa_cons (pv 7) (pa_cons pe_int (pa_cons (pe_op op_sub (pv 2) pe_int) pa_nil)))) (pe_and (pe_call (ok_is_whole Y) (hr.mono (by decide)) (by rfl) Y.d_is_whole.g Y.d_is_whole.kp Y.d_is_whole.b .nil pass0 (pa_cons (pv 8) (pa_cons pe_int (pa_cons (pe_op op_sub (pe_callB (call_lenK K rfl) (by rfl) Y.b.len (by decide +kernel) (pa_cons (pv 4) pa_nil)) pe_int) pa_nil)))) (pe_and (pe_call (ok_is_whole Y) (hr.mono (by decide)) (by rfl) Y.d_is_whole.g Y.d_is_whole.kp Y.d_is_whole.b .nil pass0 (pa_cons (pv 9) (pa_cons pe_int (pa_cons (pe_op op_sub (pe_callB (call_lenK K rfl) (by rfl) Y.b.len (by decide +kernel) (pa_cons (pv 3) pa_nil)) pe_int) pa_nil)))) (pe_and (pe_call (ok_is_whole Y) (hr.mono (by decide)) (by rfl) Y.d_is_whole.g Y.d_is_whole.kp Y.d_is_whole.b .nil pass0 (pa_cons (pv 10) (pa_cons pe_int (pa_cons (pe_op op_sub (pe_callB (call_lenK K rfl) (by rfl) Y.b.len (by decide +kernel) (pa_cons (pv 6) pa_nil)) pe_int) pa_nil)))) (pe_and (pe_cmpR (op_inK K rfl) (pv 9) (pe_ix (ix_listK K rfl) (pe_ix (ix_listK K rfl) (pv 4) (pv 8) (fun _ _ => rfl)) (pv 7) (fun _ _ => rfl)) (by rfl)) (pe_and (pe_cmpR op_eq (pv 9) (pe_ix (ix_tupK K rfl) (pe_ix (ix_listK K rfl) (pv 6) (pv 10) (fun _ _ => rfl)) pe_int (fun _ _ => rfl)) (nomark _)) (pe_one (pe_call (ok_may_be_sent Y) (hr.mono (by decide)) (by rfl) Y.d_may_be_sent.g Y.d_may_be_sent.kp Y.d_may_be_sent.b .nil pass0 (pa_cons (pe_ix (ix_listK K rfl) (pv 6) (pv 10) (fun _ _ => rfl)) (pa_cons (pv 7) pa_nil))))))))))))))), ?_⟩
    refine ⟨v, rfl, v, d, 4, rfl, ht, _, rfl, ?_⟩
    cases c : isTp 4 d with
    | false =>
      rw [passB_tp d c] at q
      exact iteT q
    | true =>
    obtain ⟨ds, rfl, hl⟩ := isTp_tuple c
    obtain ⟨d1, d2, d3, d4, rfl⟩ := four_of hl
    obtain ⟨a, xs, rfl, ex, tx⟩ := ht.tupV
    obtain ⟨w1, w2, w3, w4, rfl, t1, t2, t3, t4⟩ := TrAll.four tx
    obtain ⟨da, dx, rfl, edx, tdx⟩ := hdt.tupV
    obtain ⟨y1, y2, y3, y4, y5, rfl, u1, u2, u3, u4, u5⟩ := TrAll.five tdx
    cases u1
    refine iteF ⟨.ref da, rfl, da, _, rfl, SqT.of edx, rfl, _, _, rfl, y2, _, rfl, y3, _, rfl, y4, _, rfl, y5, _, rfl, rfl, ?_⟩
    refine ⟨.ref a, rfl, a, _, rfl, SqT.of ex, rfl, w1, _, rfl, w2, _, rfl, w3, _, rfl, w4, _, rfl, rfl, ?_⟩
    obtain ⟨aS, xS, rfl, eS, tS⟩ := u2.listV
    obtain ⟨aI, xI, rfl, eI, tI⟩ := u3.listV
    obtain ⟨aB, xB, rfl, eB, tB⟩ := u5.listV
    have lS := tS.length
    have lI := tI.length
    have lB := tB.length
    rw [List.length_map] at lS lI lB
    refine ⟨w1, rfl, _, rfl, _, _, rfl, rfl, w1, d1, 0, D.hours - 1, rfl, t1, _, rfl, andV (R := fun b => Q (.bl b) H) q fun c1 q => ?_⟩
    refine ⟨w2, rfl, .ref aI, rfl, aI, xI, rfl, .inl (SqL.of eI), _, _, rfl, rfl, w2, d2, 0, (xI.length : Int) - 1, rfl, t2, _, rfl, ?_⟩
    rw [lI]
    refine andV (R := fun b => Q (.bl b) H) q fun c2 q => ?_
    refine ⟨w3, rfl, .ref aS, rfl, aS, xS, rfl, .inl (SqL.of eS), _, _, rfl, rfl, w3, d3, 0, (xS.length : Int) - 1, rfl, t3, _, rfl, ?_⟩
    rw [lS]
    refine andV (R := fun b => Q (.bl b) H) q fun c3 q => ?_
    refine ⟨w4, rfl, .ref aB, rfl, aB, xB, rfl, .inl (SqL.of eB), _, _, rfl, rfl, w4, d4, 0, (xB.length : Int) - 1, rfl, t4, _, rfl, ?_⟩
    rw [lB]
    refine andV (R := fun b => Q (.bl b) H) q fun c4 q => ?_
    obtain ⟨i, rfl, i0, i1⟩ := isWh_int c1
    obtain ⟨j, rfl, j0, j1⟩ := isWh_int c2
    obtain ⟨k, rfl, k0, k1⟩ := isWh_int c3
    obtain ⟨l, rfl, l0, l1⟩ := isWh_int c4
    cases t1
    cases t2
    cases t3
    cases t4
    have q : Q (.bl ((heardAt D j i).contains k && (decide (k = (blkAt D l).craft) && mayB (blkAt D l) i))) H := q
    -- the row
    obtain ⟨_, xI', g, e, eI', at1, tg⟩ := ixT u3 j0 (by rw [List.length_map]; omega)
    cases e
    rw [getD_map sightD D.sights j.toNat [] _ (by omega)] at tg
    have sm : D.sights.getD j.toNat [] ∈ D.sights := by
      rw [List.getD_eq_getElem?_getD, List.getElem?_eq_getElem (by omega)]
      exact List.getElem_mem _
    have sl := hD.gl _ sm
    obtain ⟨gA, gx, r, rfl, eg, at2, tr⟩ := ixT tg i0 (by rw [List.length_map]; omega)
    rw [getD_map rowD _ i.toNat [] _ (by omega)] at tr
    obtain ⟨rA, rx, rfl, er, trx⟩ := tr.listV
    have erx := TrAll.intsV trx (by rw [ints_back])
    rw [ints_back] at erx
    rw [erx] at er
    refine ⟨.int k, rfl, .ref aI, rfl, .int j, rfl, aI, xI', j, .ref gA, rfl, rfl, SqL.of eI', at1, .int i, rfl, gA, gx, i, .ref rA, rfl, rfl, SqL.of eg, at2, rA, _, rfl, .inl (SqL.of er), rfl, flat_ints _, ?_⟩
    rw [if_neg (by decide), inV_ints]
    refine ⟨_, rfl, andV (R := fun b => Q (.bl b) H) q fun _ q => ?_⟩
    -- the block
    obtain ⟨_, xB', bv, e, eB', at3, tb⟩ := ixT u5 l0 (by rw [List.length_map]; omega)
    cases e
    rw [getD_map blkD D.blocks l.toNat ⟨0, 0, 0, none, 0⟩ _ (by omega)] at tb
    have tb0 := tb
    obtain ⟨bA, bx, rfl, eb, tbx⟩ := tb.tupV
    obtain ⟨b1, b2, b3, b4, b5, rfl, f1, f2, f3, f4, f5⟩ := TrAll.five tbx
    cases f2
    refine ⟨.int k, rfl, .ref aB, rfl, .int l, rfl, aB, xB', l, .ref bA, rfl, rfl, SqL.of eB', at3, bA, _, 1, _, rfl, rfl, SqT.of eb, rfl, rfl, _, rfl, ?_⟩
    have ec : decide (V.int k = V.int (blkAt D l).craft) = decide (k = (blkAt D l).craft) := by
      by_cases z : k = (blkAt D l).craft
      · rw [decide_eq_true z, z, decide_eq_true rfl]
      · rw [decide_eq_false z, decide_eq_false fun y => z (V.int.inj y)]
    show if decide (V.int k = V.int (blkAt D l).craft) = true then _ else _
    rw [ec]
    refine andV (R := fun b => Q (.bl b) H) q fun _ q => ?_
    exact ⟨.ref aB, rfl, .int l, rfl, aB, xB', l, .ref bA, rfl, rfl, SqL.of eB', at3, .int i, rfl, .ref bA, blkAt D l, i, rfl, tb0, q⟩
/-! ### what is kept aboard -/
def keeps (D : Dy) (c h : Int) (p : Pass) : Bool := decide (p.craft = c) && ((blkAt D p.block).due.isNone && (decide ((blkAt D p.block).ready ≤ h) && decide (h < p.hour)))
def keptL (D : Dy) (ps : List Pass) (c h : Int) : List Int := (ps.filter (keeps D c h)).map Pass.block
theorem keptL_step (D : Dy) (ps : List Pass) (c h : Int) (i : Nat) (hi : i < ps.length) : keptL D (ps.take (i + 1)) c h = keptL D (ps.take i) c h ++ (if keeps D c h ps[i] = true then [ps[i].block] else []) := by
  unfold keptL
  rw [List.take_add_one, List.getElem?_eq_getElem hi, List.filter_append, List.map_append]
  cases hk : keeps D c h ps[i] <;> simp [hk]
theorem eqV_int (a b : Int) : decide (V.int a = V.int b) = decide (a = b) := by
  by_cases z : a = b
  · rw [decide_eq_true z, z, decide_eq_true rfl]
  · rw [decide_eq_false z, decide_eq_false fun y => z (V.int.inj y)]
def sp_kept_over : Sp := fun vs H Q _ => ∃ (dv : V) (D : Dy) (pa : Addr) (ps : List Pass) (c h : Int), vs = [dv, .ref pa, .int c, .int h] ∧ Tr [] H dv (dayD D) ∧ Tr [] H (.ref pa) (.list (ps.map passD)) ∧ ps.length < 64 ∧ (∀ p ∈ ps, 0 ≤ p.block ∧ p.block < (D.blocks.length : Int)) ∧
  ∀ (F : Addr) (ns : List Int) (H' : Hp), Kx [] H H' → H F = none → H' F = some (.lst (ns.map V.int)) → ns.Perm (keptL D ps c h) → ns.Pairwise (· ≤ ·) → Q (.ref F) H'
theorem ok_kept_over (Y : Facts K mg base fa fd ca ta) : FnOk P w K mg base CX0 1 (fa "kept_over") (fd "kept_over") ["day", "passes", "craft", "hour"] sp_kept_over := by
  refine Y.d_kept_over.ok sc_kept_over (fun vs H Q E h => ?_) (fun cdv A outer s H vs Q E hcd hr h => ?_)
  · obtain ⟨dv, D, pa, ps, c, h, rfl, _⟩ := h; rfl
  · obtain ⟨dv, D, pa, ps, c, h, rfl, hdt, hpt, hl, hb, q⟩ := h
    refine ⟨_, (pss_cons (ps_asg (pv 0) (pg_tupK (n := 5) K rfl rfl (pgs_cons (pg_name (i := 4) sc_kept_over.nd rfl (by first | exact Or.inl rfl | exact Or.inr rfl)) (pgs_cons (pg_name (i := 5) sc_kept_over.nd rfl (by first | exact Or.inl rfl | exact Or.inr rfl)) (pgs_cons (pg_name (i := 6) sc_kept_over.nd rfl (by first | exact Or.inl rfl | exact Or.inr rfl)) (pgs_cons (pg_name (i := 7) sc_kept_over.nd rfl (by first | exact Or.inl rfl | exact Or.inr rfl)) (pgs_cons (pg_name (i := 8) sc_kept_over.nd rfl (by first | exact Or.inl rfl | exact Or.inr rfl)) pgs_nil)))))))
      (pss_cons (ps_set (i := 9) sc_kept_over.nd rfl (by first | exact Or.inl rfl | exact Or.inr rfl) (pe_lst pa_nil))
      (pss_cons (ps_for PassesOwn.never rfl (pi_listK K rfl (pv 1)) (pg_tupK (n := 4) K rfl rfl (pgs_cons (pg_name (i := 10) sc_kept_over.nd rfl (by first | exact Or.inl rfl | exact Or.inr rfl)) (pgs_cons (pg_name (i := 11) sc_kept_over.nd rfl (by first | exact Or.inl rfl | exact Or.inr rfl)) (pgs_cons (pg_name (i := 12) sc_kept_over.nd rfl (by first | exact Or.inl rfl | exact Or.inr rfl)) (pgs_cons (pg_name (i := 13) sc_kept_over.nd rfl (by first | exact Or.inl rfl | exact Or.inr rfl)) pgs_nil))))) (pss_cons (ps_asg (pe_ix (ix_listK K rfl) (pv 8) (pv 13) (fun _ _ => rfl)) (pg_tupK (n := 5) K rfl rfl (pgs_cons (pg_name (i := 14) sc_kept_over.nd rfl (by first | exact Or.inl rfl | exact Or.inr rfl)) (pgs_cons (pg_name (i := 15) sc_kept_over.nd rfl (by first | exact Or.inl rfl | exact Or.inr rfl)) (pgs_cons (pg_name (i := 16) sc_kept_over.nd rfl (by first | exact Or.inl rfl | exact Or.inr rfl)) (pgs_cons (pg_name (i := 17) sc_kept_over.nd rfl (by first | exact Or.inl rfl | exact Or.inr rfl)) (pgs_cons (pg_name (i := 18) sc_kept_over.nd rfl (by first | exact Or.inl rfl | exact Or.inr rfl)) pgs_nil)))))))
      (pss_one (ps_if ((pw_and (pt_cmpR op_eq (pv 12) (pv 2) (nomark _)) (pw_and (pt_cmpR op_isN (pv 17) pe_non (nomark _)) (pw_and1 (pt_chain op_le op_lt (pv 16) (pv 3) (pv 10)))))).pt (pss_one (ps_expr (pe_bm PySem.F.plainAttrs_list PySem.F.slot_list_append PySem.F.type_list_append mt_append (pv 9) (pa_cons (pv 13) pa_nil)))) pss_nil))))
      (pss_one (ps_ret (pe_callB cr_sortedI (by rfl) Y.b.sorted (by decide +kernel) (pa_cons (pv 9) pa_nil))))))), ?_⟩
    obtain ⟨da, dx, rfl, edx, tdx⟩ := hdt.tupV
    obtain ⟨y1, y2, y3, y4, y5, rfl, u1, u2, u3, u4, u5⟩ := TrAll.five tdx
    obtain ⟨aB, xB, rfl, eB, tB⟩ := u5.listV
    refine ⟨.ref da, rfl, da, _, rfl, SqT.of edx, rfl, y1, _, rfl, y2, _, rfl, y3, _, rfl, y4, _, rfl, .ref aB, _, rfl, rfl, ?_⟩
    refine ⟨len_ok, fun F hF => ?_⟩
    generalize hq : upd H F _ = H1
    obtain ⟨k1, e1⟩ := new_at hF hq
    clear hq
    refine st_name ?_
    dsimp only
    refine st_seq (st_for ?_)
    obtain ⟨xp, ep, tp⟩ := hpt.items
    have lp := tp.length
    rw [List.length_map] at lp
    have ep1 := k1.lst (by simp) ep
    have nF : pa ∉ [F] := fun z => by
      rw [List.mem_singleton.mp z, hF] at ep
      cases ep
    have pB : ∀ {H'}, Kx [F] H1 H' → ∀ {b : Addr} {o : HO}, H b = some o → (∀ ps, o ≠ .tbl ps) → H' b = some o := fun k b o e ht => k.at (fun z => by rw [List.mem_singleton.mp z, hF] at e; cases e) (k1.at (by simp) e ht) ht
    refine ⟨.ref pa, rfl, pa, rfl, ⟨xp, SqL.of ep1⟩, ?_⟩
    refine for_gen (itl_at ep1 nF) (Iv := fun i σ' H' => (∃ z1 z2 z3 z4 z5 z6 z7 z8 z9, σ' = [some (.ref da), some (.ref pa), some (.int c), some (.int h), some y1, some y2, some y3, some y4, some (.ref aB), some (.ref F), z1, z2, z3, z4, z5, z6, z7, z8, z9]) ∧ H' F = some (.lst ((keptL D (ps.take i) c h).map V.int)))
      ⟨⟨_, _, _, _, _, _, _, _, _, rfl⟩, by simpa [keptL] using e1⟩ (fun i σ' H2 hi k2 ⟨⟨z1, z2, z3, z4, z5, z6, z7, z8, z9, e⟩, eF⟩ Nn hN => ?_) fun σ' H2 k2 ⟨⟨z1, z2, z3, z4, z5, z6, z7, z8, z9, e⟩, eF⟩ => ?_
    · subst e
      have hi' : i < ps.length := by omega
      obtain ⟨x, ex, tx⟩ := tp.get' (i := i) (d := passD ps[i]) (by rw [List.getElem?_map, List.getElem?_eq_getElem hi']; rfl)
      have eg : xp.getD i .non = x := by rw [List.getD_eq_getElem?_getD, ex]; rfl
      rw [eg]
      obtain ⟨at_, ax, rfl, eat, tax⟩ := tx.tupV
      obtain ⟨w1, w2, w3, w4, rfl, t1, t2, t3, t4⟩ := TrAll.four tax
      cases t1
      cases t2
      cases t3
      cases t4
      have step := keptL_step D ps c h i hi'
      have hbk := hb ps[i] (List.getElem_mem hi')
      generalize ps[i] = p at step hbk eat ⊢
      refine ⟨at_, _, rfl, SqT.of (pB k2 eat fun _ z => by cases z), rfl, _, _, rfl, _, _, rfl, _, _, rfl, _, _, rfl, rfl, ?_⟩
      obtain ⟨_, xB', bv, e, eB', a3, tb⟩ := ixT u5 hbk.1 (by rw [List.length_map]; exact hbk.2)
      cases e
      rw [getD_map blkD D.blocks p.block.toNat ⟨0, 0, 0, none, 0⟩ _ (by omega)] at tb
      obtain ⟨bA, bx, rfl, eb, tbx⟩ := tb.tupV
      obtain ⟨b1, b2, b3, b4, b5, rfl, f1, f2, f3, f4, f5⟩ := TrAll.five tbx
      cases f3
      refine ⟨.ref aB, rfl, .int p.block, rfl, aB, xB', p.block, .ref bA, rfl, rfl, SqL.of (pB k2 eB' fun _ z => by cases z), a3, bA, _, rfl, SqT.of (pB k2 eb fun _ z => by cases z), rfl, b1, _, rfl, b2, _, rfl, _, _, rfl, b4, _, rfl, b5, _, rfl, rfl, ?_⟩
      have no : keeps D c h p = false → H2 F = some (.lst ((keptL D (ps.take (i + 1)) c h).map V.int)) := fun z => by
        rw [step, z, if_neg (by decide), List.append_nil]
        exact eF
      have kd : keeps D c h p = (decide (p.craft = c) && ((blkAt D p.block).due.isNone && (decide ((blkAt D p.block).ready ≤ h) && decide (h < p.hour)))) := rfl
      refine ⟨.int p.craft, rfl, .int c, rfl, rfl, _, rfl, ?_⟩
      rw [eqV_int]
      cases c1 : decide (p.craft = c) with
      | false => exact iteF (hN _ _ k2 ⟨⟨_, _, _, _, _, _, _, _, _, rfl⟩, no (by rw [kd, c1]; rfl)⟩)
      | true =>
      refine iteT ⟨b4, rfl, rfl, _, rfl, ?_⟩
      have c2 : decide (b4 = V.non) = (blkAt D p.block).due.isNone := by
        rw [isNone_v f4]
        show isNone (optD (blkAt D p.block).due) = _
        cases (blkAt D p.block).due <;> rfl
      rw [c2]
      cases c3 : (blkAt D p.block).due.isNone with
      | false => exact iteF (hN _ _ k2 ⟨⟨_, _, _, _, _, _, _, _, _, rfl⟩, no (by rw [kd, c1, c3]; rfl)⟩)
      | true =>
      refine iteT ⟨_, rfl, .int h, rfl, _, _, rfl, rfl, _, rfl, ?_⟩
      show if decide ((blkAt D p.block).ready ≤ h) = true then _ else _
      cases c4 : decide ((blkAt D p.block).ready ≤ h) with
      | false => exact iteF ⟨_, rfl, iteF (hN _ _ k2 ⟨⟨_, _, _, _, _, _, _, _, _, rfl⟩, no (by rw [kd, c1, c3, c4]; rfl)⟩)⟩
      | true =>
      refine iteT ⟨.int p.hour, rfl, _, _, rfl, rfl, _, rfl, ?_⟩
      cases c5 : decide (h < p.hour) with
      | false => exact iteF (hN _ _ k2 ⟨⟨_, _, _, _, _, _, _, _, _, rfl⟩, no (by rw [kd, c1, c3, c4, c5]; rfl)⟩)
      | true =>
      refine iteT ⟨.ref F, rfl, .inl ⟨rfl, _, SqL.of eF⟩, .int p.block, rfl, F, _, _, rfl, rfl, eF, ?_, ?_⟩
      · have h1 : (keptL D (ps.take i) c h).length ≤ (ps.take i).length := by
          unfold keptL
          rw [List.length_map]
          exact List.length_filter_le _ _
        have h2 := List.length_take_le i ps
        unfold sizeLine
        rw [List.length_map]
        omega
      · refine hN _ _ (k2.trans (Kx.put (by simp))) ⟨⟨_, _, _, _, _, _, _, _, _, rfl⟩, ?_⟩
        have ky : keeps D c h p = true := by rw [kd, c1, c3, c4, c5]; rfl
        rw [upd_same, step, ky, if_pos rfl, List.map_append]
        rfl
    · subst e
      rw [lp, List.take_length] at eF
      dsimp only
      refine ⟨.ref F, rfl, F, _, rfl, SqL.of eF, fun ns' p2 perm up hp2 => ?_⟩
      have k02 : Kx [] H H2 := Kx.weak (k1.of.trans k2) fun b hb => .inr (by rw [List.mem_singleton.mp hb]; exact hF)
      have k03 := k02.trans (Kx.new (o := .lst (ns'.map V.int)) hp2)
      exact q p2 ns' _ k03 (k02.free (by simp) hp2) upd_same perm up
end
end Law

set_option Elab.async false
set_option linter.all false
set_option maxRecDepth 100000
set_option maxHeartbeats 4000000
namespace Law
open PySem PySem.Spec PyProof.Rows L2 GxR GX Tree Kit Data Loops Comps Purse Day SetG SetL
section
variable {P : Program} {w : World} {K : PySem.W.Frag} {mg : Str → Option Value} {base : Heap} {fa : String → Addr} {fd : String → FuncData} {ca ta : String → Addr}
/-! ### no two alike -/
theorem range_getD {α β : Type} (f : α → β) (l : List α) (d : α) : (List.range l.length).map (fun i => f (l.getD i d)) = l.map f := by
  refine List.ext_getElem (by simp) fun i h1 h2 => ?_
  have hi : i < l.length := by simpa using h2
  rw [List.getElem_map, List.getElem_map, List.getElem_range, List.getD_eq_getElem?_getD, List.getElem?_eq_getElem hi]
  rfl
def p0 : Pass := ⟨0, 0, 0, 0⟩
def clashB (ps : List Pass) : Bool := decide ((ps.map fun p => [p.hour, p.dish]).Nodup) && (decide ((ps.map fun p => [p.hour, p.craft]).Nodup) && decide ((ps.map fun p => p.block).Nodup))
theorem st_setG {n0 : Addr → HO} {r : PutW} {wi : TI} {g : TG} {tt : TT} {te : TE} {vs : List Nat} {σ : L2.St} {H : Hp} {Q : VK} (h : wi σ H fun J H1 => SetG.SetG n0 r J g tt te vs σ H1 Q) : tSetG n0 r wi g tt te vs σ H Q := h
theorem st_cb {r : List V → Hp → VK → Prop} {t : TA} {σ : L2.St} {H : Hp} {Q : VK} (h : t σ H fun vs H1 => r vs H1 Q) : tCB r t σ H Q := h
theorem st_andv {ta tb : TE} {σ : L2.St} {H : Hp} {Q : VK} (h : ta σ H fun x H1 => ∃ c, x = .bl c ∧ if c = true then tb σ H1 Q else Q (.bl false) H1) : tAndV ta tb σ H Q := h
/-- a pass of the list, its parts -/
theorem pass_at {H : Hp} {xp : List V} {ps : List Pass} (tp : TrAll [] H xp (ps.map passD)) {i : Nat} (hi : i < ps.length) : ∃ at_, xp.getD i .non = .ref at_ ∧ H at_ = some (.tup [.int (ps.getD i p0).hour, .int (ps.getD i p0).dish, .int (ps.getD i p0).craft, .int (ps.getD i p0).block]) := by
  obtain ⟨x, ex, tx⟩ := tp.get' (i := i) (d := passD ps[i]) (by rw [List.getElem?_map, List.getElem?_eq_getElem hi]; rfl)
  obtain ⟨at_, ax, rfl, eat, tax⟩ := tx.tupV
  obtain ⟨w1, w2, w3, w4, rfl, t1, t2, t3, t4⟩ := TrAll.four tax
  cases t1
  cases t2
  cases t3
  cases t4
  refine ⟨at_, by rw [List.getD_eq_getElem?_getD, ex]; rfl, ?_⟩
  rw [getD_at ps p0 hi]
  exact eat
def sp_clash : Sp := fun vs H Q _ => ∃ (pa : Addr) (ps : List Pass), vs = [.ref pa] ∧ Tr [] H (.ref pa) (.list (ps.map passD)) ∧ ps.length < 64 ∧ ∀ H', Kx [] H H' → Q (.bl (clashB ps)) H'
theorem ok__clash_nowhere (Y : Facts K mg base fa fd ca ta) : FnOk P w K mg base CX0 1 (fa "_clash_nowhere") (fd "_clash_nowhere") ["passes"] sp_clash := by
  refine Y.d__clash_nowhere.ok sc__clash_nowhere (fun vs H Q E h => ?_) (fun cdv A outer s H vs Q E hcd hr h => ?_)
  · obtain ⟨pa, ps, rfl, _⟩ := h; rfl
  · obtain ⟨pa, ps, rfl, hpt, hl, q⟩ := h
    refine ⟨_, (pss_cons (ps_set (i := 1) sc__clash_nowhere.nd rfl (by first | exact Or.inl rfl | exact Or.inr rfl) (pe_callB (call_lenK K rfl) (by rfl) Y.b.len (by decide +kernel) (pa_cons (pv 0) pa_nil)))
      (pss_one (ps_ret (pe_and (pe_cmpR op_eq (pe_callB (call_lenT P w rfl rfl) (by rfl) Y.b.len (by decide +kernel) (pa_cons (pe_setG (r := rPutT K P w) (own := [("hour", 2), ("dish", 3), ("craft", 4), ("block", 5)]) (tt := tYes) rfl (new_tup P w rfl rfl) sc__clash_nowhere.nd (pi_listK K rfl (pv 0)) (blkOk_by (N := ["passes", "many", "hour", "dish", "craft", "block"]) (sc := defScope s__clash_nowhere) (by decide +kernel)) (fun _ _ _ _ _ => (pg_tupK (n := 4) K rfl rfl (pgs_cons (pg_name (i := 2) sc__clash_nowhere.nd rfl (by first | exact Or.inl rfl | exact Or.inr rfl)) (pgs_cons (pg_name (i := 3) sc__clash_nowhere.nd rfl (by first | exact Or.inl rfl | exact Or.inr rfl)) (pgs_cons (pg_name (i := 4) sc__clash_nowhere.nd rfl (by first | exact Or.inl rfl | exact Or.inr rfl)) (pgs_cons (pg_name (i := 5) sc__clash_nowhere.nd rfl (by first | exact Or.inl rfl | exact Or.inr rfl)) pgs_nil)))))) (fun _ _ _ _ _ => pts_nil) (fun _ _ _ _ _ => (pe_tup (pa_cons (pv 2) (pa_cons (pv 3) pa_nil)))) (fun _ _ _ _ _ => (put_tup K P w rfl rfl rfl hr.units))) pa_nil)) (pv 1) (nomark _)) (pe_and (pe_cmpR op_eq (pe_callB (call_lenT P w rfl rfl) (by rfl) Y.b.len (by decide +kernel) (pa_cons (pe_setG (r := rPutT K P w) (own := [("hour", 2), ("dish", 3), ("craft", 4), ("block", 5)]) (tt := tYes) rfl (new_tup P w rfl rfl) sc__clash_nowhere.nd (pi_listK K rfl (pv 0)) (blkOk_by (N := ["passes", "many", "hour", "dish", "craft", "block"]) (sc := defScope s__clash_nowhere) (by decide +kernel)) (fun _ _ _ _ _ => (pg_tupK (n := 4) K rfl rfl (pgs_cons (pg_name (i := 2) sc__clash_nowhere.nd rfl (by first | exact Or.inl rfl | exact Or.inr rfl)) (pgs_cons (pg_name (i := 3) sc__clash_nowhere.nd rfl (by first | exact Or.inl rfl | exact Or.inr rfl)) (pgs_cons (pg_name (i := 4) sc__clash_nowhere.nd rfl (by first | exact Or.inl rfl | exact Or.inr rfl)) (pgs_cons (pg_name (i := 5) sc__clash_nowhere.nd rfl (by first | exact Or.inl rfl | exact Or.inr rfl)) pgs_nil)))))) (fun _ _ _ _ _ => pts_nil) (fun _ _ _ _ _ => (pe_tup (pa_cons (pv 2) (pa_cons (pv 4) pa_nil)))) (fun _ _ _ _ _ => (put_tup K P w rfl rfl rfl hr.units))) pa_nil)) (pv 1) (nomark _)) (pe_one (pe_cmpR op_eq (pe_callB (call_lenI w rfl) (by rfl) Y.b.len (by decide +kernel) (pa_cons (pe_setG (r := rPutI w) (own := [("hour", 2), ("dish", 3), ("craft", 4), ("block", 5)]) (tt := tYes) rfl (new_int w rfl) sc__clash_nowhere.nd (pi_listK K rfl (pv 0)) (blkOk_by (N := ["passes", "many", "hour", "dish", "craft", "block"]) (sc := defScope s__clash_nowhere) (by decide +kernel)) (fun _ _ _ _ _ => (pg_tupK (n := 4) K rfl rfl (pgs_cons (pg_name (i := 2) sc__clash_nowhere.nd rfl (by first | exact Or.inl rfl | exact Or.inr rfl)) (pgs_cons (pg_name (i := 3) sc__clash_nowhere.nd rfl (by first | exact Or.inl rfl | exact Or.inr rfl)) (pgs_cons (pg_name (i := 4) sc__clash_nowhere.nd rfl (by first | exact Or.inl rfl | exact Or.inr rfl)) (pgs_cons (pg_name (i := 5) sc__clash_nowhere.nd rfl (by first | exact Or.inl rfl | exact Or.inr rfl)) pgs_nil)))))) (fun _ _ _ _ _ => pts_nil) (fun _ _ _ _ _ => (pv 5)) (fun _ _ _ _ _ => (put_int w rfl))) pa_nil)) (pv 1) (nomark _)))))))), ?_⟩
    obtain ⟨xp, ep, tp⟩ := hpt.items
    have lp := tp.length
    rw [List.length_map] at lp
    refine ⟨.ref pa, rfl, pa, xp, rfl, .inl (SqL.of ep), ?_⟩
    refine st_name ?_
    dsimp only
    refine st_ret (st_andv (st_op (st_cb (st_cons (st_setG ?_)))))
    refine ⟨.ref pa, rfl, pa, rfl, ⟨xp, SqL.of ep⟩, ?_⟩
    refine len_tups (itl_at (B := []) ep (by simp)) (fun i => [(ps.getD i p0).hour, (ps.getD i p0).dish]) (by omega) (fun i H' hi k R R0 hR => ?_) fun D L H1 k1 eD cnt => ?_
    · obtain ⟨at_, e, eat⟩ := pass_at tp (show i < ps.length by omega)
      rw [e]
      refine ⟨at_, _, rfl, SqT.of (k.tup (by simp) eat), rfl, _, _, rfl, _, _, rfl, _, _, rfl, _, _, rfl, rfl, rfl, st_yes ?_⟩
      exact ⟨_, rfl, _, rfl, len_ok, fun x hx => hR x _ (Kx.new hx) upd_same⟩
    refine ⟨D, L, rfl, eD, _, rfl, rfl, _, rfl, ?_⟩
    have e1 : decide (V.int (L.length : Int) = V.int (xp.length : Int)) = decide ((ps.map fun p => [p.hour, p.dish]).Nodup) := by
      rw [eqV_int]
      refine decide_eq_decide.mpr ?_
      rw [lp, range_getD (fun p : Pass => [p.hour, p.dish]) ps p0] at cnt
      rw [← cnt, lp]
      omega
    rw [e1]
    have q1 := q H1 k1
    unfold clashB at q1
    refine andV (R := fun b => Q (.bl b) H1) q1 fun c1 _ => ?_
    refine st_andv (st_op (st_cb (st_cons (st_setG ?_))))
    have ep1 := k1.lst (by simp) ep
    refine ⟨.ref pa, rfl, pa, rfl, ⟨xp, SqL.of ep1⟩, ?_⟩
    refine len_tups (itl_at (B := []) ep1 (by simp)) (fun i => [(ps.getD i p0).hour, (ps.getD i p0).craft]) (by omega) (fun i H' hi k R R0 hR => ?_) fun D2 L2 H2 k2 eD2 cnt2 => ?_
    · obtain ⟨at_, e, eat⟩ := pass_at tp (show i < ps.length by omega)
      rw [e]
      refine ⟨at_, _, rfl, SqT.of ((k1.trans k).tup (by simp) eat), rfl, _, _, rfl, _, _, rfl, _, _, rfl, _, _, rfl, rfl, rfl, st_yes ?_⟩
      exact ⟨_, rfl, _, rfl, len_ok, fun x hx => hR x _ (Kx.new hx) upd_same⟩
    refine ⟨D2, L2, rfl, eD2, _, rfl, rfl, _, rfl, ?_⟩
    have e2 : decide (V.int (L2.length : Int) = V.int (xp.length : Int)) = decide ((ps.map fun p => [p.hour, p.craft]).Nodup) := by
      rw [eqV_int]
      refine decide_eq_decide.mpr ?_
      rw [lp, range_getD (fun p : Pass => [p.hour, p.craft]) ps p0] at cnt2
      rw [← cnt2, lp]
      omega
    rw [e2]
    have k12 := k1.trans k2
    have q2 := q H2 k12
    unfold clashB at q2
    rw [c1, Bool.true_and] at q2
    refine andV (R := fun b => Q (.bl b) H2) q2 fun c2 _ => ?_
    refine st_op (st_cb (st_cons (st_setG ?_)))
    have ep2 := k12.lst (by simp) ep
    refine ⟨.ref pa, rfl, pa, rfl, ⟨xp, SqL.of ep2⟩, ?_⟩
    refine len_ints (itl_at (B := []) ep2 (by simp)) (fun i => (ps.getD i p0).block) (by omega) (fun i H' hi k R R0 hR => ?_) fun D3 S3 n3 H3 k3 eD3 cnt3 => ?_
    · obtain ⟨at_, e, eat⟩ := pass_at tp (show i < ps.length by omega)
      rw [e]
      refine ⟨at_, _, rfl, SqT.of ((k12.trans k).tup (by simp) eat), rfl, _, _, rfl, _, _, rfl, _, _, rfl, _, _, rfl, rfl, rfl, st_yes ?_⟩
      exact ⟨_, rfl, hR _ (Kx.refl _)⟩
    refine ⟨D3, S3, n3, rfl, eD3, _, rfl, rfl, ?_⟩
    have e3 : decide (V.int (n3 : Int) = V.int (xp.length : Int)) = decide ((ps.map fun p => p.block).Nodup) := by
      rw [eqV_int]
      refine decide_eq_decide.mpr ?_
      rw [lp, range_getD (fun p : Pass => p.block) ps p0] at cnt3
      rw [← cnt3, lp]
      omega
    have q3 := q H3 (k12.trans k3)
    unfold clashB at q3
    rw [c1, c2, Bool.true_and, Bool.true_and, ← e3] at q3
    exact q3
/-! ### rising passes -/
theorem op_ltTK {X : Cx} (K : PySem.W.Frag) (h : X.K = K) (hu : X.A.units < cLine) : OpR X (compareOp .Lt) (rLtT K) := h ▸ op_ltT hu
def passI (p : Pass) : List Int := [p.hour, p.dish, p.craft, p.block]
def risesP (ps : List Pass) : Bool := (List.range (ps.length - 1)).all fun i => HT.lexLt (passI (ps.getD i p0)) (passI (ps.getD (i + 1) p0))
def sp_risesT (ta : String → Addr) : Sp := fun vs H Q _ => ∃ (pa : Addr) (ps : List Pass), vs = [.ref pa] ∧ Tr [] H (.ref pa) (.list (ps.map passD)) ∧ ps.length ≤ 100000 ∧ Tb (Ts ta) H ∧ ∀ H', Kx [] H H' → Q (.bl (risesP ps)) H'
theorem ok_risesT (Y : Facts K mg base fa fd ca ta) : FnOk P w K mg base CX0 2 (fa "rises") (fd "rises") ["things"] (sp_risesT ta) := by
  refine Y.d_rises.ok sc_rises (fun vs H Q E h => ?_) (fun cdv A outer s H vs Q E hcd hr h => ?_)
  · obtain ⟨a, ns, rfl, _⟩ := h; rfl
  · obtain ⟨a, ps, rfl, ht, hz, hT, q⟩ := h
    refine ⟨_, (pss_one (ps_ret (pe_allG (own := [("at", 1)]) (g := gName 1) (tt := tYes) (hr.mono (by decide)) rfl sc_rises.nd (by rfl) Y.b.all Y.t_rises.tb (hcd.symm.trans Y.t_rises.code) (gok_by (N := ["things", "at"]) (sc := defScope s_rises) (by decide +kernel)) (pi_range1 (by rfl) Y.b.range (pa_cons (pe_op op_sub (pe_callB (call_lenK K rfl) (by rfl) Y.b.len (by decide +kernel) (pa_cons (pv 0) pa_nil)) pe_int) pa_nil)) (fun _ _ _ _ _ _ _ => (pg_name (i := 1) sc_rises.nd rfl (by first | exact Or.inl rfl | exact Or.inr rfl))) (fun _ _ _ _ _ _ _ => pts_nil) (fun _ _ _ _ _ _ _ => (pe_cmpR (op_ltTK K rfl (room_gen (k := 0) (hr.mono (by decide)) _).units0) (pe_ix (ix_listK K rfl) (pv 0) (pv 1) (fun _ _ => rfl)) (pe_ix (ix_listK K rfl) (pv 0) (pe_op op_add (pv 1) pe_int) (fun _ _ => rfl)) (nomark _)))))), ?_⟩
    obtain ⟨xp, ep, tp⟩ := ht.items
    have lp := tp.length
    rw [List.length_map] at lp
    refine ⟨_, rfl, a, xp, rfl, .inl (SqL.of ep), _, _, rfl, rfl, (ps.length : Int) - 1, by rw [lp], ?_, ?_, ?_⟩
    · omega
    · omega
    · rw [show ((ps.length : Int) - 1).toNat = ps.length - 1 by omega]
      refine all_range (p := fun i => HT.lexLt (passI (ps.getD i p0)) (passI (ps.getD (i + 1) p0))) (tab_rises hT) (fun i H' hi k R hR => ?_) q
      have ep' := k.lst (by simp) ep
      obtain ⟨x1, e1, f1⟩ := pass_at tp (show i < ps.length by omega)
      obtain ⟨x2, e2, f2⟩ := pass_at tp (show i + 1 < ps.length by omega)
      have g1 : xp[i]? = some (.ref x1) := by
        rw [List.getD_eq_getElem?_getD, List.getElem?_eq_getElem (by omega)] at e1
        rw [List.getElem?_eq_getElem (by omega)]
        exact congrArg some e1
      have g2 : xp[i + 1]? = some (.ref x2) := by
        rw [List.getD_eq_getElem?_getD, List.getElem?_eq_getElem (by omega)] at e2
        rw [List.getElem?_eq_getElem (by omega)]
        exact congrArg some e2
      refine ⟨rfl, _, rfl, _, rfl, a, _, _, _, rfl, rfl, SqL.of ep', atI_nat g1, _, rfl, _, rfl, _, _, rfl, rfl, a, _, _, _, rfl, rfl, SqL.of ep', at_of (j := i + 1) (by simp) g2, x1, x2, passI (ps.getD i p0), passI (ps.getD (i + 1) p0), rfl, rfl, SqT.of (k.tup (by simp) f1), SqT.of (k.tup (by simp) f2), _, rfl, ?_⟩
      exact hR H' (Kx.refl _)
end
end Law

set_option Elab.async false
set_option linter.all false
set_option maxRecDepth 100000
set_option maxHeartbeats 4000000
namespace Law
open PySem PySem.Spec PyProof.Rows L2 GxR GX Tree Kit Data Loops Loops2 Comps Purse Day SetG SetL
section
variable {P : Program} {w : World} {K : PySem.W.Frag} {mg : Str → Option Value} {base : Heap} {fa : String → Addr} {fd : String → FuncData} {ca ta : String → Addr}
/-! ### stores -/
def fitB (D : Dy) (ps : List Pass) : Bool := (List.range D.stores.length).all fun c => (List.range D.hours.toNat).all fun h => decide (((keptL D ps c h).length : Int) ≤ D.stores.getD c 0)
/-- the blocks of passes are blocks of the day -/
def InB (D : Dy) (ps : List Pass) : Prop := ∀ p ∈ ps, 0 ≤ p.block ∧ p.block < (D.blocks.length : Int)
def sp_fit (ta : String → Addr) : Sp := fun vs H Q _ => ∃ (dv : V) (D : Dy) (pa : Addr) (ps : List Pass), vs = [dv, .ref pa] ∧ Tr [] H dv (dayD D) ∧ DyOk D ∧ Tr [] H (.ref pa) (.list (ps.map passD)) ∧ ps.length < 64 ∧ InB D ps ∧ Tb (Ts ta) H ∧ ∀ H', Kx [] H H' → Q (.bl (fitB D ps)) H'
theorem ok__fit_stores (Y : Facts K mg base fa fd ca ta) : FnOk P w K mg base CX0 3 (fa "_fit_stores") (fd "_fit_stores") ["day", "passes"] (sp_fit ta) := by
  refine Y.d__fit_stores.ok sc__fit_stores (fun vs H Q E h => ?_) (fun cdv A outer s H vs Q E hcd hr h => ?_)
  · obtain ⟨dv, D, pa, ps, rfl, _⟩ := h; rfl
  · obtain ⟨dv, D, pa, ps, rfl, hdt, hD, hpt, hl, hb, hT, q⟩ := h
    refine ⟨_, (pss_cons (ps_asg (pv 0) (pg_tupK (n := 5) K rfl rfl (pgs_cons (pg_name (i := 2) sc__fit_stores.nd rfl (by first | exact Or.inl rfl | exact Or.inr rfl)) (pgs_cons (pg_name (i := 3) sc__fit_stores.nd rfl (by first | exact Or.inl rfl | exact Or.inr rfl)) (pgs_cons (pg_name (i := 4) sc__fit_stores.nd rfl (by first | exact Or.inl rfl | exact Or.inr rfl)) (pgs_cons (pg_name (i := 5) sc__fit_stores.nd rfl (by first | exact Or.inl rfl | exact Or.inr rfl)) (pgs_cons (pg_name (i := 6) sc__fit_stores.nd rfl (by first | exact Or.inl rfl | exact Or.inr rfl)) pgs_nil)))))))
      (pss_one (ps_ret (pe_allG2 (own := [("craft", 7), ("hour", 8)]) (g := gName 7) (tt := tYes) (g1 := gName 8) (tt1 := tYes) (vs1 := [8]) (hr.mono (by decide)) rfl sc__fit_stores.nd (by rfl) Y.b.all Y.t__fit_stores.tb (hcd.symm.trans Y.t__fit_stores.code) (gok_by (N := ["day", "passes", "hours", "stores", "sights", "asks", "blocks", "craft", "hour"]) (sc := defScope s__fit_stores) (by decide +kernel)) (by decide) (pi_range1 (by rfl) Y.b.range (pa_cons (pe_callB (call_lenK K rfl) (by rfl) Y.b.len (by decide +kernel) (pa_cons (pv 3) pa_nil)) pa_nil)) (fun _ _ _ _ _ _ _ => (pg_name (i := 7) sc__fit_stores.nd rfl (by first | exact Or.inl rfl | exact Or.inr rfl))) (fun _ _ _ _ _ _ _ => pts_nil) (fun _ _ _ _ _ _ _ => (pi_range1 (by rfl) Y.b.range (pa_cons (pv 2) pa_nil))) (fun _ _ _ _ _ _ _ => (pg_name (i := 8) sc__fit_stores.nd rfl (by first | exact Or.inl rfl | exact Or.inr rfl))) (fun _ _ _ _ _ _ _ => pts_nil) (fun _ _ _ _ _ _ _ => (pe_cmpR op_le (pe_callB (call_lenK K rfl) (by rfl) Y.b.len (by decide +kernel) (pa_cons (pe_call (ok_kept_over Y) ((room_gen (k := 1) (hr.mono (by decide)) _).mono (by decide)) (by rfl) Y.d_kept_over.g Y.d_kept_over.kp Y.d_kept_over.b .nil pass0 (pa_cons (pv 0) (pa_cons (pv 1) (pa_cons (pv 7) (pa_cons (pv 8) pa_nil))))) pa_nil)) (pe_ix (ix_listK K rfl) (pv 3) (pv 7) (fun _ _ => rfl)) (nomark _))))))), ?_⟩
    have hdt0 := hdt
    obtain ⟨da, dx, rfl, edx, tdx⟩ := hdt.tupV
    obtain ⟨y1, y2, y3, y4, y5, rfl, u1, u2, u3, u4, u5⟩ := TrAll.five tdx
    cases u1
    obtain ⟨aS, xS, rfl, eS, tS⟩ := u2.listV
    have exS := TrAll.intsV tS (by rw [ints_back])
    rw [ints_back] at exS
    subst exS
    have h10 := hD.t1
    have h01 := hD.t0
    have s4 := hD.s1
    refine ⟨.ref da, rfl, da, _, rfl, SqT.of edx, rfl, _, _, rfl, .ref aS, _, rfl, y3, _, rfl, y4, _, rfl, y5, _, rfl, rfl, ?_⟩
    refine ⟨_, rfl, aS, _, rfl, .inl (SqL.of eS), (D.stores.length : Int), by rw [List.length_map], by omega, by omega, ?_⟩
    rw [Int.toNat_natCast]
    refine all_range2 (n2 := D.hours.toNat) (p := fun c h => decide (((keptL D ps c h).length : Int) ≤ D.stores.getD c 0)) (tab__fit_stores hT) (fun c H1 hc k1 Z hZ => ?_) q
    refine ⟨rfl, _, rfl, D.hours, rfl, by omega, by omega, hZ _ _ (Kx.refl _) fun h H5 hh k5 R hR => ?_⟩
    have k05 := k1.trans k5
    refine ⟨rfl, .ref da, rfl, .ref pa, rfl, .int c, rfl, .int h, rfl, .ref da, D, pa, ps, c, h, rfl, hdt0.up k05, hpt.up k05, hl, hb, fun F ns H6 k6 hF eF perm up => ?_⟩
    refine ⟨F, _, rfl, .inl (SqL.of eF), .ref aS, rfl, .int c, rfl, aS, _, c, _, rfl, rfl, SqL.of ((k05.trans k6).lst (by simp) eS), atI_nat (by rw [List.getElem?_map, List.getElem?_eq_getElem hc]; rfl), _, _, rfl, rfl, _, rfl, ?_⟩
    have := hR H6 k6
    rw [List.length_map, perm.length_eq]
    rw [getD_at _ _ hc] at this
    exact this
end
end Law

set_option Elab.async false
set_option linter.all false
set_option maxRecDepth 100000
set_option maxHeartbeats 4000000
namespace Law
open PySem PySem.Spec PyProof.Rows L2 GxR GX Tree Kit Data Loops Loops2 Comps Purse Day SetG SetL
section
variable {P : Program} {w : World} {K : PySem.W.Frag} {mg : Str → Option Value} {base : Heap} {fa : String → Addr} {fd : String → FuncData} {ca ta : String → Addr}
/-! ### plans -/
def passOf : PyData → Pass
  | .tuple [a, b, c, d] => ⟨intOf a, intOf b, intOf c, intOf d⟩
  | _ => p0
def planT (D : Dy) (ps : List Pass) : Bool := risesP ps && (clashB ps && fitB D ps)
def planB (D : Dy) : PyData → Bool
  | .list ds => ds.all (passB D) && planT D (ds.map passOf)
  | _ => false
theorem passOf_D (p : Pass) : passOf (passD p) = p := rfl
theorem passes_back {D : Dy} {ds : List PyData} (h : ds.all (passB D) = true) : ds = (ds.map passOf).map passD ∧ ∀ p ∈ ds.map passOf, passT D p = true := by
  induction ds with
  | nil => exact ⟨rfl, fun p hp => nomatch hp⟩
  | cons d r ih =>
    rw [List.all_cons, Bool.and_eq_true] at h
    obtain ⟨p, rfl, hp⟩ := passB_of h.1
    obtain ⟨h1, h2⟩ := ih h.2
    refine ⟨?_, fun q hq => ?_⟩
    · show passD p :: r = passD p :: (r.map passOf).map passD
      rw [← h1]
    · rcases List.mem_cons.mp (show q ∈ p :: r.map passOf from hq) with rfl | hq
      · exact hp
      · exact h2 q hq
theorem passT_of {D : Dy} {p : Pass} (h : passT D p = true) : (0 ≤ p.hour ∧ p.hour ≤ D.hours - 1) ∧ (0 ≤ p.dish ∧ p.dish ≤ (D.sights.length : Int) - 1) ∧ (0 ≤ p.craft ∧ p.craft ≤ (D.stores.length : Int) - 1) ∧ (0 ≤ p.block ∧ p.block ≤ (D.blocks.length : Int) - 1) ∧
    p.craft ∈ heardAt D p.dish p.hour ∧ p.craft = (blkAt D p.block).craft ∧ mayB (blkAt D p.block) p.hour = true := by
  unfold passT at h
  obtain ⟨a1, h⟩ := and3 h
  obtain ⟨a2, h⟩ := and3 h
  obtain ⟨a3, h⟩ := and3 h
  obtain ⟨a4, h⟩ := and3 h
  obtain ⟨a5, h⟩ := and3 h
  obtain ⟨a6, a7⟩ := and3 h
  obtain ⟨i, e1, b1, b2⟩ := isWh_int a1
  obtain ⟨j, e2, c1, c2⟩ := isWh_int a2
  obtain ⟨k, e3, d1, d2⟩ := isWh_int a3
  obtain ⟨l, e4, f1, f2⟩ := isWh_int a4
  cases e1
  cases e2
  cases e3
  cases e4
  exact ⟨⟨b1, b2⟩, ⟨c1, c2⟩, ⟨d1, d2⟩, ⟨f1, f2⟩, List.contains_iff_mem.mp a5, of_decide_eq_true a6, a7⟩
theorem inB_of {D : Dy} {ps : List Pass} (h : ∀ p ∈ ps, passT D p = true) : InB D ps := fun p hp => by
  have := (passT_of (h p hp)).2.2.2.1
  omega
def sp_is_plan (ta : String → Addr) : Sp := fun vs H Q _ => ∃ (dv : V) (D : Dy) (v : V) (d : PyData), vs = [dv, v] ∧ Tr [] H dv (dayD D) ∧ DyOk D ∧ isDayB (dayD D) = true ∧ sz (dayD D) ≤ 100000 ∧ Tr [] H v d ∧ (∀ ds, d = .list ds → ds.length < 64) ∧ Tb (Ts ta) H ∧ ∀ H', Kx [] H H' → Q (.bl (planB D d)) H'
theorem ok_is_plan (Y : Facts K mg base fa fd ca ta) : FnOk P w K mg base CX0 11 (fa "is_plan") (fd "is_plan") ["day", "thing"] (sp_is_plan ta) := by
  refine Y.d_is_plan.ok sc_is_plan (fun vs H Q E h => ?_) (fun cdv A outer s H vs Q E hcd hr h => ?_)
  · obtain ⟨dv, D, v, d, rfl, _⟩ := h; rfl
  · obtain ⟨dv, D, v, d, rfl, hdt, hD, hday, hz, ht, hl, hT, q⟩ := h
    refine ⟨_, (pss_cons (ps_expr (pe_call (ok_need_day Y) (hr.mono (by decide)) (by rfl) Y.d_need_day.g Y.d_need_day.kp Y.d_need_day.b .nil pass0 (pa_cons (pv 0) pa_nil)))
      (pss_one (ps_ret (pe_and (pe_callB (call_isiK' K rfl) (by rfl) Y.b.isinstance (by decide +kernel) (pa_cons (pv 1) (pa_cons (pe_bltn (v := .ty "list") (by rfl) Y.b.list (by decide +kernel) rfl) pa_nil))) (pe_and (pe_allG (own := [("part", 2)]) (g := gName 2) (tt := tYes) (hr.mono (by decide)) rfl sc_is_plan.nd (by rfl) Y.b.all Y.t_is_plan.tb (hcd.symm.trans Y.t_is_plan.code) (gok_by (N := ["day", "thing", "part"]) (sc := defScope s_is_plan) (by decide +kernel)) (pi_listK K rfl (pv 1)) (fun _ _ _ _ _ _ _ => (pg_name (i := 2) sc_is_plan.nd rfl (by first | exact Or.inl rfl | exact Or.inr rfl))) (fun _ _ _ _ _ _ _ => pts_nil) (fun _ _ _ _ _ _ _ => (pe_call (ok__is_pass Y) ((room_gen (k := 9) (hr.mono (by decide)) _).mono (by decide)) (by rfl) Y.d__is_pass.g Y.d__is_pass.kp Y.d__is_pass.b .nil pass0 (pa_cons (pv 0) (pa_cons (pv 2) pa_nil))))) (pe_and (pe_call (ok_risesT Y) (hr.mono (by decide)) (by rfl) Y.d_rises.g Y.d_rises.kp Y.d_rises.b .nil pass0 (pa_cons (pv 1) pa_nil)) (pe_and (pe_call (ok__clash_nowhere Y) (hr.mono (by decide)) (by rfl) Y.d__clash_nowhere.g Y.d__clash_nowhere.kp Y.d__clash_nowhere.b .nil pass0 (pa_cons (pv 1) pa_nil)) (pe_one (pe_call (ok__fit_stores Y) (hr.mono (by decide)) (by rfl) Y.d__fit_stores.g Y.d__fit_stores.kp Y.d__fit_stores.b .nil pass0 (pa_cons (pv 0) (pa_cons (pv 1) pa_nil))))))))))), ?_⟩
    refine ⟨dv, rfl, dv, _, rfl, hdt, hz, hT, hday, fun H1 k1 => ?_⟩
    refine ⟨v, rfl, v, .ty "list", _, _, _, rfl, .ty _, (ht.up k1).ty, kit_list d, _, rfl, ?_⟩
    refine ite2 (fun c => ?_) (fun c => ?_)
    · cases ht with
      | lst n h l =>
        rename_i a xs ds
        have hl := hl ds rfl
        refine all_treeV (passB D) rfl (k1.lst (by simp) h) (l.up k1) (tab_is_plan (hT.kx k1)) (fun x d H' hd t k R hR => ?_) fun H2 k2 => ?_
        · exact ⟨rfl, dv, rfl, x, rfl, dv, D, x, d, rfl, hdt.up (k1.trans k), hD, t, _, rfl, hR H' (Kx.refl _)⟩
        have k02 := k1.trans k2
        refine ⟨_, rfl, ?_⟩
        have q2 : ∀ H', Kx [] H2 H' → Q (.bl (planB D (.list ds))) H' := fun H' k => q H' (k02.trans k)
        cases c1 : ds.all (passB D) with
        | false =>
          refine iteF ?_
          have := q2 H2 (Kx.refl _)
          rw [show planB D (.list ds) = false by show (ds.all (passB D) && _) = false; rw [c1]; rfl] at this
          exact this
        | true =>
        obtain ⟨eb, hp⟩ := passes_back c1
        have ee : planB D (.list ds) = planT D (ds.map passOf) := by show (ds.all (passB D) && _) = _; rw [c1, Bool.true_and]
        rw [ee] at q2
        have tp : Tr [] H2 (.ref a) (.list ((ds.map passOf).map passD)) := by rw [← eb]; exact .lst (by simp) (k02.lst (by simp) h) (l.up k02)
        have lp : (ds.map passOf).length < 64 := by rw [List.length_map]; exact hl
        generalize ds.map passOf = ps at q2 tp lp hp
        have hb := inB_of hp
        refine iteT ⟨_, rfl, a, ps, rfl, tp, by omega, hT.kx k02, fun H3 k3 => ⟨_, rfl, ?_⟩⟩
        unfold planT at q2
        cases c2 : risesP ps with
        | false =>
          have := q2 H3 k3
          rw [c2] at this
          exact iteF this
        | true =>
        refine iteT ⟨_, rfl, a, ps, rfl, tp.up k3, lp, fun H4 k4 => ⟨_, rfl, ?_⟩⟩
        cases c3 : clashB ps with
        | false =>
          have := q2 H4 (k3.trans k4)
          rw [c2, c3] at this
          exact iteF this
        | true =>
        refine iteT ⟨dv, rfl, _, rfl, dv, D, a, ps, rfl, hdt.up (k02.trans (k3.trans k4)), hD, tp.up (k3.trans k4), lp, hb, hT.kx (k02.trans (k3.trans k4)), fun H5 k5 => ?_⟩
        have := q2 H5 ((k3.trans k4).trans k5)
        rw [c2, c3] at this
        exact this
      | _ => cases c
    · have e : planB D d = false := by cases d <;> first | rfl | exact absurd rfl c
      have := q H1 k1
      rw [e] at this
      exact this
/-- a plan of the day, typed -/
structure Plan (D : Dy) (ps : List Pass) : Prop where
  ok : ∀ p ∈ ps, passT D p = true
  pl : planT D ps = true
  len : ps.length < 64
theorem Plan.b {D : Dy} {ps : List Pass} (h : Plan D ps) : planB D (.list (ps.map passD)) = true := by
  show ((ps.map passD).all (passB D) && planT D ((ps.map passD).map passOf)) = true
  rw [List.map_map, show (passOf ∘ passD) = id from rfl, List.map_id, h.pl, Bool.and_true, List.all_map]
  exact List.all_eq_true.mpr fun p hp => h.ok p hp
structure DayV (D : Dy) : Prop where
  ok : DyOk D
  b : isDayB (dayD D) = true
  z : sz (dayD D) ≤ 100000
def sp_need_plan (ta : String → Addr) : Sp := fun vs H Q _ => ∃ (dv : V) (D : Dy) (pa : Addr) (ps : List Pass), vs = [dv, .ref pa] ∧ Tr [] H dv (dayD D) ∧ DayV D ∧ Tr [] H (.ref pa) (.list (ps.map passD)) ∧ Plan D ps ∧ Tb (Ts ta) H ∧ ∀ H', Kx [] H H' → Q .non H'
theorem ok_need_plan (Y : Facts K mg base fa fd ca ta) : FnOk P w K mg base CX0 12 (fa "need_plan") (fd "need_plan") ["day", "thing"] (sp_need_plan ta) := by
  refine Y.d_need_plan.ok sc_need_plan (fun vs H Q E h => ?_) (fun cdv A outer s H vs Q E hcd hr h => ?_)
  · obtain ⟨dv, D, v, d, rfl, _⟩ := h; rfl
  · obtain ⟨dv, D, pa, ps, rfl, hdt, hD, hpt, hp, hT, q⟩ := h
    refine ⟨_, (pss_one (ps_if (pt_not (pt_val (pe_call (ok_is_plan Y) (hr.mono (by decide)) (by rfl) Y.d_is_plan.g Y.d_is_plan.kp Y.d_is_plan.b .nil pass0 (pa_cons (pv 0) (pa_cons (pv 1) pa_nil))))) (pss_one ps_never) pss_nil)), ?_⟩
    refine ⟨dv, rfl, _, rfl, dv, D, _, _, rfl, hdt, hD.ok, hD.b, hD.z, hpt, fun ds e => ?_, hT, fun H1 k1 => ⟨_, rfl, ?_⟩⟩
    · cases e
      rw [List.length_map]
      exact hp.len
    · rw [hp.b]
      exact iteF (q H1 k1)
def askAt (D : Dy) (d : Int) : Option Int := D.asks.getD d.toNat none
def gainP (D : Dy) (p : Pass) : Int := (blkAt D p.block).worth - (askAt D p.dish).getD 0
def gainL (D : Dy) (ps : List Pass) : Int := (ps.map (gainP D)).sum
def InD (D : Dy) (ps : List Pass) : Prop := ∀ p ∈ ps, 0 ≤ p.dish ∧ p.dish < (D.asks.length : Int)
theorem inD_of {D : Dy} (hD : DyOk D) {ps : List Pass} (h : ∀ p ∈ ps, passT D p = true) : InD D ps := fun p hp => by
  have := (passT_of (h p hp)).2.1
  have := hD.al
  omega
theorem gainL_step (D : Dy) (ps : List Pass) (i : Nat) (hi : i < ps.length) : gainL D (ps.take (i + 1)) = gainL D (ps.take i) + gainP D ps[i] := by
  unfold gainL
  rw [List.take_add_one, List.getElem?_eq_getElem hi, List.map_append, List.sum_append]
  simp
def sp_gain_of_passes : Sp := fun vs H Q _ => ∃ (dv : V) (D : Dy) (pa : Addr) (ps : List Pass), vs = [dv, .ref pa] ∧ Tr [] H dv (dayD D) ∧ Tr [] H (.ref pa) (.list (ps.map passD)) ∧ InB D ps ∧ InD D ps ∧ ∀ H', Kx [] H H' → Q (.int (gainL D ps)) H'
theorem ok_gain_of_passes (Y : Facts K mg base fa fd ca ta) : FnOk P w K mg base CX0 1 (fa "gain_of_passes") (fd "gain_of_passes") ["day", "passes"] sp_gain_of_passes := by
  refine Y.d_gain_of_passes.ok sc_gain_of_passes (fun vs H Q E h => ?_) (fun cdv A outer s H vs Q E hcd hr h => ?_)
  · obtain ⟨dv, D, v, d, rfl, _⟩ := h; rfl
  · obtain ⟨dv, D, pa, ps, rfl, hdt, hpt, hb, hd, q⟩ := h
    refine ⟨_, (pss_cons (ps_asg (pv 0) (pg_tupK (n := 5) K rfl rfl (pgs_cons (pg_name (i := 2) sc_gain_of_passes.nd rfl (by first | exact Or.inl rfl | exact Or.inr rfl)) (pgs_cons (pg_name (i := 3) sc_gain_of_passes.nd rfl (by first | exact Or.inl rfl | exact Or.inr rfl)) (pgs_cons (pg_name (i := 4) sc_gain_of_passes.nd rfl (by first | exact Or.inl rfl | exact Or.inr rfl)) (pgs_cons (pg_name (i := 5) sc_gain_of_passes.nd rfl (by first | exact Or.inl rfl | exact Or.inr rfl)) (pgs_cons (pg_name (i := 6) sc_gain_of_passes.nd rfl (by first | exact Or.inl rfl | exact Or.inr rfl)) pgs_nil)))))))
      (pss_cons (ps_set (i := 7) sc_gain_of_passes.nd rfl (by first | exact Or.inl rfl | exact Or.inr rfl) pe_int)
      (pss_cons (ps_for PassesOwn.never rfl (pi_listK K rfl (pv 1)) (pg_tupK (n := 4) K rfl rfl (pgs_cons (pg_name (i := 8) sc_gain_of_passes.nd rfl (by first | exact Or.inl rfl | exact Or.inr rfl)) (pgs_cons (pg_name (i := 9) sc_gain_of_passes.nd rfl (by first | exact Or.inl rfl | exact Or.inr rfl)) (pgs_cons (pg_name (i := 10) sc_gain_of_passes.nd rfl (by first | exact Or.inl rfl | exact Or.inr rfl)) (pgs_cons (pg_name (i := 11) sc_gain_of_passes.nd rfl (by first | exact Or.inl rfl | exact Or.inr rfl)) pgs_nil))))) (pss_cons (ps_asg (pe_ix (ix_listK K rfl) (pv 6) (pv 11) (fun _ _ => rfl)) (pg_tupK (n := 5) K rfl rfl (pgs_cons (pg_name (i := 12) sc_gain_of_passes.nd rfl (by first | exact Or.inl rfl | exact Or.inr rfl)) (pgs_cons (pg_name (i := 13) sc_gain_of_passes.nd rfl (by first | exact Or.inl rfl | exact Or.inr rfl)) (pgs_cons (pg_name (i := 14) sc_gain_of_passes.nd rfl (by first | exact Or.inl rfl | exact Or.inr rfl)) (pgs_cons (pg_name (i := 15) sc_gain_of_passes.nd rfl (by first | exact Or.inl rfl | exact Or.inr rfl)) (pgs_cons (pg_name (i := 16) sc_gain_of_passes.nd rfl (by first | exact Or.inl rfl | exact Or.inr rfl)) pgs_nil)))))))
      (pss_cons (ps_aug (i := 7) sc_gain_of_passes.nd rfl (by first | exact Or.inl rfl | exact Or.inr rfl) (pv 16) ip_add)
      (pss_one (ps_if (pt_cmpR op_notN (pe_ix (ix_listK K rfl) (pv 5) (pv 9) (fun _ _ => rfl)) pe_non (nomark _)) (pss_one (ps_aug (i := 7) sc_gain_of_passes.nd rfl (by first | exact Or.inl rfl | exact Or.inr rfl) (pe_ix (ix_listK K rfl) (pv 5) (pv 9) (fun _ _ => rfl)) ip_sub)) pss_nil)))))
      (pss_one (ps_ret (pv 7)))))), ?_⟩
    obtain ⟨da, dx, rfl, edx, tdx⟩ := hdt.tupV
    obtain ⟨y1, y2, y3, y4, y5, rfl, u1, u2, u3, u4, u5⟩ := TrAll.five tdx
    obtain ⟨aA, xA, rfl, eA, tA⟩ := u4.listV
    obtain ⟨aB, xB, rfl, eB, tB⟩ := u5.listV
    refine ⟨.ref da, rfl, da, _, rfl, SqT.of edx, rfl, y1, _, rfl, y2, _, rfl, y3, _, rfl, .ref aA, _, rfl, .ref aB, _, rfl, rfl, ?_⟩
    dsimp only
    refine st_seq ?_
    refine st_asg ?_
    refine st_name ?_
    dsimp only
    refine st_seq (st_for ?_)
    obtain ⟨xp, ep, tp⟩ := hpt.items
    have lp := tp.length
    rw [List.length_map] at lp
    refine ⟨.ref pa, rfl, pa, rfl, ⟨xp, SqL.of ep⟩, ?_⟩
    refine for_gen (itl_at (B := []) ep (by simp)) (Iv := fun i σ' H' => ∃ z1 z2 z3 z4 z5 z6 z7 z8 z9, σ' = [some (.ref da), some (.ref pa), some y1, some y2, some y3, some (.ref aA), some (.ref aB), some (.int (gainL D (ps.take i))), z1, z2, z3, z4, z5, z6, z7, z8, z9])
      ⟨_, _, _, _, _, _, _, _, _, rfl⟩ (fun i σ' H2 hi k2 ⟨z1, z2, z3, z4, z5, z6, z7, z8, z9, e⟩ Nn hN => ?_) fun σ' H2 k2 ⟨z1, z2, z3, z4, z5, z6, z7, z8, z9, e⟩ => ?_
    · subst e
      have hi' : i < ps.length := by omega
      obtain ⟨at_, e, eat⟩ := pass_at tp hi'
      rw [e]
      rw [getD_at ps p0 hi'] at eat
      have step := gainL_step D ps i hi'
      have hbk := hb ps[i] (List.getElem_mem hi')
      have hdk := hd ps[i] (List.getElem_mem hi')
      generalize ps[i] = p at step hbk hdk eat ⊢
      refine ⟨at_, _, rfl, SqT.of (k2.tup (by simp) eat), rfl, _, _, rfl, _, _, rfl, _, _, rfl, _, _, rfl, rfl, ?_⟩
      obtain ⟨_, xB', bv, e, eB', a3, tb⟩ := ixT u5 hbk.1 (by rw [List.length_map]; exact hbk.2)
      cases e
      rw [getD_map blkD D.blocks p.block.toNat ⟨0, 0, 0, none, 0⟩ _ (by omega)] at tb
      obtain ⟨bA, bx, rfl, eb, tbx⟩ := tb.tupV
      obtain ⟨b1, b2, b3, b4, b5, rfl, f1, f2, f3, f4, f5⟩ := TrAll.five tbx
      cases f5
      refine ⟨.ref aB, rfl, .int p.block, rfl, aB, xB', p.block, .ref bA, rfl, rfl, SqL.of (k2.lst (by simp) eB'), a3, bA, _, rfl, SqT.of (k2.tup (by simp) eb), rfl, b1, _, rfl, b2, _, rfl, b3, _, rfl, b4, _, rfl, _, _, rfl, rfl, ?_⟩
      obtain ⟨_, xA', av, e, eA', a4, tav⟩ := ixT u4 hdk.1 (by rw [List.length_map]; exact hdk.2)
      cases e
      rw [getD_map optD D.asks p.dish.toNat none _ (by omega)] at tav
      refine ⟨_, rfl, _, rfl, _, _, rfl, rfl, ?_⟩
      refine ⟨.ref aA, rfl, .int p.dish, rfl, aA, xA', p.dish, av, rfl, rfl, SqL.of (k2.lst (by simp) eA'), a4, rfl, _, rfl, ?_⟩
      have gp : gainP D p = (blkAt D p.block).worth - (askAt D p.dish).getD 0 := rfl
      have as : askAt D p.dish = D.asks.getD p.dish.toNat none := rfl
      cases ha : D.asks.getD p.dish.toNat none with
      | none =>
        rw [ha] at tav
        cases tav
        refine iteF (hN _ _ k2 ?_)
        have e : gainL D (ps.take (i + 1)) = gainL D (ps.take i) + (blkAt D p.block).worth := by
          rw [step, gp, as, ha, Option.getD_none, Int.sub_zero]
        rw [e]
        exact ⟨_, _, _, _, _, _, _, _, _, rfl⟩
      | some u =>
        rw [ha] at tav
        cases tav
        refine iteT ⟨_, rfl, .ref aA, rfl, .int p.dish, rfl, aA, xA', p.dish, .int u, rfl, rfl, SqL.of (k2.lst (by simp) eA'), a4, _, _, rfl, rfl, hN _ _ k2 ?_⟩
        have e : gainL D (ps.take (i + 1)) = gainL D (ps.take i) + (blkAt D p.block).worth - u := by
          rw [step, gp, as, ha, Option.getD_some]
          omega
        rw [e]
        exact ⟨_, _, _, _, _, _, _, _, _, rfl⟩
    · subst e
      rw [lp, List.take_length]
      exact ⟨_, rfl, q H2 k2⟩
end
end Law

set_option Elab.async false
set_option linter.all false
set_option maxRecDepth 100000
set_option maxHeartbeats 4000000
namespace Law
open PySem PySem.Spec PyProof.Rows L2 GxR GX Tree Kit Data Loops Loops2 Comps Purse Day SetG SetL
section
variable {P : Program} {w : World} {K : PySem.W.Frag} {mg : Str → Option Value} {base : Heap} {fa : String → Addr} {fd : String → FuncData} {ca ta : String → Addr}
def sp_gain_of (ta : String → Addr) : Sp := fun vs H Q _ => ∃ (dv : V) (D : Dy) (pa : Addr) (ps : List Pass), vs = [dv, .ref pa] ∧ Tr [] H dv (dayD D) ∧ DayV D ∧ Tr [] H (.ref pa) (.list (ps.map passD)) ∧ Plan D ps ∧ Tb (Ts ta) H ∧ ∀ H', Kx [] H H' → Q (.int (gainL D ps)) H'
theorem ok_gain_of (Y : Facts K mg base fa fd ca ta) : FnOk P w K mg base CX0 13 (fa "gain_of") (fd "gain_of") ["day", "plan"] (sp_gain_of ta) := by
  refine Y.d_gain_of.ok sc_gain_of (fun vs H Q E h => ?_) (fun cdv A outer s H vs Q E hcd hr h => ?_)
  · obtain ⟨dv, D, v, d, rfl, _⟩ := h; rfl
  · obtain ⟨dv, D, pa, ps, rfl, hdt, hD, hpt, hp, hT, q⟩ := h
    refine ⟨_, (pss_cons (ps_expr (pe_call (ok_need_plan Y) (hr.mono (by decide)) (by rfl) Y.d_need_plan.g Y.d_need_plan.kp Y.d_need_plan.b .nil pass0 (pa_cons (pv 0) (pa_cons (pv 1) pa_nil))))
      (pss_one (ps_ret (pe_call (ok_gain_of_passes Y) (hr.mono (by decide)) (by rfl) Y.d_gain_of_passes.g Y.d_gain_of_passes.kp Y.d_gain_of_passes.b .nil pass0 (pa_cons (pv 0) (pa_cons (pv 1) pa_nil)))))), ?_⟩
    refine ⟨dv, rfl, _, rfl, dv, D, pa, ps, rfl, hdt, hD, hpt, hp, hT, fun H1 k1 => ?_⟩
    exact ⟨dv, rfl, _, rfl, dv, D, pa, ps, rfl, hdt.up k1, hpt.up k1, inB_of hp.ok, inD_of hD.ok hp.ok, fun H2 k2 => q H2 (k1.trans k2)⟩
end
end Law

set_option Elab.async false
set_option linter.all false
set_option maxRecDepth 100000
set_option maxHeartbeats 4000000
namespace Law
open PySem PySem.Spec PyProof.Rows L2 GxR GX Tree Kit Data Loops Comps Purse Sets
section
variable {P : Program} {w : World} {K : PySem.W.Frag} {mg : Str → Option Value} {base : Heap} {fa : String → Addr} {fd : String → FuncData} {ca ta : String → Addr}
/-! ### the purse -/
def sp_purse (K : PySem.W.Frag) : Sp := fun vs H Q _ => ∃ (a : Addr) (ns : List Int) (k : Nat), vs = [.ref a, .int k] ∧ SqL K H a (ns.map V.int) ∧ k < 8 ∧ ns.length ≤ 63 ∧ ∀ p H', Kx [] H H' → H p = none → PurseAt H' p 0 → Q (.ref p) H'
theorem purse_ok (cell : Int) (k : Nat) (hk : k < 8) : 0 ≤ (if cell - 10 ^ 18 > 0 then cell - 10 ^ 18 else 0) ∧ 0 ≤ cell % (10 ^ 41 + 9) * 128 + 5 * (k : Int) + 2 ∧ cell % (10 ^ 41 + 9) * 128 + 5 * (k : Int) + 2 < 2 ^ 150 := by
  refine ⟨?_, ?_, ?_⟩
  · split <;> omega
  · have := Int.emod_nonneg cell (show (10 ^ 41 + 9 : Int) ≠ 0 by decide)
    omega
  · have := Int.emod_lt_of_pos cell (show (0 : Int) < 10 ^ 41 + 9 by decide)
    omega
theorem ok__law_purse (Y : Facts K mg base fa fd ca ta) : FnOk P w K mg base CX0 1 (fa "_law_purse") (fd "_law_purse") ["script", "k"] (sp_purse K) := by
  refine Y.d__law_purse.ok sc__law_purse (fun vs H Q E h => ?_) (fun cdv A outer s H vs Q E hcd hr h => ?_)
  · obtain ⟨a, ns, k, rfl, _⟩ := h; rfl
  · obtain ⟨a, ns, k, rfl, ha, hk, hl, q⟩ := h
    refine ⟨_, (pss_cons (ps_set (i := 2) sc__law_purse.nd rfl (by first | exact Or.inl rfl | exact Or.inr rfl) pe_int)
      (pss_cons (ps_if (pt_cmpR op_lt (pv 1) (pe_callB (call_lenK K rfl) (by rfl) Y.b.len (by decide +kernel) (pa_cons (pv 0) pa_nil)) (nomark _)) (pss_one (ps_set (i := 2) sc__law_purse.nd rfl (by first | exact Or.inl rfl | exact Or.inr rfl) (pe_ix (ix_listK K rfl) (pv 0) (pv 1) (fun _ _ => rfl)))) pss_nil)
      (pss_one (ps_ret (pe_lst (pa_cons (pe_callB (call_max2 rfl) (by rfl) Y.b.max (by decide +kernel) (pa_cons pe_int (pa_cons (pe_op op_sub (pv 2) (pe_op op_powW pe_int pe_int)) pa_nil))) (pa_cons (pe_op op_add (pe_op op_add (pe_op op_mulW (pe_op op_mod (pv 2) (pe_op op_add (pe_op op_powW pe_int pe_int) pe_int)) pe_int) (pe_op op_mulW pe_int (pv 1))) pe_int) (pa_cons pe_int pa_nil)))))))), ?_⟩
    have hN : CPowW 10 18 := powW_ok (b := 4) (by decide) (by decide) (by decide) (by decide)
    have hM : CPowW 10 41 := powW_ok (b := 4) (by decide) (by decide) (by decide) (by decide)
    refine ⟨_, rfl, _, rfl, a, _, rfl, .inl ha, _, _, rfl, rfl, _, rfl, ?_⟩
    refine ite2 (fun c => ?_) (fun c => ?_)
    · have c := of_decide_eq_true c
      rw [List.length_map] at c
      have hk2 : k < ns.length := by omega
      refine ⟨_, rfl, _, rfl, a, _, _, .int ns[k], rfl, rfl, ha, atI_nat (by rw [List.getElem?_map, List.getElem?_eq_getElem hk2]; rfl), ?_⟩
      generalize ns[k] = cell
      obtain ⟨g1, g2, g3⟩ := purse_ok cell k hk
      refine ⟨_, rfl, _, _, rfl, rfl, hN, _, _, rfl, rfl, _, _, rfl, ?_⟩
      have hm := Int.emod_nonneg cell (show (10 ^ 41 + 9 : Int) ≠ 0 by decide)
      have hm2 := Int.emod_lt_of_pos cell (show (0 : Int) < 10 ^ 41 + 9 by decide)
      refine ⟨_, rfl, _, _, rfl, rfl, hM, _, _, rfl, rfl, _, _, rfl, rfl, ?_, _, _, rfl, rfl, ?_, _, rfl, _, _, rfl, rfl, ?_, _, _, rfl, rfl, _, _, rfl, rfl, ?_⟩
      · exact (by decide : (0 : Int) < 10 ^ (41 : Int).toNat + 9)
      · exact wide_mul (a := 150) (b := 8) (wide_of hm (by exact (show cell % (10 ^ 41 + 9) < 2 ^ 150 by omega))) (by decide) (by decide) (by decide) (by decide)
      · exact wide_mul (a := 8) (b := 8) (by decide) (by omega) (by decide) (by decide) (by decide)
      · refine ⟨len_ok, fun p hp => ?_⟩
        exact q p _ (Kx.new hp) hp ⟨_, _, 0, upd_same, g1, g2, g3, Int.le_refl _, Int.le_refl _⟩
    · obtain ⟨g1, g2, g3⟩ := purse_ok (0 : Int) k hk
      refine ⟨_, rfl, _, _, rfl, rfl, hN, _, _, rfl, rfl, _, _, rfl, ?_⟩
      have hm := Int.emod_nonneg (0 : Int) (show (10 ^ 41 + 9 : Int) ≠ 0 by decide)
      have hm2 := Int.emod_lt_of_pos (0 : Int) (show (0 : Int) < 10 ^ 41 + 9 by decide)
      refine ⟨_, rfl, _, _, rfl, rfl, hM, _, _, rfl, rfl, _, _, rfl, rfl, ?_, _, _, rfl, rfl, ?_, _, rfl, _, _, rfl, rfl, ?_, _, _, rfl, rfl, _, _, rfl, rfl, ?_⟩
      · exact (by decide : (0 : Int) < 10 ^ (41 : Int).toNat + 9)
      · exact wide_mul (a := 150) (b := 8) (wide_of hm (by exact (show (0 : Int) % (10 ^ 41 + 9) < 2 ^ 150 by omega))) (by decide) (by decide) (by decide) (by decide)
      · exact wide_mul (a := 8) (b := 8) (by decide) (by omega) (by decide) (by decide) (by decide)
      · refine ⟨len_ok, fun p hp => ?_⟩
        exact q p _ (Kx.new hp) hp ⟨_, _, 0, upd_same, g1, g2, g3, Int.le_refl _, Int.le_refl _⟩
theorem coin_mod {i j many : Int} : 0 < many → 0 ≤ i % many ∧ i % many < many := fun h => ⟨Int.emod_nonneg _ (by omega), Int.emod_lt_of_pos _ h⟩
theorem ok__law_coin (Y : Facts K mg base fa fd ca ta) : FnOk P w K mg base CX0 1 (fa "_law_coin") (fd "_law_coin") ["purse", "many"] (sp_coin (Ts ta)) := by
  refine Y.d__law_coin.ok sc__law_coin (fun vs H Q E h => ?_) (fun cdv A outer s H vs Q E hcd hr h => ?_)
  · obtain ⟨p, n, many, C, rfl, _⟩ := h; rfl
  · obtain ⟨p, n, many, C, rfl, h0, h1, hn, hA, q⟩ := h
    obtain ⟨a, b, c, hp, ha, hb, hb2, hc, hc2⟩ := hA.pu
    refine ⟨_, (pss_cons (ps_if (pt_cmpR op_gt (pe_ix (ix_listK K rfl) (pv 0) pe_int (fun _ _ => rfl)) pe_int (nomark _)) (pss_cons (ps_set (i := 2) sc__law_coin.nd rfl (by first | exact Or.inl rfl | exact Or.inr rfl) (pe_op op_mod (pe_ix (ix_listK K rfl) (pv 0) pe_int (fun _ _ => rfl)) (pv 1)))
      (pss_cons (ps_asg (pe_op op_fdivW (pe_ix (ix_listK K rfl) (pv 0) pe_int (fun _ _ => rfl)) (pv 1)) (pg_sub (pv 0) pe_int set_list))
      (pss_one (ps_ret (pv 2))))) pss_nil)
      (pss_cons (ps_asg (pe_op op_add (pe_ix (ix_listK K rfl) (pv 0) pe_int (fun _ _ => rfl)) pe_int) (pg_sub (pv 0) pe_int set_list))
      (pss_cons (ps_set (i := 3) sc__law_coin.nd rfl (by first | exact Or.inl rfl | exact Or.inr rfl) (pe_op op_mod (pe_op op_powW (pe_op op_add (pe_ix (ix_listK K rfl) (pv 0) pe_int (fun _ _ => rfl)) (pe_op op_mulW pe_int (pe_ix (ix_listK K rfl) (pv 0) pe_int (fun _ _ => rfl)))) pe_int) (pe_op op_add (pe_op op_powW pe_int pe_int) pe_int)))
      (pss_cons (ps_set (i := 3) sc__law_coin.nd rfl (by first | exact Or.inl rfl | exact Or.inr rfl) (pe_op op_mod (pe_op op_powW (pe_op op_add (pv 3) (pe_op op_mulW pe_int (pe_ix (ix_listK K rfl) (pv 0) pe_int (fun _ _ => rfl)))) pe_int) (pe_op op_add (pe_op op_powW pe_int pe_int) pe_int)))
      (pss_one (ps_ret (pe_op op_mod (pe_op op_fdivW (pv 3) pe_int) (pv 1)))))))), ?_⟩
    have put : ∀ x y z, 0 ≤ x → 0 ≤ y → y < 2 ^ 150 → 0 ≤ z → z ≤ ((n + 1 : Nat) : Int) → Kx [p] H (upd H p (.lst [.int x, .int y, .int z])) ∧ At (Ts ta) C p (n + 1) (upd H p (.lst [.int x, .int y, .int z])) := fun x y z hx hy hy2 hz hz2 =>
      ⟨Kx.put (by simp), hA.put (Kx.put (by simp)) ⟨x, y, z, upd_same, hx, hy, hy2, hz, hz2⟩ hA.tne⟩
    have hmod : ∀ i : Int, 0 ≤ i % many ∧ i % many < many := fun i => ⟨Int.emod_nonneg _ (by omega), Int.emod_lt_of_pos _ h0⟩
    refine ⟨_, rfl, p, _, 0, _, rfl, rfl, SqL.of hp, rfl, _, _, rfl, rfl, _, rfl, ?_⟩
    refine ite2 (fun c1 => ?_) (fun c1 => ?_)
    · obtain ⟨k1, A1⟩ := put (a / many) b c (Int.ediv_nonneg ha (by omega)) hb hb2 hc (by omega)
      exact ⟨.ref p, rfl, p, _, 0, _, rfl, rfl, SqL.of hp, rfl, _, rfl, _, _, rfl, rfl, h0, .ref p, rfl, p, _, 0, _, rfl, rfl, SqL.of hp, rfl, _, rfl, _, _, rfl, rfl, wide_div (b := 30) h0 (by omega) (by decide) (by decide), .ref p, rfl, p, _, 0, 0, rfl, rfl, hp, rfl, _, rfl, q _ _ (hmod a).1 (hmod a).2 k1 A1⟩
    · obtain ⟨k1, A1⟩ := put a b (c + 1) ha hb hb2 (by omega) (by omega)
      refine ⟨.ref p, rfl, p, _, 2, _, rfl, rfl, SqL.of hp, rfl, _, _, rfl, rfl, .ref p, rfl, p, _, 2, 2, rfl, rfl, hp, rfl, ?_⟩
      have hp1 : (upd H p (.lst [.int a, .int b, .int (c + 1)])) p = some (.lst [.int a, .int b, .int (c + 1)]) := upd_same
      refine ⟨.ref p, rfl, p, _, 1, _, rfl, rfl, SqL.of hp1, rfl, .ref p, rfl, p, _, 2, _, rfl, rfl, SqL.of hp1, rfl, _, _, rfl, rfl, ?_, _, _, rfl, rfl, _, _, rfl, rfl, ?_, _, _, rfl, rfl, powW_ok (b := 4) (by decide) (by decide) (by decide) (by decide), _, _, rfl, rfl, _, _, rfl, rfl, ?_, ?_⟩
      · exact wide_mul (a := 17) (b := 60) (by decide) (by omega) (by decide) (by decide) (by decide)
      · exact powW_ok (b := 152) (by decide) (by omega) (by decide) (by decide)
      · exact (by decide : (0 : Int) < 10 ^ (35 : Int).toNat + 69)
      · have m0 := Int.emod_nonneg ((b + 104729 * (c + 1)) ^ (3 : Int).toNat) (show (10 ^ (35 : Int).toNat + 69 : Int) ≠ 0 by decide)
        have m1 := Int.lt_of_lt_of_le (Int.emod_lt_of_pos ((b + 104729 * (c + 1)) ^ (3 : Int).toNat) (show (0 : Int) < 10 ^ (35 : Int).toNat + 69 by decide)) (show (10 ^ (35 : Int).toNat + 69 : Int) ≤ 2 ^ 120 by decide)
        refine ⟨_, rfl, .ref p, rfl, p, _, 2, _, rfl, rfl, SqL.of hp1, rfl, _, _, rfl, rfl, ?_, _, _, rfl, rfl, _, _, rfl, rfl, ?_, _, _, rfl, rfl, powW_ok (b := 4) (by decide) (by decide) (by decide) (by decide), _, _, rfl, rfl, _, _, rfl, rfl, ?_, ?_⟩
        · exact wide_mul (a := 17) (b := 60) (by decide) (by omega) (by decide) (by decide) (by decide)
        · exact powW_ok (b := 130) (by decide) (by omega) (by decide) (by decide)
        · exact (by decide : (0 : Int) < 10 ^ (33 : Int).toNat + 61)
        · exact ⟨_, rfl, _, _, rfl, rfl, wide_div (b := 30) (by decide) (by decide) (by decide) (by decide), _, rfl, _, _, rfl, rfl, h0, q _ _ (hmod _).1 (hmod _).2 k1 A1⟩
end
end Law

set_option Elab.async false
set_option linter.all false
set_option maxRecDepth 100000
set_option maxHeartbeats 4000000
namespace Law
open PySem PySem.Spec PyProof.Rows L2 GxR GX Tree Kit Data Loops Comps Purse Sets Small
section
variable {P : Program} {w : World} {K : PySem.W.Frag} {mg : Str → Option Value} {base : Heap} {fa : String → Addr} {fd : String → FuncData} {ca ta : String → Addr}
/-! ### drawn days -/
/-- a def that draws: it takes the purse and other arguments; it hands on a tree that is G, k coins at most -/
def Draws (Ts : List Addr) (C : List Addr) (p : Addr) (n k : Nat) (G : PyData → Prop) (H : Hp) (Q : VK) : Prop := ∀ v d H', Kx [p] H H' → At Ts C p (n + k) H' → Tr C H' v d → G d → Q v H'
theorem intsD_map : ∀ ns : List Int, intsD (ns.map PyData.int) = ns
  | [] => rfl
  | n :: ns => congrArg (n :: ·) (intsD_map ns)
theorem heard_ok {c : Int} {ns : List Int} (h1 : ns.Pairwise (· < ·)) (h2 : ∀ n ∈ ns, 0 ≤ n ∧ n < c) : heardB c (.list (ns.map .int)) = true := by
  show ((ns.map PyData.int).all (isWh 0 (c - 1)) && risesB (intsD (ns.map .int))) = true
  rw [intsD_map, Bool.and_eq_true]
  refine ⟨List.all_eq_true.mpr fun d hd => ?_, decide_eq_true h1⟩
  obtain ⟨n, hn, rfl⟩ := List.mem_map.mp hd
  have := h2 n hn
  show (decide (0 ≤ n) && decide (n ≤ c - 1)) = true
  simp only [Bool.and_eq_true, decide_eq_true_eq]
  omega
theorem nodup_le {js : List Nat} {n : Nat} (h1 : ∀ j ∈ js, j < n) (h2 : js.Nodup) : js.length ≤ n := by
  have := List.Nodup.length_le_of_subset (l₁ := js) (l₂ := List.range n) h2 (fun j hj => List.mem_range.mpr (h1 j hj))
  simpa using this
theorem ints_js (js : List Nat) : (js.map fun j : Nat => PyData.int (j : Int)) = (js.map fun j : Nat => (j : Int)).map PyData.int := by
  rw [List.map_map]; rfl
theorem rising_js {js : List Nat} (h : js.Pairwise (· < ·)) : (js.map fun j : Nat => (j : Int)).Pairwise (· < ·) := List.pairwise_map.mpr (h.imp fun h => by omega)
def sp_law_sight (Ts : List Addr) : Sp := fun vs H Q _ => ∃ (p : Addr) (n : Nat) (C : List Addr) (h c : Int), vs = [.ref p, .int h, .int c] ∧ 1 ≤ h ∧ h ≤ 10 ∧ 1 ≤ c ∧ c ≤ 4 ∧ n ≤ 900000000000 ∧ At Ts C p n H ∧ Draws Ts C p n 1000 (fun d => Sm 20 1000000 51 2 d ∧ sightB h c d = true) H Q
theorem ok__law_sight (Y : Facts K mg base fa fd ca ta) : FnOk P w K mg base CX0 2 (fa "_law_sight") (fd "_law_sight") ["purse", "hours", "craft"] (sp_law_sight (Ts ta)) := by
  refine Y.d__law_sight.ok sc__law_sight (fun vs H Q E h => ?_) (fun cdv A outer s H vs Q E hcd hr h => ?_)
  · obtain ⟨p, n, C, h, c, rfl, _⟩ := h; rfl
  · obtain ⟨p, n, C, h, c, rfl, h1, h2, c1, c2, hn, hA, q⟩ := h
    refine ⟨_, (pss_cons (ps_set (i := 3) sc__law_sight.nd rfl (by first | exact Or.inl rfl | exact Or.inr rfl) (pe_lst pa_nil))
      (pss_cons (ps_for PassesOwn.never rfl (pi_range1 (by rfl) Y.b.range (pa_cons (pv 1) pa_nil)) (pg_name (i := 4) sc__law_sight.nd rfl (by first | exact Or.inl rfl | exact Or.inr rfl)) (pss_cons (ps_setLc (i := 5) (own := [("one", 6)]) (g := gName 6) rfl sc__law_sight.nd rfl rfl (sw_true rfl rfl rfl (by decide +kernel)) (pi_range1 (by rfl) Y.b.range (pa_cons (pv 2) pa_nil)) (blkOk_by (N := ["purse", "hours", "craft", "found", "hour", "some", "one"]) (sc := defScope s__law_sight) (by decide +kernel)) (fun _ _ _ _ _ => (pg_name (i := 6) sc__law_sight.nd rfl (by first | exact Or.inl rfl | exact Or.inr rfl))) (fun _ _ _ _ _ => (pts_one (pt_cmpR op_gt (pe_call (ok__law_coin Y) (hr.mono (by decide)) (by rfl) Y.d__law_coin.g Y.d__law_coin.kp Y.d__law_coin.b .nil pass0 (pa_cons (pv 0) (pa_cons pe_int pa_nil))) pe_int (nomark _)))) (fun _ _ _ _ _ => (pv 6)))
      (pss_one (ps_expr (pe_bm PySem.F.plainAttrs_list PySem.F.slot_list_append PySem.F.type_list_append mt_append (pv 3) (pa_cons (pe_ix (ix_listK K rfl) (pe_lst (pa_cons (pv 5) (pa_cons (pv 5) (pa_cons (pe_listRg rfl (by rfl) Y.b.list (prg_1 (by rfl) Y.b.range (pv 2))) (pa_cons (pe_lst (pa_cons (pe_call (ok__law_coin Y) (hr.mono (by decide)) (by rfl) Y.d__law_coin.g Y.d__law_coin.kp Y.d__law_coin.b .nil pass0 (pa_cons (pv 0) (pa_cons (pv 2) pa_nil))) pa_nil)) (pa_cons (pe_lst pa_nil) pa_nil)))))) (pe_call (ok__law_coin Y) (hr.mono (by decide)) (by rfl) Y.d__law_coin.g Y.d__law_coin.kp Y.d__law_coin.b .nil pass0 (pa_cons (pv 0) (pa_cons pe_int pa_nil))) (fun _ _ => rfl)) pa_nil))))))
      (pss_one (ps_ret (pv 3))))), ?_⟩
    refine st_set ⟨len_ok, fun F hF => ?_⟩
    have kF : Kx [] H (upd H F (.lst [])) := Kx.new hF
    have nF : F ∉ C := hA.not hF
    have A0 : At (Ts ta) (F :: C) p n (upd H F (.lst [])) := (hA.kx kF).cons (by rw [upd_same]; simp)
    refine ⟨_, rfl, h, rfl, by omega, by omega, ?_⟩
    refine for_gen (itr_at h.toNat) (B := [p, F]) (Iv := fun i σ' H' => (∃ y4 y5, σ' = [some (.ref p), some (.int h), some (.int c), some (.ref F), y4, y5, none]) ∧ At (Ts ta) (F :: C) p (n + i * 10) H' ∧ ∃ xs ds, H' F = some (.lst xs) ∧ TrAll (F :: C) H' xs ds ∧ ds.length = i ∧ ∀ d ∈ ds, Sm 20 1000000 5 1 d ∧ heardB c d = true)
      ⟨⟨none, none, rfl⟩, A0, [], [], upd_same, .nil, rfl, fun d h => (nomatch h)⟩ (fun i σ' H1 hi k ⟨⟨y4, y5, e⟩, A1, xs, ds, hx, tx, lx, gx⟩ Nn hN => ?_) fun σ' H1 k ⟨⟨y4, y5, e⟩, A1, xs, ds, hx, tx, lx, gx⟩ => ?_
    · subst e
      have hi' : i < 10 := by omega
      refine st_name (st_set (lc_use ⟨_, rfl, c, rfl, by omega, by omega, ?_⟩))
      refine lc_puX (C := F :: C) (itr_at c.toNat) (by omega) 1 (fun j d => d = .int (j : Int)) A1 (fun D j H2 hD hj k2 A2 R R0 hR hR0 => ?_) fun D js es H2 k2 A2 tD hm hjs => ?_
      · refine ⟨rfl, .ref p, rfl, p, _, 3, _, rfl, by decide, by decide, by omega, A2, fun r H3 r0 r1 k3 A3 => ⟨_, _, rfl, rfl, _, rfl, ite2 (fun _ => ?_) fun _ => hR0 H3 k3 (A3.mono (by omega))⟩⟩
        exact ⟨_, rfl, hR _ _ H3 k3 (A3.mono (by omega)) (.int _) rfl⟩
      · have f2 : H2 F = some (.lst xs) := k2.lst (fun e => nF (by rw [List.mem_singleton.mp e]; exact hA.mem)) hx
        have c5 : c.toNat ≤ 4 := by omega
        refine ⟨.ref F, rfl, .inl ⟨rfl, xs, SqL.of f2⟩, .ref D, rfl, .ref D, rfl, .int c, rfl, c, rfl, RgOk.of_le (by decide) (by omega) (by decide) (by omega), fun R1 hR1 => ?_⟩
        have tR : TrAll (F :: C) H2 (rgV 0 c) (((List.range (c - 0).toNat).map fun i => ((0 : Int) + (i : Nat))).map PyData.int) := by
          have := TrAll.ints (B := F :: C) (H := H2) ((List.range (c - 0).toNat).map fun i => ((0 : Int) + (i : Nat)))
          rwa [List.map_map] at this
        obtain ⟨k3, e3, t3⟩ := mk_lst A2.al tR hR1
        have A3 := A2.kx k3
        generalize upd H2 R1 (.lst (rgV 0 c)) = H3 at k3 e3 t3 A3 ⊢
        refine ⟨.ref p, rfl, .int c, rfl, p, _, c, _, rfl, by omega, by omega, by omega, A3, fun r H4 r0 r1 k4 A4 => ⟨len_ok, fun L hL => ?_⟩⟩
        obtain ⟨k5, e5, t5⟩ := mk_lst A4.al (.cons (.int r) .nil) hL
        have A5 := A4.kx k5
        generalize upd H4 L (.lst [V.int r]) = H5 at k5 e5 t5 A5 ⊢
        refine ⟨len_ok, fun M hM => ?_⟩
        obtain ⟨k6, e6, t6⟩ := mk_lst A5.al .nil hM
        have A6 := A5.kx k6
        generalize upd H5 M (.lst []) = H6 at k6 e6 t6 A6 ⊢
        have tD6 : Tr (F :: C) H6 (.ref D) (.list es) := ((A3.tr (tD.up k3) k4).up k5).up k6
        have tR6 := ((A3.tr t3 k4).up k5).up k6
        refine ⟨len_ok, fun O hO => ?_⟩
        obtain ⟨k7, e7, t7⟩ := mk_lst A6.al (.cons tD6 (.cons tD6 (.cons tR6 (.cons (t5.up k6) (.cons t6 .nil))))) hO
        have A7 := A6.kx k7
        generalize upd H6 O (.lst [V.ref D, V.ref D, V.ref R1, V.ref L, V.ref M]) = H7 at k7 e7 t7 A7 ⊢
        refine ⟨.ref p, rfl, p, _, 5, _, rfl, by decide, by decide, by omega, A7, fun r2 H8 s0 s1 k8 A8 => ?_⟩
        have kk : Kx [p] H1 H8 := k2.trans (k3.of.trans (k4.trans ((k5.trans (k6.trans k7)).of.trans k8)))
        obtain ⟨ys, ey, ty⟩ := (A7.tr t7 k8).items
        obtain ⟨v, d, a1, a2, a3⟩ := pick ty s0 (by have := ty.length; simp at this; omega)
        have nFp : F ≠ p := fun e => nF (e ▸ hA.mem)
        have f8 : H8 F = some (.lst xs) := kk.lst (by simpa using nFp) hx
        have les := hm.length
        have ees := hm.eq
        have ljs : js.length ≤ c.toNat := by
          have h1 := hm.rising
          have h2 : js.Nodup := h1.imp fun h => Nat.ne_of_lt h
          exact nodup_le hjs h2
        have gd : Sm 20 1000000 5 1 d ∧ heardB c d = true := by
          have g1 : Sm 20 1000000 5 1 (.list es) ∧ heardB c (.list es) = true := by
            refine ⟨Sm.list (N := 4) (S := 1) (D := 0) (fun d hd => ?_) (by omega) (by decide), ?_⟩
            · rw [ees] at hd
              obtain ⟨j, hj, rfl⟩ := List.mem_map.mp hd
              have := hjs j hj
              exact Sm.int (by omega)
            · rw [ees, ints_js]
              refine heard_ok (rising_js hm.rising) fun n hn => ?_
              obtain ⟨j, hj, rfl⟩ := List.mem_map.mp hn
              have := hjs j hj
              omega
          simp only [List.mem_cons, List.mem_singleton, List.not_mem_nil, or_false] at a3
          rcases a3 with rfl | rfl | rfl | rfl | rfl
          · exact g1
          · exact g1
          · refine ⟨Sm.list (N := 4) (S := 1) (D := 0) (fun d hd => ?_) (by simp; omega) (by decide), heard_ok ?_ fun n hn => ?_⟩
            · simp only [List.mem_map, List.mem_range] at hd
              obtain ⟨j, ⟨m, hm, rfl⟩, rfl⟩ := hd
              exact Sm.int (by omega)
            · exact List.pairwise_map.mpr (List.pairwise_lt_range.imp fun h => by omega)
            · simp only [List.mem_map, List.mem_range] at hn
              obtain ⟨m, hm, rfl⟩ := hn
              omega
          · refine ⟨Sm.list (N := 4) (S := 1) (D := 0) (fun d hd => ?_) (by simp) (by decide), heard_ok (ns := [r]) (List.pairwise_singleton _ _) fun n hn => ?_⟩
            · rw [List.mem_singleton.mp hd]
              exact Sm.int (by omega)
            · rw [List.mem_singleton.mp hn]
              omega
          · exact ⟨Sm.list (N := 4) (S := 1) (D := 0) (fun d hd => by simp at hd) (by simp) (by decide), heard_ok (ns := []) .nil fun n hn => by simp at hn⟩
        refine ⟨O, ys, r2, v, rfl, rfl, SqL.of ey, a1, F, xs, v, rfl, rfl, f8, ?_, hN _ _ ?_ ⟨⟨_, _, rfl⟩, (A8.mono (by omega)).set f8 nFp, xs ++ [v], ds ++ [d], upd_same, ?_, ?_, ?_⟩⟩
        · have := tx.length
          unfold sizeLine
          omega
        · exact (k.trans (kk.sub (by simp))).trans (Kx.put (by simp))
        · have t9 := TrAll.kx kk (fun b hb => by rw [List.mem_singleton.mp hb]; exact A1.mem) _ _ tx
          exact TrAll.kx (Kx.put (B := [F]) (by simp)) (fun b hb => by simp_all) _ _ (t9.snoc a2)
        · rw [List.length_append, lx]; rfl
        · intro d' hd'
          rcases List.mem_append.mp hd' with z | z
          · exact gx d' z
          · rw [List.mem_singleton.mp z]; exact gd
    · subst e
      refine ⟨_, rfl, q _ (.list ds) H1 (Kx.weak (kF.of.trans k) fun b hb => ?_) ((A1.mono (by omega)).less (fun c hc => List.mem_cons_of_mem _ hc) hA.mem) (.lst nF hx (TrAll.less (fun b hb => List.mem_cons_of_mem _ hb) _ _ tx)) ⟨Sm.list (N := 10) (fun d hd => (gx d hd).1) (by omega) (by decide), ?_⟩⟩
      · simp only [List.mem_cons, List.not_mem_nil, or_false] at hb
        rcases hb with rfl | rfl
        · exact .inl (by simp)
        · exact .inr hF
      · show (isLs h h (.list ds) && ds.all (heardB c)) = true
        rw [Bool.and_eq_true]
        refine ⟨?_, List.all_eq_true.mpr fun d hd => (gx d hd).2⟩
        show (decide (h ≤ (ds.length : Int)) && decide ((ds.length : Int) ≤ h)) = true
        simp only [Bool.and_eq_true, decide_eq_true_eq]
        omega
theorem isWh_ok {lo hi i : Int} (h1 : lo ≤ i) (h2 : i ≤ hi) : isWh lo hi (.int i) = true := by
  show (decide (lo ≤ i) && decide (i ≤ hi)) = true
  simp only [Bool.and_eq_true, decide_eq_true_eq]
  exact ⟨h1, h2⟩
theorem isLs_ok {lo hi : Int} {ds : List PyData} (h1 : lo ≤ (ds.length : Int)) (h2 : (ds.length : Int) ≤ hi) : isLs lo hi (.list ds) = true := by
  show (decide (lo ≤ (ds.length : Int)) && decide ((ds.length : Int) ≤ hi)) = true
  simp only [Bool.and_eq_true, decide_eq_true_eq]
  exact ⟨h1, h2⟩
theorem block_ok {h c ho nu re : Int} {dd d : PyData} (a1 : 0 ≤ ho) (a2 : ho < 6) (b1 : 0 ≤ nu) (b2 : nu < c) (c1 : 0 ≤ re) (c2 : re < h) (vd : (isNone dd || isWh re (h - 1) dd) = true) (vw : isWh 1 9999 d = true) : blockB h c (.tuple [.int ho, .int nu, .int re, dd, d]) = true := by
  show (isWh 0 5 (.int ho) && (isWh 0 (c - 1) (.int nu) && (isWh 0 (h - 1) (.int re) && ((isNone dd || isWh re (h - 1) dd) && isWh 1 9999 d)))) = true
  rw [isWh_ok a1 (by omega), isWh_ok b1 (by omega), isWh_ok c1 (by omega), vd, vw]
  rfl
def sp_law_block (Ts : List Addr) : Sp := fun vs H Q _ => ∃ (p : Addr) (n : Nat) (C : List Addr) (h c : Int), vs = [.ref p, .int h, .int c] ∧ 1 ≤ h ∧ h ≤ 10 ∧ 1 ≤ c ∧ c ≤ 4 ∧ n ≤ 900000000000 ∧ At Ts C p n H ∧ Draws Ts C p n 20 (fun d => Sm 20 1000000 6 1 d ∧ blockB h c d = true) H Q
theorem ok__law_block (Y : Facts K mg base fa fd ca ta) : FnOk P w K mg base CX0 2 (fa "_law_block") (fd "_law_block") ["purse", "hours", "craft"] (sp_law_block (Ts ta)) := by
  refine Y.d__law_block.ok sc__law_block (fun vs H Q E h => ?_) (fun cdv A outer s H vs Q E hcd hr h => ?_)
  · obtain ⟨p, n, C, h, c, rfl, _⟩ := h; rfl
  · obtain ⟨p, n, C, h, c, rfl, h1, h2, c1, c2, hn, hA, q⟩ := h
    refine ⟨_, (pss_cons (ps_set (i := 3) sc__law_block.nd rfl (by first | exact Or.inl rfl | exact Or.inr rfl) (pe_ix (ix_listK K rfl) (pe_lst (pa_cons (pe_call (ok__law_coin Y) (hr.mono (by decide)) (by rfl) Y.d__law_coin.g Y.d__law_coin.kp Y.d__law_coin.b .nil pass0 (pa_cons (pv 0) (pa_cons (pv 1) pa_nil))) (pa_cons pe_int pa_nil))) (pe_callTy call_int1 (by rfl) Y.b.int (by decide +kernel) (pa_cons (pe_cmpR op_eq (pe_call (ok__law_coin Y) (hr.mono (by decide)) (by rfl) Y.d__law_coin.g Y.d__law_coin.kp Y.d__law_coin.b .nil pass0 (pa_cons (pv 0) (pa_cons pe_int pa_nil))) pe_int (nomark _)) pa_nil)) (fun _ _ => rfl)))
      (pss_cons (ps_set (i := 4) sc__law_block.nd rfl (by first | exact Or.inl rfl | exact Or.inr rfl) pe_non)
      (pss_cons (ps_if (pt_cmpR op_eq (pe_call (ok__law_coin Y) (hr.mono (by decide)) (by rfl) Y.d__law_coin.g Y.d__law_coin.kp Y.d__law_coin.b .nil pass0 (pa_cons (pv 0) (pa_cons pe_int pa_nil))) pe_int (nomark _)) (pss_one (ps_set (i := 4) sc__law_block.nd rfl (by first | exact Or.inl rfl | exact Or.inr rfl) (pe_op op_add (pv 3) (pe_call (ok__law_coin Y) (hr.mono (by decide)) (by rfl) Y.d__law_coin.g Y.d__law_coin.kp Y.d__law_coin.b .nil pass0 (pa_cons (pv 0) (pa_cons (pe_op op_sub (pv 1) (pv 3)) pa_nil)))))) pss_nil)
      (pss_cons (ps_set (i := 5) sc__law_block.nd rfl (by first | exact Or.inl rfl | exact Or.inr rfl) (pe_lst (pa_cons (pe_op op_add pe_int (pe_call (ok__law_coin Y) (hr.mono (by decide)) (by rfl) Y.d__law_coin.g Y.d__law_coin.kp Y.d__law_coin.b .nil pass0 (pa_cons (pv 0) (pa_cons pe_int pa_nil)))) (pa_cons (pe_op op_add pe_int (pe_call (ok__law_coin Y) (hr.mono (by decide)) (by rfl) Y.d__law_coin.g Y.d__law_coin.kp Y.d__law_coin.b .nil pass0 (pa_cons (pv 0) (pa_cons pe_int pa_nil)))) (pa_cons (pe_op op_add pe_int (pe_call (ok__law_coin Y) (hr.mono (by decide)) (by rfl) Y.d__law_coin.g Y.d__law_coin.kp Y.d__law_coin.b .nil pass0 (pa_cons (pv 0) (pa_cons pe_int pa_nil)))) (pa_cons pe_int pa_nil))))))
      (pss_one (ps_ret (pe_tup (pa_cons (pe_call (ok__law_coin Y) (hr.mono (by decide)) (by rfl) Y.d__law_coin.g Y.d__law_coin.kp Y.d__law_coin.b .nil pass0 (pa_cons (pv 0) (pa_cons pe_int pa_nil))) (pa_cons (pe_call (ok__law_coin Y) (hr.mono (by decide)) (by rfl) Y.d__law_coin.g Y.d__law_coin.kp Y.d__law_coin.b .nil pass0 (pa_cons (pv 0) (pa_cons (pv 2) pa_nil))) (pa_cons (pv 3) (pa_cons (pv 4) (pa_cons (pe_ix (ix_listK K rfl) (pv 5) (pe_call (ok__law_coin Y) (hr.mono (by decide)) (by rfl) Y.d__law_coin.g Y.d__law_coin.kp Y.d__law_coin.b .nil pass0 (pa_cons (pv 0) (pa_cons pe_int pa_nil))) (fun _ _ => rfl)) pa_nil)))))))))))), ?_⟩
    refine ⟨.ref p, rfl, .int h, rfl, p, _, h, _, rfl, by omega, by omega, by omega, hA, fun r1 H1 r10 r11 k1 A1 => ⟨len_ok, fun L hL => ?_⟩⟩
    obtain ⟨k2, e2, t2⟩ := mk_lst A1.al (.cons (.int r1) (.cons (.int 0) .nil)) hL
    have A2 := A1.kx k2
    generalize upd H1 L (.lst [V.int r1, V.int 0]) = H2 at k2 e2 t2 A2 ⊢
    refine ⟨.ref p, rfl, p, _, 4, _, rfl, by decide, by decide, by omega, A2, fun z H3 z0 z1 k3 A3 => ⟨rfl, .inr ⟨_, rfl, ?_⟩⟩⟩
    obtain ⟨ys, ey, ty⟩ := (A2.tr t2 k3).items
    obtain ⟨re, are, re0, re1⟩ : ∃ re, atI ys (if decide (V.int z = V.int 0) then 1 else 0) = some (.int re) ∧ 0 ≤ re ∧ re < h := by
      have hl := ty.length
      obtain ⟨v, d, a1, a2, a3⟩ := pick ty (r := if decide (V.int z = V.int 0) = true then 1 else 0) (by split <;> omega) (by simp at hl; split <;> omega)
      simp only [List.mem_cons, List.mem_singleton, List.not_mem_nil, or_false] at a3
      rcases a3 with rfl | rfl
      · rw [Tree.Tr.intV a2] at a1
        exact ⟨_, a1, r10, r11⟩
      · rw [Tree.Tr.intV a2] at a1
        exact ⟨_, a1, by omega, by omega⟩
    refine ⟨L, ys, _, _, rfl, rfl, SqL.of ey, are, ?_⟩
    have k03 : Kx [p] H H3 := k1.trans (k2.of.trans k3)
    refine ⟨.ref p, rfl, p, _, 3, _, rfl, by decide, by decide, by omega, A3, fun y H4 y0 y1 k4 A4 => ⟨rfl, _, rfl, ?_⟩⟩
    have k04 := k03.trans k4
    refine ite2 (fun cc => ?_) (fun cc => ?_)
    · refine ⟨_, rfl, .ref p, rfl, .int h, rfl, _, rfl, _, _, rfl, rfl, p, _, h - re, _, rfl, by omega, by omega, by omega, A4, fun du H5 du0 du1 k5 A5 => ⟨_, _, rfl, rfl, ?_⟩⟩
      have kd := k04.trans k5
      have td : Tr C H5 (V.int (re + du)) (.int (re + du)) := .int _
      have sd : Sm 20 1000000 1 0 (.int (re + du)) := Sm.int (by omega)
      have vd : (isNone (.int (re + du)) || isWh re (h - 1) (.int (re + du))) = true := isWh_ok (by omega) (by omega)
      refine ⟨.ref p, rfl, p, _, 4, _, rfl, by decide, by decide, by omega, A5, fun w1 H6 w10 w11 k6 A6 => ⟨_, _, rfl, rfl, ?_⟩⟩
      refine ⟨.ref p, rfl, p, _, 30, _, rfl, by decide, by decide, by omega, A6, fun w2 H7 w20 w21 k7 A7 => ⟨_, _, rfl, rfl, ?_⟩⟩
      refine ⟨.ref p, rfl, p, _, 9999, _, rfl, by decide, by decide, by omega, A7, fun w3 H8 w30 w31 k8 A8 => ⟨_, _, rfl, rfl, len_ok, fun L hL => ?_⟩⟩
      obtain ⟨k9, e9, t9⟩ := mk_lst A8.al (.cons (.int (1 + w1)) (.cons (.int (1 + w2)) (.cons (.int (1 + w3)) (.cons (.int 9999) .nil)))) hL
      have A9 := A8.kx k9
      generalize upd H8 L (.lst [V.int (1 + w1), V.int (1 + w2), V.int (1 + w3), V.int 9999]) = H9 at k9 e9 t9 A9 ⊢
      refine ⟨.ref p, rfl, p, _, 6, _, rfl, by decide, by decide, by omega, A9, fun ho HA ho0 ho1 kA AA => ?_⟩
      refine ⟨.ref p, rfl, .int c, rfl, p, _, c, _, rfl, by omega, by omega, by omega, AA, fun cr HB cr0 cr1 kB AB => ?_⟩
      refine ⟨_, rfl, _, rfl, .ref L, rfl, .ref p, rfl, p, _, 4, _, rfl, by decide, by decide, by omega, AB, fun wi HC wi0 wi1 kC AC => ?_⟩
      have kk := (kA.trans kB).trans kC
      obtain ⟨ys, ey, ty⟩ := (A9.tr t9 kk).items
      obtain ⟨v, d, a1, a2, a3⟩ := pick ty wi0 (by have := ty.length; simp at this; omega)
      have gd : Sm 20 1000000 1 0 d ∧ isWh 1 9999 d = true := by
        simp only [List.mem_cons, List.mem_singleton, List.not_mem_nil, or_false] at a3
        rcases a3 with rfl | rfl | rfl | rfl <;> exact ⟨Sm.int (by omega), isWh_ok (by omega) (by omega)⟩
      have k5C : Kx [p] H5 HC := k6.trans (k7.trans (k8.trans (k9.of.trans kk)))
      refine ⟨L, ys, wi, v, rfl, rfl, SqL.of ey, a1, len_ok, fun T hT => ?_⟩
      obtain ⟨kT, eT, tT⟩ := mk_tup AC.al (.cons (.int ho) (.cons (.int cr) (.cons (.int re) (.cons (A5.tr td k5C) (.cons a2 .nil))))) hT
      have AT := AC.kx kT
      refine q _ _ _ (kd.trans (k5C.trans kT.of)) (AT.mono (by omega)) tT ⟨Sm.tuple (N := 5) (S := 1) (D := 0) (fun d hd => ?_) (by simp) (by decide), block_ok ho0 ho1 cr0 cr1 re0 re1 vd gd.2⟩
      simp only [List.mem_cons, List.mem_singleton, List.not_mem_nil, or_false] at hd
      rcases hd with rfl | rfl | rfl | rfl | rfl
      · exact Sm.int (by omega)
      · exact Sm.int (by omega)
      · exact Sm.int (by omega)
      · exact sd
      · exact gd.1
    · have td : Tr C H4 V.non .none := .non
      have sd : Sm 20 1000000 1 0 .none := Sm.none
      have vd : (isNone .none || isWh re (h - 1) .none) = true := rfl
      have kd := k04
      have A5 := A4
      have h5 : ∃ H5, H5 = H4 := ⟨_, rfl⟩
      obtain ⟨H5, e5⟩ := h5
      rw [← e5] at kd A5 td ⊢
      refine ⟨.ref p, rfl, p, _, 4, _, rfl, by decide, by decide, by omega, A5, fun w1 H6 w10 w11 k6 A6 => ⟨_, _, rfl, rfl, ?_⟩⟩
      refine ⟨.ref p, rfl, p, _, 30, _, rfl, by decide, by decide, by omega, A6, fun w2 H7 w20 w21 k7 A7 => ⟨_, _, rfl, rfl, ?_⟩⟩
      refine ⟨.ref p, rfl, p, _, 9999, _, rfl, by decide, by decide, by omega, A7, fun w3 H8 w30 w31 k8 A8 => ⟨_, _, rfl, rfl, len_ok, fun L hL => ?_⟩⟩
      obtain ⟨k9, e9, t9⟩ := mk_lst A8.al (.cons (.int (1 + w1)) (.cons (.int (1 + w2)) (.cons (.int (1 + w3)) (.cons (.int 9999) .nil)))) hL
      have A9 := A8.kx k9
      generalize upd H8 L (.lst [V.int (1 + w1), V.int (1 + w2), V.int (1 + w3), V.int 9999]) = H9 at k9 e9 t9 A9 ⊢
      refine ⟨.ref p, rfl, p, _, 6, _, rfl, by decide, by decide, by omega, A9, fun ho HA ho0 ho1 kA AA => ?_⟩
      refine ⟨.ref p, rfl, .int c, rfl, p, _, c, _, rfl, by omega, by omega, by omega, AA, fun cr HB cr0 cr1 kB AB => ?_⟩
      refine ⟨_, rfl, _, rfl, .ref L, rfl, .ref p, rfl, p, _, 4, _, rfl, by decide, by decide, by omega, AB, fun wi HC wi0 wi1 kC AC => ?_⟩
      have kk := (kA.trans kB).trans kC
      obtain ⟨ys, ey, ty⟩ := (A9.tr t9 kk).items
      obtain ⟨v, d, a1, a2, a3⟩ := pick ty wi0 (by have := ty.length; simp at this; omega)
      have gd : Sm 20 1000000 1 0 d ∧ isWh 1 9999 d = true := by
        simp only [List.mem_cons, List.mem_singleton, List.not_mem_nil, or_false] at a3
        rcases a3 with rfl | rfl | rfl | rfl <;> exact ⟨Sm.int (by omega), isWh_ok (by omega) (by omega)⟩
      have k5C : Kx [p] H5 HC := k6.trans (k7.trans (k8.trans (k9.of.trans kk)))
      refine ⟨L, ys, wi, v, rfl, rfl, SqL.of ey, a1, len_ok, fun T hT => ?_⟩
      obtain ⟨kT, eT, tT⟩ := mk_tup AC.al (.cons (.int ho) (.cons (.int cr) (.cons (.int re) (.cons (A5.tr td k5C) (.cons a2 .nil))))) hT
      have AT := AC.kx kT
      refine q _ _ _ (kd.trans (k5C.trans kT.of)) (AT.mono (by omega)) tT ⟨Sm.tuple (N := 5) (S := 1) (D := 0) (fun d hd => ?_) (by simp) (by decide), block_ok ho0 ho1 cr0 cr1 re0 re1 vd gd.2⟩
      simp only [List.mem_cons, List.mem_singleton, List.not_mem_nil, or_false] at hd
      rcases hd with rfl | rfl | rfl | rfl | rfl
      · exact Sm.int (by omega)
      · exact Sm.int (by omega)
      · exact Sm.int (by omega)
      · exact sd
      · exact gd.1
/-- a drawn day -/
structure DayG (most blocks : Int) (d : PyData) : Prop where
  ex : ∃ (h : Int) (sts sis ask bls : List PyData), d = .tuple [.int h, .list sts, .list sis, .list ask, .list bls] ∧ 1 ≤ h ∧ h ≤ most ∧ 1 ≤ sts.length ∧ sts.length ≤ 4 ∧ 1 ≤ sis.length ∧ sis.length ≤ 3 ∧ ask.length = sis.length ∧ (bls.length : Int) ≤ blocks ∧
    (∀ d ∈ sts, Sm 20 1000000 1 0 d) ∧ (∀ d ∈ sis, Sm 20 1000000 51 2 d) ∧ (∀ d ∈ ask, Sm 20 1000000 1 0 d) ∧ (∀ d ∈ bls, Sm 20 1000000 6 1 d) ∧ isDayB d = true
def sp_law_day (Ts : List Addr) : Sp := fun vs H Q _ => ∃ (p : Addr) (n : Nat) (C : List Addr) (most blocks : Int), vs = [.ref p, .int most, .int blocks] ∧ 1 ≤ most ∧ most ≤ 10 ∧ 0 ≤ blocks ∧ blocks ≤ 14 ∧ n ≤ 800000000000 ∧ At Ts C p n H ∧ Draws Ts C p n 10000 (DayG most blocks) H Q
theorem ok__law_day (Y : Facts K mg base fa fd ca ta) : FnOk P w K mg base CX0 3 (fa "_law_day") (fd "_law_day") ["purse", "most", "blocks"] (sp_law_day (Ts ta)) := by
  refine Y.d__law_day.ok sc__law_day (fun vs H Q E h => ?_) (fun cdv A outer s H vs Q E hcd hr h => ?_)
  · obtain ⟨p, n, C, h, c, rfl, _⟩ := h; rfl
  · obtain ⟨p, n, C, most, blocks, rfl, m1, m2, b1, b2, hn, hA, q⟩ := h
    refine ⟨_, (pss_cons (ps_set (i := 3) sc__law_day.nd rfl (by first | exact Or.inl rfl | exact Or.inr rfl) (pe_callTy call_int1 (by rfl) Y.b.int (by decide +kernel) (pa_cons (pe_cmpR op_eq (pe_call (ok__law_coin Y) (hr.mono (by decide)) (by rfl) Y.d__law_coin.g Y.d__law_coin.kp Y.d__law_coin.b .nil pass0 (pa_cons (pv 0) (pa_cons pe_int pa_nil))) pe_int (nomark _)) pa_nil)))
      (pss_cons (ps_set (i := 4) sc__law_day.nd rfl (by first | exact Or.inl rfl | exact Or.inr rfl) (pe_ix (ix_listK K rfl) (pe_lst (pa_cons (pe_op op_add pe_int (pe_call (ok__law_coin Y) (hr.mono (by decide)) (by rfl) Y.d__law_coin.g Y.d__law_coin.kp Y.d__law_coin.b .nil pass0 (pa_cons (pv 0) (pa_cons (pv 1) pa_nil)))) (pa_cons (pv 1) pa_nil))) (pv 3) (fun _ _ => rfl)))
      (pss_cons (ps_set (i := 5) sc__law_day.nd rfl (by first | exact Or.inl rfl | exact Or.inr rfl) (pe_ix (ix_listK K rfl) (pe_lst (pa_cons (pe_op op_add pe_int (pe_call (ok__law_coin Y) (hr.mono (by decide)) (by rfl) Y.d__law_coin.g Y.d__law_coin.kp Y.d__law_coin.b .nil pass0 (pa_cons (pv 0) (pa_cons pe_int pa_nil)))) (pa_cons (pe_op op_add pe_int (pe_call (ok__law_coin Y) (hr.mono (by decide)) (by rfl) Y.d__law_coin.g Y.d__law_coin.kp Y.d__law_coin.b .nil pass0 (pa_cons (pv 0) (pa_cons pe_int pa_nil)))) pa_nil))) (pe_call (ok__law_coin Y) (hr.mono (by decide)) (by rfl) Y.d__law_coin.g Y.d__law_coin.kp Y.d__law_coin.b .nil pass0 (pa_cons (pv 0) (pa_cons pe_int pa_nil))) (fun _ _ => rfl)))
      (pss_cons (ps_setLc (i := 6) (own := [("one", 11)]) (g := gName 11) (tt := tYes) rfl sc__law_day.nd rfl rfl (sw_true rfl rfl rfl (by decide +kernel)) (pi_range1 (by rfl) Y.b.range (pa_cons (pv 5) pa_nil)) (blkOk_by (N := ["purse", "most", "blocks", "full", "hours", "craft", "stores", "dishes", "sights", "asks", "many", "one", "dish"]) (sc := defScope s__law_day) (by decide +kernel)) (fun _ _ _ _ _ => (pg_name (i := 11) sc__law_day.nd rfl (by first | exact Or.inl rfl | exact Or.inr rfl))) (fun _ _ _ _ _ => pts_nil) (fun _ _ _ _ _ => (pe_ix (ix_listK K rfl) (pe_lst (pa_cons pe_int (pa_cons pe_int (pa_cons pe_int (pa_cons pe_int (pa_cons (pe_call (ok__law_coin Y) (hr.mono (by decide)) (by rfl) Y.d__law_coin.g Y.d__law_coin.kp Y.d__law_coin.b .nil pass0 (pa_cons (pv 0) (pa_cons pe_int pa_nil))) (pa_cons pe_int pa_nil))))))) (pe_call (ok__law_coin Y) (hr.mono (by decide)) (by rfl) Y.d__law_coin.g Y.d__law_coin.kp Y.d__law_coin.b .nil pass0 (pa_cons (pv 0) (pa_cons pe_int pa_nil))) (fun _ _ => rfl))))
      (pss_cons (ps_set (i := 7) sc__law_day.nd rfl (by first | exact Or.inl rfl | exact Or.inr rfl) (pe_ix (ix_listK K rfl) (pe_lst (pa_cons pe_int (pa_cons pe_int (pa_cons (pe_op op_add pe_int (pe_call (ok__law_coin Y) (hr.mono (by decide)) (by rfl) Y.d__law_coin.g Y.d__law_coin.kp Y.d__law_coin.b .nil pass0 (pa_cons (pv 0) (pa_cons pe_int pa_nil)))) pa_nil)))) (pe_call (ok__law_coin Y) (hr.mono (by decide)) (by rfl) Y.d__law_coin.g Y.d__law_coin.kp Y.d__law_coin.b .nil pass0 (pa_cons (pv 0) (pa_cons pe_int pa_nil))) (fun _ _ => rfl)))
      (pss_cons (ps_setLc (i := 8) (own := [("dish", 12)]) (g := gName 12) (tt := tYes) rfl sc__law_day.nd rfl rfl (sw_true rfl rfl rfl (by decide +kernel)) (pi_range1 (by rfl) Y.b.range (pa_cons (pv 7) pa_nil)) (blkOk_by (N := ["purse", "most", "blocks", "full", "hours", "craft", "stores", "dishes", "sights", "asks", "many", "one", "dish"]) (sc := defScope s__law_day) (by decide +kernel)) (fun _ _ _ _ _ => (pg_name (i := 12) sc__law_day.nd rfl (by first | exact Or.inl rfl | exact Or.inr rfl))) (fun _ _ _ _ _ => pts_nil) (fun _ _ _ _ _ => (pe_call (ok__law_sight Y) (hr.mono (by decide)) (by rfl) Y.d__law_sight.g Y.d__law_sight.kp Y.d__law_sight.b .nil pass0 (pa_cons (pv 0) (pa_cons (pv 4) (pa_cons (pv 5) pa_nil))))))
      (pss_cons (ps_setLc (i := 9) (own := [("dish", 12)]) (g := gName 12) (tt := tYes) rfl sc__law_day.nd rfl rfl (sw_true rfl rfl rfl (by decide +kernel)) (pi_listK K rfl (pv 8)) (blkOk_by (N := ["purse", "most", "blocks", "full", "hours", "craft", "stores", "dishes", "sights", "asks", "many", "one", "dish"]) (sc := defScope s__law_day) (by decide +kernel)) (fun _ _ _ _ _ => (pg_name (i := 12) sc__law_day.nd rfl (by first | exact Or.inl rfl | exact Or.inr rfl))) (fun _ _ _ _ _ => pts_nil) (fun _ _ _ _ _ => (pe_ix (ix_listK K rfl) (pe_lst (pa_cons pe_non (pa_cons pe_non (pa_cons (pe_call (ok__law_coin Y) (hr.mono (by decide)) (by rfl) Y.d__law_coin.g Y.d__law_coin.kp Y.d__law_coin.b .nil pass0 (pa_cons (pv 0) (pa_cons pe_int pa_nil))) (pa_cons (pe_call (ok__law_coin Y) (hr.mono (by decide)) (by rfl) Y.d__law_coin.g Y.d__law_coin.kp Y.d__law_coin.b .nil pass0 (pa_cons (pv 0) (pa_cons pe_int pa_nil))) (pa_cons pe_int pa_nil)))))) (pe_call (ok__law_coin Y) (hr.mono (by decide)) (by rfl) Y.d__law_coin.g Y.d__law_coin.kp Y.d__law_coin.b .nil pass0 (pa_cons (pv 0) (pa_cons pe_int pa_nil))) (fun _ _ => rfl))))
      (pss_cons (ps_set (i := 10) sc__law_day.nd rfl (by first | exact Or.inl rfl | exact Or.inr rfl) (pe_ix (ix_listK K rfl) (pe_lst (pa_cons (pe_call (ok__law_coin Y) (hr.mono (by decide)) (by rfl) Y.d__law_coin.g Y.d__law_coin.kp Y.d__law_coin.b .nil pass0 (pa_cons (pv 0) (pa_cons (pe_op op_add (pv 2) pe_int) pa_nil))) (pa_cons (pv 2) pa_nil))) (pv 3) (fun _ _ => rfl)))
      (pss_one (ps_ret (pe_tup (pa_cons (pv 4) (pa_cons (pv 6) (pa_cons (pv 8) (pa_cons (pv 9) (pa_cons (pe_lc (own := [("one", 11)]) (g := gName 11) (tt := tYes) rfl sc__law_day.nd (pi_range1 (by rfl) Y.b.range (pa_cons (pv 10) pa_nil)) (blkOk_by (N := ["purse", "most", "blocks", "full", "hours", "craft", "stores", "dishes", "sights", "asks", "many", "one", "dish"]) (sc := defScope s__law_day) (by decide +kernel)) (fun _ _ _ _ _ => (pg_name (i := 11) sc__law_day.nd rfl (by first | exact Or.inl rfl | exact Or.inr rfl))) (fun _ _ _ _ _ => pts_nil) (fun _ _ _ _ _ => (pe_call (ok__law_block Y) (hr.mono (by decide)) (by rfl) Y.d__law_block.g Y.d__law_block.kp Y.d__law_block.b .nil pass0 (pa_cons (pv 0) (pa_cons (pv 4) (pa_cons (pv 5) pa_nil)))))) pa_nil)))))))))))))))), ?_⟩
    -- full
    refine ⟨.ref p, rfl, p, _, 8, _, rfl, by decide, by decide, by omega, hA, fun z H1 z0 z1 k1 A1 => ⟨rfl, .inr ⟨_, rfl, ?_⟩⟩⟩
    have ff : 0 ≤ (if decide (V.int z = V.int 0) = true then (1 : Int) else 0) ∧ (if decide (V.int z = V.int 0) = true then (1 : Int) else 0) < 2 := by split <;> omega
    generalize (if decide (V.int z = V.int 0) = true then (1 : Int) else 0) = f at ff ⊢
    -- hours
    refine ⟨.ref p, rfl, .int most, rfl, p, _, most, _, rfl, by omega, by omega, by omega, A1, fun r H2 r0 r1 k2 A2 => ⟨_, _, rfl, rfl, _, rfl, len_ok, fun L hL => ?_⟩⟩
    generalize hq3 : upd H2 L _ = H3
    obtain ⟨k3, e3⟩ := new_at hL hq3
    clear hq3
    have A3 := A2.kx k3
    obtain ⟨hh, a3, i3⟩ := pickI (ns := [1 + r, most]) ff.1 (by simpa using ff.2)
    have h1 : 1 ≤ hh ∧ hh ≤ most := by
      simp only [List.mem_cons, List.mem_singleton, List.not_mem_nil, or_false] at i3
      omega
    refine ⟨_, rfl, L, _, f, _, rfl, rfl, SqL.of e3, a3, ?_⟩
    -- craft
    refine ⟨.ref p, rfl, p, _, 2, _, rfl, by decide, by decide, by omega, A3, fun x1 H4 x10 x11 k4 A4 => ⟨_, _, rfl, rfl, .ref p, rfl, p, _, 4, _, rfl, by decide, by decide, by omega, A4, fun x2 H5 x20 x21 k5 A5 => ⟨_, _, rfl, rfl, len_ok, fun L2 hL2 => ?_⟩⟩⟩
    generalize hq6 : upd H5 L2 _ = H6
    obtain ⟨k6, e6⟩ := new_at hL2 hq6
    clear hq6
    have A6 := A5.kx k6
    refine ⟨.ref p, rfl, p, _, 2, _, rfl, by decide, by decide, by omega, A6, fun ci H7 i0 i1 k7 A7 => ?_⟩
    obtain ⟨cr, a7, i7⟩ := pickI (ns := [1 + x1, 1 + x2]) i0 (by simpa using i1)
    have c1 : 1 ≤ cr ∧ cr ≤ 4 := by
      simp only [List.mem_cons, List.mem_singleton, List.not_mem_nil, or_false] at i7
      omega
    refine ⟨L2, _, ci, _, rfl, rfl, SqL.of (k7.lst (A5.nep hL2) e6), a7, ?_⟩
    have k07 : Kx [p] H H7 := k1.trans (k2.trans (k3.of.trans (k4.trans (k5.trans (k6.of.trans k7)))))
    -- stores
    refine st_name ?_
    dsimp only
    refine st_set (lc_use ?_)
    refine ⟨_, rfl, cr, rfl, by omega, by omega, ?_⟩
    refine lc_pu (itr_at cr.toNat) (by omega) 2 (fun d => Sm 20 1000000 1 0 d ∧ isWh 0 5 d = true) true A7 (fun D i Hs hD hi ks As R R0 hR hR0 => ?_) fun DS sts H8 k8 A8 tS _ xS gS => ?_
    · refine ⟨rfl, st_yes ⟨.ref p, rfl, p, _, 6, _, rfl, by decide, by decide, by omega, As, fun x Ht x0 x1 kt At => ⟨len_ok, fun L3 hL3 => ?_⟩⟩⟩
      generalize hqu : upd Ht L3 _ = Hu
      obtain ⟨ku, eu⟩ := new_at hL3 hqu
      clear hqu
      refine ⟨.ref p, rfl, p, _, 6, _, rfl, by decide, by decide, by omega, At.kx ku, fun y Hv y0 y1 kv Av => ?_⟩
      obtain ⟨st, av, iv⟩ := pickI (ns := [0, 1, 1, 2, x, 5]) y0 (by simpa using y1)
      have s1 : 0 ≤ st ∧ st ≤ 5 := by
        simp only [List.mem_cons, List.mem_singleton, List.not_mem_nil, or_false] at iv
        omega
      exact ⟨L3, _, y, _, rfl, rfl, SqL.of (kv.lst (At.nep hL3) eu), av, hR _ _ Hv (kt.trans (ku.of.trans kv)) (Av.mono (by omega)) (.int _) ⟨Sm.int (by omega), isWh_ok s1.1 s1.2⟩⟩
    have lS := xS rfl
    clear xS
    -- dishes
    refine ⟨.ref p, rfl, p, _, 3, _, rfl, by decide, by decide, by omega, A8, fun x3 H9 x30 x31 k9 A9 => ⟨_, _, rfl, rfl, len_ok, fun L4 hL4 => ?_⟩⟩
    generalize hqa : upd H9 L4 _ = Ha
    obtain ⟨ka, ea⟩ := new_at hL4 hqa
    clear hqa
    refine ⟨.ref p, rfl, p, _, 3, _, rfl, by decide, by decide, by omega, A9.kx ka, fun di Hb i0' i1' kb Ab => ?_⟩
    obtain ⟨ds, ab, ib⟩ := pickI (ns := [1, 2, 1 + x3]) i0' (by simpa using i1')
    have d1 : 1 ≤ ds ∧ ds ≤ 3 := by
      simp only [List.mem_cons, List.mem_singleton, List.not_mem_nil, or_false] at ib
      omega
    refine ⟨L4, _, di, _, rfl, rfl, SqL.of (kb.lst (A9.nep hL4) ea), ab, ?_⟩
    have k8b : Kx [p] H8 Hb := k9.trans (ka.of.trans kb)
    -- sights
    refine st_name ?_
    dsimp only
    refine st_set (lc_use ?_)
    refine ⟨_, rfl, ds, rfl, by omega, by omega, ?_⟩
    refine lc_pu (itr_at ds.toNat) (by omega) 1000 (fun d => Sm 20 1000000 51 2 d ∧ sightB hh cr d = true) true Ab (fun D i Hs hD hi ks As R R0 hR hR0 => ?_) fun DI sis Hc kc Ac tI _ xI gI => ?_
    · exact ⟨rfl, st_yes ⟨.ref p, rfl, .int hh, rfl, .int cr, rfl, p, _, _, hh, cr, rfl, h1.1, by omega, c1.1, c1.2, by omega, As, fun v d H' k A t g => hR v d H' k (A.mono (by omega)) t g⟩⟩
    have lI := xI rfl
    clear xI
    -- asks
    obtain ⟨xs, eI, tI2⟩ := tI.items
    have lx := tI2.length
    refine st_set (lc_use ⟨_, rfl, DI, rfl, ⟨xs, SqL.of eI⟩, ?_⟩)
    have nDI := Ac.nepT tI
    refine lc_pu (itl_at eI nDI) (by omega) 3 (fun d => Sm 20 1000000 1 0 d ∧ (isNone d || isWh 0 999 d) = true) true Ac (fun D i Hs hD hi ks As R R0 hR hR0 => ?_) fun DA ask Hd kd Ad tA _ xA gA => ?_
    · refine ⟨rfl, st_yes ⟨.ref p, rfl, p, _, 6, _, rfl, by decide, by decide, by omega, As, fun x Ht x0 x1 kt At => ?_⟩⟩
      refine ⟨.ref p, rfl, p, _, 1000, _, rfl, by decide, by decide, by omega, At, fun x' Hu x0' x1' ku Au => ⟨len_ok, fun L3 hL3 => ?_⟩⟩
      generalize hqv : upd Hu L3 _ = Hv
      obtain ⟨kv, ev⟩ := new_at hL3 hqv
      clear hqv
      have Av := Au.kx kv
      refine ⟨.ref p, rfl, p, _, 5, _, rfl, by decide, by decide, by omega, Av, fun y Hw y0 y1 kw Aw => ?_⟩
      obtain ⟨v, d, a1, a2, a3⟩ := pick (C := D :: C) (H := Hw) (xs := [.non, .non, .int x, .int x', .int 999]) (.cons .non (.cons .non (.cons (.int x) (.cons (.int x') (.cons (.int 999) .nil))))) y0 (by simpa using y1)
      have gd : Sm 20 1000000 1 0 d ∧ (isNone d || isWh 0 999 d) = true := by
        simp only [List.mem_cons, List.mem_singleton, List.not_mem_nil, or_false] at a3
        rcases a3 with rfl | rfl | rfl | rfl | rfl
        · exact ⟨Sm.none, rfl⟩
        · exact ⟨Sm.none, rfl⟩
        · exact ⟨Sm.int (by omega), isWh_ok (by omega) (by omega)⟩
        · exact ⟨Sm.int (by omega), isWh_ok (by omega) (by omega)⟩
        · exact ⟨Sm.int (by decide), by decide⟩
      exact ⟨L3, _, y, v, rfl, rfl, SqL.of (kw.lst (Au.nep hL3) ev), a1, hR _ _ Hw (kt.trans (ku.trans (kv.of.trans kw))) (Aw.mono (by omega)) a2 gd⟩
    have lA := xA rfl
    clear xA
    -- many
    refine ⟨.ref p, rfl, .int blocks, rfl, _, _, rfl, rfl, p, _, blocks + 1, _, rfl, by omega, by omega, by omega, Ad, fun x4 He x40 x41 ke Ae => ⟨_, rfl, len_ok, fun L5 hL5 => ?_⟩⟩
    generalize hqf : upd He L5 _ = Hf
    obtain ⟨kf, ef⟩ := new_at hL5 hqf
    clear hqf
    have Af := Ae.kx kf
    obtain ⟨my, af, jf⟩ := pickI (ns := [x4, blocks]) ff.1 (by simpa using ff.2)
    have m1' : 0 ≤ my ∧ my ≤ blocks := by
      simp only [List.mem_cons, List.mem_singleton, List.not_mem_nil, or_false] at jf
      omega
    refine ⟨_, rfl, L5, _, f, _, rfl, rfl, SqL.of ef, af, ?_⟩
    -- the tuple
    refine ⟨_, rfl, _, rfl, _, rfl, _, rfl, lc_use ⟨_, rfl, my, rfl, by omega, by omega, ?_⟩⟩
    refine lc_pu (itr_at my.toNat) (by omega) 20 (fun d => Sm 20 1000000 6 1 d ∧ blockB hh cr d = true) true Af (fun D i Hs hD hi ks As R R0 hR hR0 => ?_) fun DB bls Hg kg Ag tB _ xB gB => ?_
    · exact ⟨rfl, st_yes ⟨.ref p, rfl, .int hh, rfl, .int cr, rfl, p, _, _, hh, cr, rfl, h1.1, by omega, c1.1, c1.2, by omega, As, fun v d H' k A t g => hR v d H' k (A.mono (by omega)) t g⟩⟩
    have lB := xB rfl
    refine ⟨len_ok, fun T hT => ?_⟩
    have kcg : Kx [p] Hc Hg := kd.trans (ke.trans (kf.of.trans kg))
    have kdg : Kx [p] Hd Hg := ke.trans (kf.of.trans kg)
    have k8g : Kx [p] H8 Hg := k8b.trans (kc.trans kcg)
    obtain ⟨kT, eT, tT⟩ := mk_tup Ag.al (.cons (.int hh) (.cons (A8.tr tS k8g) (.cons (Ac.tr tI kcg) (.cons (Ad.tr tA kdg) (.cons tB .nil))))) hT
    refine q _ _ _ (k07.trans (k8.trans (k8g.trans kT.of))) ((Ag.kx kT).mono (by omega)) tT ⟨hh, sts, sis, ask, bls, rfl, h1.1, h1.2, by omega, by omega, by omega, by omega, by omega, by omega, fun d hd => (gS d hd).1, fun d hd => (gI d hd).1, fun d hd => (gA d hd).1, fun d hd => (gB d hd).1, ?_⟩
    have lcr : (sts.length : Int) = cr := by omega
    have lai : (ask.length : Int) = (sis.length : Int) := by omega
    show (isWh 1 10 (.int hh) && ((isLs 1 4 (.list sts) && sts.all (isWh 0 5)) && ((isLs 1 3 (.list sis) && sis.all (sightB hh (sts.length : Int))) && ((isLs (sis.length : Int) (sis.length : Int) (.list ask) && ask.all (fun a => isNone a || isWh 0 999 a)) && (isLs 0 14 (.list bls) && bls.all (blockB hh (sts.length : Int))))))) = true
    rw [lcr, isWh_ok (by omega) (by omega), isLs_ok (by omega) (by omega), isLs_ok (by omega) (by omega), isLs_ok (by omega) (by omega), isLs_ok (by omega) (by omega), List.all_eq_true.mpr fun d hd => (gS d hd).2, List.all_eq_true.mpr fun d hd => (gI d hd).2, List.all_eq_true.mpr fun d hd => (gA d hd).2, List.all_eq_true.mpr fun d hd => (gB d hd).2]
    rfl
end
end Law

set_option Elab.async false
set_option linter.all false
set_option maxRecDepth 100000
set_option maxHeartbeats 4000000
namespace Law
open PySem PySem.Spec PyProof.Rows L2 GxR GX Tree Kit Data Loops Loops2 Comps Purse Day SetG SetL Lit Sets
section
variable {P : Program} {w : World} {K : PySem.W.Frag} {mg : Str → Option Value} {base : Heap} {fa : String → Addr} {fd : String → FuncData} {ca ta : String → Addr}
/-! ### drawn plans -/
theorem ok__law_may (Y : Facts K mg base fa fd ca ta) : FnOk P w K mg base CX0 1 (fa "_law_may") (fd "_law_may") ["block", "hour"] sp_may := by
  refine Y.d__law_may.ok sc__law_may (fun vs H Q E h => ?_) (fun cdv A outer s H vs Q E hcd hr h => ?_)
  · obtain ⟨v, b, h, rfl, _⟩ := h; rfl
  · obtain ⟨v, b, hh, rfl, ht, q⟩ := h
    refine ⟨_, (pss_cons (ps_asg (pv 0) (pg_tupK (n := 5) K rfl rfl (pgs_cons (pg_name (i := 2) sc__law_may.nd rfl (by first | exact Or.inl rfl | exact Or.inr rfl)) (pgs_cons (pg_name (i := 3) sc__law_may.nd rfl (by first | exact Or.inl rfl | exact Or.inr rfl)) (pgs_cons (pg_name (i := 4) sc__law_may.nd rfl (by first | exact Or.inl rfl | exact Or.inr rfl)) (pgs_cons (pg_name (i := 5) sc__law_may.nd rfl (by first | exact Or.inl rfl | exact Or.inr rfl)) (pgs_cons (pg_name (i := 6) sc__law_may.nd rfl (by first | exact Or.inl rfl | exact Or.inr rfl)) pgs_nil)))))))
      (pss_one (ps_ret (pe_and (pe_cmpR op_le (pv 4) (pv 1) (nomark _)) (pe_one (pe_or (pe_cmpR op_isN (pv 5) pe_non (nomark _)) (pe_one (pe_cmpR op_le (pv 1) (pv 5) (nomark _))))))))), ?_⟩
    obtain ⟨a, xs, rfl, ex, tx⟩ := ht.tupV
    obtain ⟨v1, v2, v3, v4, v5, rfl, t1, t2, t3, t4, t5⟩ := TrAll.five tx
    cases t3
    refine ⟨.ref a, rfl, a, _, rfl, SqT.of ex, rfl, v1, _, rfl, v2, _, rfl, _, _, rfl, v4, _, rfl, v5, _, rfl, rfl, ?_⟩
    refine ⟨_, rfl, .int hh, rfl, _, _, rfl, rfl, _, rfl, andV (b := match b.due with | none => true | some u => decide (hh ≤ u)) (R := fun b => Q (.bl b) H) q fun _ q => ?_⟩
    refine ⟨v4, rfl, rfl, _, rfl, ?_⟩
    rw [isNone_v t4]
    cases hd : b.due with
    | none =>
      rw [hd] at t4 q
      exact iteT q
    | some u =>
      rw [hd] at t4 q
      cases t4
      exact iteF ⟨.int hh, rfl, .int u, rfl, _, _, rfl, rfl, q⟩
/-- a block by its place -/
theorem blk_ix {B : List Addr} {H : Hp} {D : Dy} {aB : Addr} {n : Int} (t : Tr B H (.ref aB) (.list (D.blocks.map blkD))) (h0 : 0 ≤ n) (h1 : n < (D.blocks.length : Int)) :
    ∃ xB bA b1 b4, H aB = some (.lst xB) ∧ atI xB n = some (.ref bA) ∧ H bA = some (.tup [b1, .int (blkAt D n).craft, .int (blkAt D n).ready, b4, .int (blkAt D n).worth]) ∧ Tr B H b4 (optD (blkAt D n).due) ∧ Tr B H (.ref bA) (blkD (blkAt D n)) := by
  obtain ⟨a, xB, bv, e, eB, a3, tb⟩ := ixT t h0 (by rw [List.length_map]; exact h1)
  cases e
  rw [getD_map blkD D.blocks n.toNat ⟨0, 0, 0, none, 0⟩ _ (by omega)] at tb
  have tb0 := tb
  obtain ⟨bA, bx, rfl, eb, tbx⟩ := tb.tupV
  obtain ⟨b1, b2, b3, b4, b5, rfl, f1, f2, f3, f4, f5⟩ := TrAll.five tbx
  cases f2
  cases f3
  cases f5
  exact ⟨xB, bA, b1, b4, eB, a3, eb, f4, tb0⟩
/-- what a dish may hear at an hour -/
theorem row_ix {B : List Addr} {H : Hp} {D : Dy} (hD : DyOk D) {aI : Addr} {d h : Int} (t : Tr B H (.ref aI) (.list (D.sights.map sightD))) (d0 : 0 ≤ d) (d1 : d < (D.sights.length : Int)) (h0 : 0 ≤ h) (h1 : h < D.hours) :
    ∃ xI gA gx rA, H aI = some (.lst xI) ∧ atI xI d = some (.ref gA) ∧ H gA = some (.lst gx) ∧ atI gx h = some (.ref rA) ∧ H rA = some (.lst ((heardAt D d h).map V.int)) := by
  obtain ⟨_, xI, g, e, eI, at1, tg⟩ := ixT t d0 (by rw [List.length_map]; omega)
  cases e
  rw [getD_map sightD D.sights d.toNat [] _ (by omega)] at tg
  have sm : D.sights.getD d.toNat [] ∈ D.sights := by
    rw [List.getD_eq_getElem?_getD, List.getElem?_eq_getElem (by omega)]
    exact List.getElem_mem _
  have sl := hD.gl _ sm
  obtain ⟨gA, gx, r, rfl, eg, at2, tr⟩ := ixT tg h0 (by rw [List.length_map]; omega)
  rw [getD_map rowD _ h.toNat [] _ (by omega)] at tr
  obtain ⟨rA, rx, rfl, er, trx⟩ := tr.listV
  have erx := TrAll.intsV trx (by rw [ints_back])
  rw [ints_back] at erx
  rw [erx] at er
  exact ⟨xI, gA, gx, rA, eI, at1, eg, at2, er⟩
/-- passes ahead of an hour and a dish -/
structure Dr (D : Dy) (h d : Int) (ps : List Pass) : Prop where
  ok : ∀ p ∈ ps, passT D p = true
  lt : ∀ p ∈ ps, p.hour < h ∨ (p.hour = h ∧ p.dish < d)
  up : ps.Pairwise fun a b => a.hour < b.hour ∨ (a.hour = b.hour ∧ a.dish < b.dish)
  cr : ps.Pairwise fun a b => ¬ (a.hour = b.hour ∧ a.craft = b.craft)
  bk : (ps.map Pass.block).Nodup
theorem Dr.nil (D : Dy) (h d : Int) : Dr D h d [] := ⟨fun _ h => (nomatch h), fun _ h => (nomatch h), .nil, .nil, .nil⟩
theorem Dr.add {D : Dy} {ps : List Pass} {p : Pass} (h : Dr D p.hour p.dish ps) (hp : passT D p = true) (hc : ∀ q ∈ ps, q.hour = p.hour → q.craft ≠ p.craft) (hb : p.block ∉ ps.map Pass.block) : Dr D p.hour (p.dish + 1) (ps ++ [p]) := by
  refine ⟨fun q hq => ?_, fun q hq => ?_, List.pairwise_append.mpr ⟨h.up, List.pairwise_singleton _ _, fun a ha b hb => ?_⟩, List.pairwise_append.mpr ⟨h.cr, List.pairwise_singleton _ _, fun a ha b hb z => ?_⟩, ?_⟩
  · rcases List.mem_append.mp hq with z | z
    · exact h.ok q z
    · rw [List.mem_singleton.mp z]; exact hp
  · rcases List.mem_append.mp hq with z | z
    · have := h.lt q z
      omega
    · rw [List.mem_singleton.mp z]; omega
  · rw [List.mem_singleton.mp hb]; exact h.lt a ha
  · rw [List.mem_singleton.mp hb] at z
    exact hc a ha z.1 z.2
  · rw [List.map_append]
    refine List.nodup_append.mpr ⟨h.bk, List.pairwise_singleton _ _, fun a ha b hb' e => ?_⟩
    rw [List.mem_singleton.mp hb'] at e
    exact hb (e ▸ ha)
theorem Dr.skip {D : Dy} {ps : List Pass} {h d : Int} (x : Dr D h d ps) : Dr D h (d + 1) ps := ⟨x.ok, fun p hp => by have := x.lt p hp; omega, x.up, x.cr, x.bk⟩
theorem Dr.next {D : Dy} {ps : List Pass} {h d : Int} (x : Dr D h d ps) : Dr D (h + 1) 0 ps := ⟨x.ok, fun p hp => by have := x.lt p hp; omega, x.up, x.cr, x.bk⟩
theorem Dr.sub {D : Dy} {ps qs : List Pass} {h d : Int} (x : Dr D h d ps) (s : List.Sublist qs ps) : Dr D h d qs :=
  ⟨fun p hp => x.ok p (s.subset hp), fun p hp => x.lt p (s.subset hp), x.up.sublist s, x.cr.sublist s, x.bk.sublist (s.map _)⟩
theorem notE' {b : Bool} (h : ¬ b = true) : b = false := by simpa using h
theorem nodup_ints_le : ∀ {n : Nat} {l : List Int}, l.Nodup → (∀ i ∈ l, 0 ≤ i ∧ i < (n : Int)) → l.length ≤ n := by
  intro n l hn hb
  have h1 : (l.map Int.toNat).Nodup := List.pairwise_map.mpr (hn.imp_of_mem fun {a b} ha hb' h e => h (by have := hb a ha; have := hb b hb'; omega))
  have h2 := List.Nodup.length_le_of_subset (l₂ := List.range n) h1 (fun j hj => by
    obtain ⟨i, hi, rfl⟩ := List.mem_map.mp hj
    have := hb i hi
    exact List.mem_range.mpr (by omega))
  simpa using h2
theorem Dr.len {D : Dy} {ps : List Pass} {h d : Int} (x : Dr D h d ps) : ps.length ≤ D.blocks.length := by
  have := nodup_ints_le x.bk (n := D.blocks.length) (fun i hi => by
    obtain ⟨p, hp, rfl⟩ := List.mem_map.mp hi
    have := (passT_of (x.ok p hp)).2.2.2.1
    omega)
  rwa [List.length_map] at this
theorem Dr.rises {D : Dy} {ps : List Pass} {h d : Int} (x : Dr D h d ps) : risesP ps = true := by
  refine List.all_eq_true.mpr fun i hi => ?_
  have hi := List.mem_range.mp hi
  rw [getD_at ps p0 (by omega), getD_at ps p0 (by omega)]
  have := List.pairwise_iff_getElem.mp x.up i (i + 1) (by omega) (by omega) (by omega)
  unfold passI
  rw [HT.lexLt_cons]
  by_cases e : ps[i].hour = ps[i + 1].hour
  · rw [if_pos e, HT.lexLt_cons, if_neg (by omega)]
    exact decide_eq_true (by omega)
  · rw [if_neg e]
    exact decide_eq_true (by omega)
theorem Dr.clash {D : Dy} {ps : List Pass} {h d : Int} (x : Dr D h d ps) : clashB ps = true := by
  unfold clashB
  rw [Bool.and_eq_true, Bool.and_eq_true]
  refine ⟨decide_eq_true (List.pairwise_map.mpr (x.up.imp fun {a b} h e => ?_)), decide_eq_true (List.pairwise_map.mpr (x.cr.imp fun {a b} h e => ?_)), decide_eq_true x.bk⟩
  · injection e with e1 e
    injection e with e2
    omega
  · injection e with e1 e
    injection e with e2
    exact h ⟨e1, e2⟩
theorem passT_mk {D : Dy} {p : Pass} (h1 : 0 ≤ p.hour ∧ p.hour < D.hours) (h2 : 0 ≤ p.dish ∧ p.dish < (D.sights.length : Int)) (h3 : 0 ≤ p.craft ∧ p.craft < (D.stores.length : Int)) (h4 : 0 ≤ p.block ∧ p.block < (D.blocks.length : Int))
    (h5 : p.craft ∈ heardAt D p.dish p.hour) (h6 : p.craft = (blkAt D p.block).craft) (h7 : mayB (blkAt D p.block) p.hour = true) : passT D p = true := by
  unfold passT
  rw [isWh_mk h1.1 (by omega), isWh_mk h2.1 (by omega), isWh_mk h3.1 (by omega), isWh_mk h4.1 (by omega), List.contains_iff_mem.mpr h5, decide_eq_true h6, h7]
  rfl
theorem _root_.Tree.Kx.of4 {p F G U : Addr} {H H' : Hp} (k : Kx [p, F, G] H H') : Kx [p, F, G, U] H H' := k.sub (by simp)
theorem blkAt_ok {D : Dy} (hD : DyOk D) {n : Int} (h0 : 0 ≤ n) (h1 : n < (D.blocks.length : Int)) : BlkOk D.hours D.stores.length (blkAt D n) := by
  refine hD.bb _ ?_
  unfold blkAt
  rw [List.getD_eq_getElem?_getD, List.getElem?_eq_getElem (by omega)]
  exact List.getElem_mem _
def sp_law_passes (Ts : List Addr) : Sp := fun vs H Q _ => ∃ (p : Addr) (n : Nat) (C : List Addr) (dv : V) (D : Dy), vs = [.ref p, dv] ∧ n ≤ 800000000000 ∧ At Ts C p n H ∧ Tr C H dv (dayD D) ∧ DyOk D ∧
  ∀ (F : Addr) (ps : List Pass) (H' : Hp), Kx [p] H H' → At Ts C p (n + 60) H' → Tr C H' (.ref F) (.list (ps.map passD)) → Dr D D.hours 0 ps → Q (.ref F) H'
theorem ok__law_passes (Y : Facts K mg base fa fd ca ta) : FnOk P w K mg base CX0 2 (fa "_law_passes") (fd "_law_passes") ["purse", "day"] (sp_law_passes (Ts ta)) := by
  refine Y.d__law_passes.ok sc__law_passes (fun vs H Q E h => ?_) (fun cdv A outer s H vs Q E hcd hr h => ?_)
  · obtain ⟨p, n, C, dv, D, rfl, _⟩ := h; rfl
  · obtain ⟨p, n, C, dv, D, rfl, hn, hA, hdt, hD, q⟩ := h
    refine ⟨_, (pss_cons (ps_asg (pv 1) (pg_tupK (n := 5) K rfl rfl (pgs_cons (pg_name (i := 2) sc__law_passes.nd rfl (by first | exact Or.inl rfl | exact Or.inr rfl)) (pgs_cons (pg_name (i := 3) sc__law_passes.nd rfl (by first | exact Or.inl rfl | exact Or.inr rfl)) (pgs_cons (pg_name (i := 4) sc__law_passes.nd rfl (by first | exact Or.inl rfl | exact Or.inr rfl)) (pgs_cons (pg_name (i := 5) sc__law_passes.nd rfl (by first | exact Or.inl rfl | exact Or.inr rfl)) (pgs_cons (pg_name (i := 6) sc__law_passes.nd rfl (by first | exact Or.inl rfl | exact Or.inr rfl)) pgs_nil)))))))
      (pss_cons (ps_set (i := 7) sc__law_passes.nd rfl (by first | exact Or.inl rfl | exact Or.inr rfl) (pe_lst pa_nil))
      (pss_cons (ps_set (i := 8) sc__law_passes.nd rfl (by first | exact Or.inl rfl | exact Or.inr rfl) (pe_lst pa_nil))
      (pss_cons (ps_for PassesOwn.never rfl (pi_range1 (by rfl) Y.b.range (pa_cons (pv 2) pa_nil)) (pg_name (i := 9) sc__law_passes.nd rfl (by first | exact Or.inl rfl | exact Or.inr rfl)) (pss_cons (ps_set (i := 10) sc__law_passes.nd rfl (by first | exact Or.inl rfl | exact Or.inr rfl) (pe_lst pa_nil))
      (pss_one (ps_for PassesOwn.never rfl (pi_range1 (by rfl) Y.b.range (pa_cons (pe_callB (call_lenK K rfl) (by rfl) Y.b.len (by decide +kernel) (pa_cons (pv 4) pa_nil)) pa_nil)) (pg_name (i := 11) sc__law_passes.nd rfl (by first | exact Or.inl rfl | exact Or.inr rfl)) (pss_cons (ps_setLc (i := 12) (own := [("n", 14)]) (g := gName 14) rfl sc__law_passes.nd rfl rfl (sw_true rfl rfl rfl (by decide +kernel)) (pi_range1 (by rfl) Y.b.range (pa_cons (pe_callB (call_lenK K rfl) (by rfl) Y.b.len (by decide +kernel) (pa_cons (pv 6) pa_nil)) pa_nil)) (blkOk_by (N := ["purse", "day", "hours", "stores", "sights", "asks", "blocks", "found", "gone", "hour", "used", "dish", "some", "number", "n"]) (sc := defScope s__law_passes) (by decide +kernel)) (fun _ _ _ _ _ => (pg_name (i := 14) sc__law_passes.nd rfl (by first | exact Or.inl rfl | exact Or.inr rfl))) (fun _ _ _ _ _ => (pts_one ((pw_and (pt_cmpR (op_notInK K rfl) (pv 14) (pv 8) (by rfl)) (pw_and1 (pt_cmpR (op_inK K rfl) (pe_ix (ix_tupK K rfl) (pe_ix (ix_listK K rfl) (pv 6) (pv 14) (fun _ _ => rfl)) pe_int (fun _ _ => rfl)) (pe_ix (ix_listK K rfl) (pe_ix (ix_listK K rfl) (pv 4) (pv 11) (fun _ _ => rfl)) (pv 9) (fun _ _ => rfl)) (by rfl))))).pt)) (fun _ _ _ _ _ => (pv 14)))
      (pss_cons (ps_setLc (i := 12) (own := [("n", 14)]) (g := gName 14) rfl sc__law_passes.nd rfl rfl (sw_true rfl rfl rfl (by decide +kernel)) (pi_listK K rfl (pv 12)) (blkOk_by (N := ["purse", "day", "hours", "stores", "sights", "asks", "blocks", "found", "gone", "hour", "used", "dish", "some", "number", "n"]) (sc := defScope s__law_passes) (by decide +kernel)) (fun _ _ _ _ _ => (pg_name (i := 14) sc__law_passes.nd rfl (by first | exact Or.inl rfl | exact Or.inr rfl))) (fun _ _ _ _ _ => (pts_one ((pw_and (pt_cmpR (op_notInK K rfl) (pe_ix (ix_tupK K rfl) (pe_ix (ix_listK K rfl) (pv 6) (pv 14) (fun _ _ => rfl)) pe_int (fun _ _ => rfl)) (pv 10) (by rfl)) (pw_and1 (pt_val (pe_call (ok__law_may Y) (hr.mono (by decide)) (by rfl) Y.d__law_may.g Y.d__law_may.kp Y.d__law_may.b .nil pass0 (pa_cons (pe_ix (ix_listK K rfl) (pv 6) (pv 14) (fun _ _ => rfl)) (pa_cons (pv 9) pa_nil))))))).pt)) (fun _ _ _ _ _ => (pv 14)))
      (pss_one (ps_if ((pw_and (pt_cmpR (op_neNil hr.units0) (pv 12) (pe_lst pa_nil) (nomark _)) (pw_and1 (pt_cmpR op_gt (pe_call (ok__law_coin Y) (hr.mono (by decide)) (by rfl) Y.d__law_coin.g Y.d__law_coin.kp Y.d__law_coin.b .nil pass0 (pa_cons (pv 0) (pa_cons pe_int pa_nil))) pe_int (nomark _))))).pt (pss_cons (ps_set (i := 13) sc__law_passes.nd rfl (by first | exact Or.inl rfl | exact Or.inr rfl) (pe_ix (ix_listK K rfl) (pv 12) (pe_call (ok__law_coin Y) (hr.mono (by decide)) (by rfl) Y.d__law_coin.g Y.d__law_coin.kp Y.d__law_coin.b .nil pass0 (pa_cons (pv 0) (pa_cons (pe_callB (call_lenK K rfl) (by rfl) Y.b.len (by decide +kernel) (pa_cons (pv 12) pa_nil)) pa_nil))) (fun _ _ => rfl)))
      (pss_cons (ps_expr (pe_bm PySem.F.plainAttrs_list PySem.F.slot_list_append PySem.F.type_list_append mt_append (pv 7) (pa_cons (pe_tup (pa_cons (pv 9) (pa_cons (pv 11) (pa_cons (pe_ix (ix_tupK K rfl) (pe_ix (ix_listK K rfl) (pv 6) (pv 13) (fun _ _ => rfl)) pe_int (fun _ _ => rfl)) (pa_cons (pv 13) pa_nil))))) pa_nil)))
      (pss_cons (ps_expr (pe_bm PySem.F.plainAttrs_list PySem.F.slot_list_append PySem.F.type_list_append mt_append (pv 10) (pa_cons (pe_ix (ix_tupK K rfl) (pe_ix (ix_listK K rfl) (pv 6) (pv 13) (fun _ _ => rfl)) pe_int (fun _ _ => rfl)) pa_nil)))
      (pss_one (ps_expr (pe_bm PySem.F.plainAttrs_list PySem.F.slot_list_append PySem.F.type_list_append mt_append (pv 8) (pa_cons (pv 13) pa_nil))))))) pss_nil))))))))
      (pss_one (ps_ret (pv 7))))))), ?_⟩
    obtain ⟨da, dx, rfl, edx, tdx⟩ := hdt.tupV
    obtain ⟨y1, y2, y3, y4, y5, rfl, u1, u2, u3, u4, u5⟩ := TrAll.five tdx
    cases u1
    obtain ⟨aI, xI, rfl, eI, tI⟩ := u3.listV
    obtain ⟨aB, xB, rfl, eB, tB⟩ := u5.listV
    have lI := tI.length
    have lB := tB.length
    rw [List.length_map] at lI lB
    have h10 := hD.t1
    have h01 := hD.t0
    have g3 := hD.g1
    have b14 := hD.bl
    refine ⟨.ref da, rfl, da, _, rfl, SqT.of edx, rfl, _, _, rfl, y2, _, rfl, .ref aI, _, rfl, y4, _, rfl, .ref aB, _, rfl, rfl, ?_⟩
    dsimp only
    refine st_seq (st_asg ⟨len_ok, fun F hF => ?_⟩)
    obtain ⟨k1, e1, t1⟩ := mk_lst hA.al .nil hF
    have A1 := hA.kx k1
    have nF := hA.not hF
    generalize upd H F (.lst []) = H1 at k1 e1 t1 A1 ⊢
    refine st_name ?_
    dsimp only
    refine st_seq (st_asg ⟨len_ok, fun G hG => ?_⟩)
    have A1' : At (Ts ta) (F :: C) p n H1 := A1.cons (by rw [e1]; simp)
    obtain ⟨k2, e2, t2⟩ := mk_lst A1'.al .nil hG
    have A2 : At (Ts ta) (F :: C) p n _ := A1'.kx k2
    have nG := A1'.not hG
    have f2 := k2.lst (by simp) e1
    generalize upd H1 G (.lst []) = H2 at k2 e2 t2 A2 f2 ⊢
    have A2' : At (Ts ta) (G :: F :: C) p n H2 := A2.cons (by rw [e2]; simp)
    refine st_name ?_
    dsimp only
    refine st_seq (st_for ?_)
    have k02 := k1.trans k2
    have u3' := u3.up k02
    have u5' := u5.up k02
    have nGF : G ≠ F := fun e => nG (by rw [e]; exact List.mem_cons_self)
    have nFp : F ≠ p := fun e => nF (e ▸ hA.mem)
    have nGp : G ≠ p := fun e => nG (e ▸ List.mem_cons_of_mem _ hA.mem)
    -- what of the day stays
    have st : ∀ {b : Addr} {d : PyData}, Tr C H (.ref b) d → b ∉ [p, F, G] := fun {b d} t z => by
      simp only [List.mem_cons, List.not_mem_nil, or_false] at z
      rcases z with rfl | rfl | rfl
      · exact t.out hA.mem
      · cases t with
        | lst _ h _ => rw [hF] at h; cases h
        | tup _ h _ => rw [hF] at h; cases h
        | dic _ h => rw [hF] at h; cases h
      · cases t with
        | lst _ h _ => rw [k1.free (by simp) hG] at h; cases h
        | tup _ h _ => rw [k1.free (by simp) hG] at h; cases h
        | dic _ h => rw [k1.free (by simp) hG] at h; cases h
    refine ⟨_, rfl, D.hours, rfl, by omega, by omega, ?_⟩
    refine for_gen (itr_at D.hours.toNat) (B := [p, F, G]) (Iv := fun i σ' H' => (∃ z9 z10 z11 z12 z13, σ' = [some (.ref p), some (.ref da), some (.int D.hours), some y2, some (.ref aI), some y4, some (.ref aB), some (.ref F), some (.ref G), z9, z10, z11, z12, z13, none]) ∧ At (Ts ta) (G :: F :: C) p (n + i * 6) H' ∧
        ∃ ps xs, H' F = some (.lst xs) ∧ TrAll (G :: F :: C) H' xs (ps.map passD) ∧ H' G = some (.lst ((ps.map Pass.block).map V.int)) ∧ Dr D i 0 ps)
      ⟨⟨none, none, none, none, none, rfl⟩, A2', [], [], f2, .nil, e2, Dr.nil D _ _⟩ (fun i σ' H3 hi k3 ⟨⟨z9, z10, z11, z12, z13, e⟩, A3, ps, xs, ef, tf, eg, dr⟩ Nn hN => ?_) fun σ' H3 k3 ⟨⟨z9, z10, z11, z12, z13, e⟩, A3, ps, xs, ef, tf, eg, dr⟩ => ?_
    · subst e
      have hi' : (i : Int) < D.hours := by omega
      have hi10 : i < 10 := by omega
      refine st_name ?_
      dsimp only
      refine st_seq (st_asg ⟨len_ok, fun U hU => ?_⟩)
      obtain ⟨k4, e4, t4⟩ := mk_lst A3.al .nil hU
      have A4 : At (Ts ta) (G :: F :: C) p _ _ := A3.kx k4
      have nU := A3.not hU
      have f4 := k4.lst (by simp) ef
      have g4 := k4.lst (by simp) eg
      have tf4 := tf.up k4
      have tU := avoidAll hU _ _ tf
      have tU4 := tU.up k4
      generalize upd H3 U (.lst []) = H4 at k4 e4 t4 A4 f4 g4 tf4 tU4 ⊢
      have A4' : At (Ts ta) (U :: G :: F :: C) p (n + i * 6) H4 := A4.cons (by rw [e4]; simp)
      have nUF : U ≠ F := fun e => nU (by rw [e]; simp)
      have nUG : U ≠ G := fun e => nU (by rw [e]; simp)
      have nUp : U ≠ p := fun e => nU (by rw [e]; exact List.mem_cons_of_mem _ (List.mem_cons_of_mem _ hA.mem))
      refine st_name ?_
      dsimp only
      refine st_for ?_
      have k24 : Kx [p, F, G] H2 H4 := k3.trans k4.of
      have back : ∀ {H' : Hp}, Kx [p, F, G] H2 H' → Kx [p] H H' := fun k => Kx.weak (k02.of.trans k) fun b hb => by
        simp only [List.mem_cons, List.not_mem_nil, or_false] at hb
        rcases hb with rfl | rfl | rfl
        · exact .inl (by simp)
        · exact .inr hF
        · exact .inr (k1.free (by simp) hG)
      have hU2 : H2 U = none := k3.free (fun z => by
        simp only [List.mem_cons, List.not_mem_nil, or_false] at z
        rcases z with z | z | z
        · exact nUp z
        · exact nUF z
        · exact nUG z) hU
      have backU : ∀ {H' : Hp}, Kx [p, F, G, U] H4 H' → Kx [p, F, G] H2 H' := fun k => Kx.weak (k24.of4.trans k) fun b hb => by
        simp only [List.mem_cons, List.not_mem_nil, or_false] at hb
        rcases hb with rfl | rfl | rfl | rfl
        · exact .inl (by simp)
        · exact .inl (by simp)
        · exact .inl (by simp)
        · exact .inr hU2
      have b4 := hA.tr u5 (back k24)
      obtain ⟨xB4, eB4, _⟩ := b4.items
      have i4 := hA.tr u3 (back k24)
      obtain ⟨xI4, eI4, tI4⟩ := i4.items
      have lI4 := tI4.length
      rw [List.length_map] at lI4
      refine ⟨_, rfl, aI, xI4, rfl, .inl (SqL.of eI4), (D.sights.length : Int), by rw [lI4], by omega, by omega, ?_⟩
      rw [Int.toNat_natCast]
      refine for_gen (itr_at D.sights.length) (B := [p, F, G, U]) (Iv := fun j σ' H' => (∃ z11 z12 z13, σ' = [some (.ref p), some (.ref da), some (.int D.hours), some y2, some (.ref aI), some y4, some (.ref aB), some (.ref F), some (.ref G), some (.int i), some (.ref U), z11, z12, z13, none]) ∧ At (Ts ta) (U :: G :: F :: C) p (n + i * 6 + j * 2) H' ∧
          ∃ ps xs us, H' F = some (.lst xs) ∧ TrAll (U :: G :: F :: C) H' xs (ps.map passD) ∧ H' G = some (.lst ((ps.map Pass.block).map V.int)) ∧ H' U = some (.lst (us.map V.int)) ∧ us.length ≤ j ∧ (∀ q ∈ ps, q.hour = (i : Int) → q.craft ∈ us) ∧ Dr D i j ps)
        ⟨⟨_, _, _, rfl⟩, A4'.mono (by omega), ps, xs, [], f4, tU4, g4, e4, Nat.le_refl _, fun q hq e => by have := dr.lt q hq; have := (passT_of (dr.ok q hq)).2.1; omega, dr⟩ (fun j σ' H5 hj k5 ⟨⟨z11, z12, z13, e⟩, A5, ps, xs, us, ef, tf, eg, eu, lu, hu, dr⟩ Nm hNm => ?_) fun σ' H5 k5 ⟨⟨z11, z12, z13, e⟩, A5, ps, xs, us, ef, tf, eg, eu, lu, hu, dr⟩ => ?_
      · subst e
        have k05 := back (backU k5)
        have b5 := hA.tr u5 k05
        have i5 := hA.tr u3 k05
        obtain ⟨xB5, eB5, tB5⟩ := b5.items
        have lB5 := tB5.length
        rw [List.length_map] at lB5
        refine st_name ?_
        dsimp only
        refine st_set (lc_use ?_)
        refine ⟨_, rfl, aB, xB5, rfl, .inl (SqL.of eB5), (D.blocks.length : Int), by rw [lB5], by omega, by omega, ?_⟩
        rw [Int.toNat_natCast]
        refine lc_range (fun m => !((ps.map Pass.block).contains (m : Int)) && (heardAt D j i).contains (blkAt D m).craft) (by unfold sizeLine; omega) (fun m H6 hm k6 R R0 hR hR0 => ?_) fun D1 H6 k6 hD1 eD1 => ?_
        · refine ⟨rfl, .int m, rfl, .ref G, rfl, G, _, rfl, .inl (SqL.of (k6.lst (by simp) eg)), rfl, flat_ints _, ?_⟩
          rw [if_pos rfl, inV_ints]
          refine ⟨_, rfl, ?_⟩
          cases c1 : (ps.map Pass.block).contains (m : Int) with
          | true => exact iteF (hR0 (by rw [c1]; rfl) H6 (Kx.refl _))
          | false =>
          obtain ⟨xB6, bA, b1, b4, eB6, a6, eb6, -, -⟩ := blk_ix (b5.up k6) (n := (m : Int)) (by omega) (by omega)
          obtain ⟨xI6, gA, gx, rA, eI6, at1, eg6, at2, er6⟩ := row_ix hD (i5.up k6) (d := (j : Int)) (h := (i : Int)) (by omega) (by omega) (by omega) hi'
          refine iteT ⟨.ref aB, rfl, .int m, rfl, aB, xB6, m, .ref bA, rfl, rfl, SqL.of eB6, a6, bA, _, 1, _, rfl, rfl, SqT.of eb6, rfl, .ref aI, rfl, .int j, rfl, aI, xI6, j, .ref gA, rfl, rfl, SqL.of eI6, at1, .int i, rfl, gA, gx, i, .ref rA, rfl, rfl, SqL.of eg6, at2, rA, _, rfl, .inl (SqL.of er6), rfl, flat_ints _, ?_⟩
          rw [if_neg (by decide), inV_ints]
          refine ⟨_, rfl, ite2 (fun c => ⟨.int m, rfl, hR (by rw [c1, c]; rfl) H6 (Kx.refl _)⟩) (fun c => hR0 (by rw [c1, notE' c]; rfl) H6 (Kx.refl _))⟩
        · obtain ⟨ns1, en1, hns1⟩ : ∃ ns1 : List Int, (((List.range D.blocks.length).filter fun m : Nat => !((ps.map Pass.block).contains (m : Int)) && (heardAt D j i).contains (blkAt D (m : Int)).craft).map fun i : Nat => (i : Int)) = ns1 ∧ (∀ x ∈ ns1, ∃ m : Nat, x = (m : Int) ∧ m < D.blocks.length ∧ x ∉ ps.map Pass.block ∧ (blkAt D x).craft ∈ heardAt D j i) := by
            refine ⟨_, rfl, fun x hx => ?_⟩
            obtain ⟨m, hm, rfl⟩ := List.mem_map.mp hx
            obtain ⟨h1, h2⟩ := List.mem_filter.mp hm
            rw [Bool.and_eq_true] at h2
            refine ⟨m, rfl, List.mem_range.mp h1, fun z => ?_, List.contains_iff_mem.mp h2.2⟩
            rw [List.contains_iff_mem.mpr z] at h2
            cases h2.1
          have ln1 : ns1.length ≤ 14 := by
            rw [← en1, List.length_map]
            exact Nat.le_trans (List.length_filter_le _ _) (by rw [List.length_range]; exact b14)
          rw [en1] at eD1
          clear en1
          refine st_set (lc_use ?_)
          refine ⟨.ref D1, rfl, D1, rfl, ⟨_, SqL.of eD1⟩, ?_⟩
          refine lc_filtI (fun x => !(us.contains (blkAt D x).craft) && mayB (blkAt D x) i) eD1 (by unfold sizeLine; omega) (fun x H7 hx k7 R R0 hR hR0 => ?_) fun D2 H7 k7 hD2 eD2 => ?_
          · obtain ⟨m, rfl, hm, hx2, hx3⟩ := hns1 x hx
            obtain ⟨xB7, bA, b1, b4, eB7, a7, eb7, -, tb7⟩ := blk_ix (b5.up (k6.trans k7)) (n := (m : Int)) (by omega) (by omega)
            refine ⟨rfl, .ref aB, rfl, .int m, rfl, aB, xB7, m, .ref bA, rfl, rfl, SqL.of eB7, a7, bA, _, 1, _, rfl, rfl, SqT.of eb7, rfl, .ref U, rfl, U, _, rfl, .inl (SqL.of ((k6.trans k7).lst (by simp) eu)), rfl, flat_ints _, ?_⟩
            rw [if_pos rfl, inV_ints]
            refine ⟨_, rfl, ?_⟩
            cases c1 : us.contains (blkAt D m).craft with
            | true => exact iteF (hR0 (by rw [c1]; rfl) H7 (Kx.refl _))
            | false =>
            refine iteT ⟨.ref aB, rfl, .int m, rfl, aB, xB7, m, .ref bA, rfl, rfl, SqL.of eB7, a7, .int i, rfl, .ref bA, blkAt D m, i, rfl, tb7.nil, _, rfl, ?_⟩
            refine ite2 (fun c => ⟨.int m, rfl, hR (by rw [c1, c]; rfl) H7 (Kx.refl _)⟩) (fun c => hR0 (by rw [c1, notE' c]; rfl) H7 (Kx.refl _))
          · have hns2 : ∀ x ∈ ns1.filter (fun x => !(us.contains (blkAt D x).craft) && mayB (blkAt D x) i), x ∈ ns1 ∧ (blkAt D x).craft ∉ us ∧ mayB (blkAt D x) i = true := fun x hx => by
              obtain ⟨h1, h2⟩ := List.mem_filter.mp hx
              rw [Bool.and_eq_true] at h2
              refine ⟨h1, fun z => ?_, h2.2⟩
              rw [List.contains_iff_mem.mpr z] at h2
              cases h2.1
            have ln2 : (ns1.filter (fun x => !(us.contains (blkAt D x).craft) && mayB (blkAt D x) i)).length ≤ 14 := Nat.le_trans (List.length_filter_le _ _) ln1
            generalize ns1.filter (fun x => !(us.contains (blkAt D x).craft) && mayB (blkAt D x) i) = ns2 at eD2 hns2 ln2
            have k57 := k6.trans k7
            have A7 := A5.kx k57
            have ef7 := k57.lst (by simp) ef
            have eg7 := k57.lst (by simp) eg
            have eu7 := k57.lst (by simp) eu
            have tf7 := tf.up k57
            have k47 := k5.trans k57.of
            refine st_ifs ⟨.ref D2, rfl, len_ok, fun N hN' => ?_⟩
            have k8 : Kx [] H7 (upd H7 N (.lst [])) := Kx.new hN'
            have eN8 : upd H7 N (.lst []) N = some (.lst []) := upd_same
            generalize upd H7 N (.lst []) = H8 at k8 eN8 ⊢
            have A8 := A7.kx k8
            have eD8 := k8.lst (by simp) eD2
            refine ⟨D2, N, _, rfl, rfl, eD8, eN8, _, rfl, ?_⟩
            have k48 := k47.trans k8.of
            have skip : ∀ {H' : Hp} {z12 z13 : Option V}, Kx [p, F, G, U] H7 H' → (∀ {b : Addr} {xs : List V}, b ≠ p → H7 b = some (.lst xs) → H' b = some (.lst xs)) → TrAll (U :: G :: F :: C) H' xs (ps.map passD) → At (Ts ta) (U :: G :: F :: C) p (n + i * 6 + (j + 1) * 2) H' →
                Nm [some (.ref p), some (.ref da), some (.int D.hours), some y2, some (.ref aI), some y4, some (.ref aB), some (.ref F), some (.ref G), some (.int i), some (.ref U), some (.int j), z12, z13, none] H' := fun {H' z12 z13} k st t A => by
              refine hNm _ _ (k47.trans k) ⟨⟨_, _, _, rfl⟩, A, ps, xs, us, st nFp ef7, t, st nGp eg7, st nUp eu7, by omega, hu, ?_⟩
              have := dr.skip
              rw [show ((j + 1 : Nat) : Int) = (j : Int) + 1 by omega]
              exact this
            cases hemp : (ns2.map V.int).isEmpty with
            | true => exact iteF (iteF (skip k8.of (fun _ e => k8.lst (by simp) e) (tf7.up k8) (A8.mono (by omega))))
            | false =>
            have hne : 0 < ns2.length := by
              cases ns2 with
              | nil => cases hemp
              | cons x r => simp
            refine iteT ⟨.ref p, rfl, p, _, 4, _, rfl, by decide, by decide, by omega, A8, fun r H9 r0 r1 k9 A9 => ⟨_, _, rfl, rfl, _, rfl, ite2 (fun _ => ?_) (fun _ => ?_)⟩⟩
            · have eD9 := k9.lst (A5.kx k6 |>.nep hD2) eD8
              refine st_set ⟨.ref D2, rfl, .ref p, rfl, .ref D2, rfl, D2, _, rfl, .inl (SqL.of eD9), p, _, (ns2.length : Int), _, by rw [List.length_map]; rfl, by omega, by omega, by omega, A9, fun r2 H10 s0 s1 k10 A10 => ?_⟩
              have eD10 := k10.lst (A5.kx k6 |>.nep hD2) eD9
              obtain ⟨nn, a10, m10⟩ := pickI s0 s1
              obtain ⟨m1, m2, m3⟩ := hns2 nn m10
              obtain ⟨m, em, hm, x2, x3⟩ := hns1 nn m1
              have n0 : 0 ≤ nn := by omega
              have n1 : nn < (D.blocks.length : Int) := by omega
              refine ⟨D2, _, r2, .int nn, rfl, rfl, SqL.of eD10, a10, ?_⟩
              have k710 : Kx [p] H7 H10 := k8.of.trans (k9.trans k10)
              have k010 : Kx [p] H H10 := (back (backU (k47))).trans k710
              have b10 := hA.tr u5 k010
              obtain ⟨xB10, bA, b1, b4', eB10, aB10, eb10, -, -⟩ := blk_ix b10 n0 n1
              have ef10 := k710.lst (by simpa using nFp) ef7
              have eg10 := k710.lst (by simpa using nGp) eg7
              have eu10 := k710.lst (by simpa using nUp) eu7
              have tf10 := A7.trs tf7 k710
              have lx := tf.length
              rw [List.length_map] at lx
              have lps := dr.len
              refine st_seq ⟨.ref F, rfl, .inl ⟨rfl, _, SqL.of ef10⟩, .int i, rfl, .int j, rfl, .ref aB, rfl, .int nn, rfl, aB, xB10, nn, .ref bA, rfl, rfl, SqL.of eB10, aB10, bA, _, 1, _, rfl, rfl, SqT.of eb10, rfl, .int nn, rfl, len_ok, fun T hT => ?_⟩
              obtain ⟨k11, e11, t11⟩ := mk_tup (ds := [.int i, .int j, .int (blkAt D nn).craft, .int nn]) A10.al (.cons (.int _) (.cons (.int _) (.cons (.int _) (.cons (.int _) .nil)))) hT
              have A11 := A10.kx k11
              have ef11 := k11.lst (by simp) ef10
              have eg11 := k11.lst (by simp) eg10
              have eu11 := k11.lst (by simp) eu10
              have tf11 := tf10.up k11
              have b11 := b10.up k11
              generalize upd H10 T (.tup [V.int i, V.int j, V.int (blkAt D nn).craft, V.int nn]) = H11 at k11 e11 t11 A11 ef11 eg11 eu11 tf11 b11 ⊢
              refine ⟨F, xs, .ref T, rfl, rfl, ef11, by unfold sizeLine; omega, ?_⟩
              have k12 : Kx [F] H11 (upd H11 F (.lst (xs ++ [.ref T]))) := Kx.put (by simp)
              have A12 : At (Ts ta) (U :: G :: F :: C) p _ (upd H11 F (.lst (xs ++ [.ref T]))) := A11.set ef11 nFp
              have tf12 := TrAll.kx (B := U :: G :: F :: C) k12 (fun b hb => by rw [List.mem_singleton.mp hb]; simp) _ _ (tf11.snoc t11)
              have ef12 : upd H11 F (.lst (xs ++ [.ref T])) F = some (.lst (xs ++ [.ref T])) := upd_same
              have eg12 := k12.lst (by simpa using nGF) eg11
              have eu12 := k12.lst (by simpa using nUF) eu11
              have k412 : Kx [p, F, G, U] H4 (upd H11 F (.lst (xs ++ [.ref T]))) := k47.trans ((k710.sub (by simp)).trans (k11.of.trans (k12.sub (by simp))))
              generalize upd H11 F (.lst (xs ++ [.ref T])) = H12 at k12 A12 tf12 ef12 eg12 eu12 k412 ⊢
              obtain ⟨xB12, bA2, c1, c4, eB12, aB12, eb12, -, -⟩ := blk_ix (hA.tr u5 (back (backU k412))) n0 n1
              dsimp only
              refine st_seq ⟨.ref U, rfl, .inl ⟨rfl, _, SqL.of eu12⟩, .ref aB, rfl, .int nn, rfl, aB, xB12, nn, .ref bA2, rfl, rfl, SqL.of eB12, aB12, bA2, _, 1, _, rfl, rfl, SqT.of eb12, rfl, U, _, _, rfl, rfl, eu12, by rw [List.length_map]; unfold sizeLine; omega, ?_⟩
              have k13 : Kx [U] H12 (upd H12 U (.lst (us.map V.int ++ [.int (blkAt D nn).craft]))) := Kx.put (by simp)
              have A13 : At (Ts ta) (U :: G :: F :: C) p _ (upd H12 U (.lst (us.map V.int ++ [.int (blkAt D nn).craft]))) := A12.set eu12 nUp
              have tf13 := TrAll.kx (B := U :: G :: F :: C) k13 (fun b hb => by rw [List.mem_singleton.mp hb]; simp) _ _ tf12
              have eu13 : upd H12 U (.lst (us.map V.int ++ [.int (blkAt D nn).craft])) U = some (.lst (us.map V.int ++ [.int (blkAt D nn).craft])) := upd_same
              have ef13 := k13.lst (by simpa using Ne.symm nUF) ef12
              have eg13 := k13.lst (by simpa using Ne.symm nUG) eg12
              generalize upd H12 U (.lst (us.map V.int ++ [.int (blkAt D nn).craft])) = H13 at k13 A13 tf13 eu13 ef13 eg13 ⊢
              refine ⟨.ref G, rfl, .inl ⟨rfl, _, SqL.of eg13⟩, .int nn, rfl, G, _, _, rfl, rfl, eg13, by rw [List.length_map, List.length_map]; unfold sizeLine; omega, ?_⟩
              have k14 : Kx [G] H13 (upd H13 G (.lst ((ps.map Pass.block).map V.int ++ [.int nn]))) := Kx.put (by simp)
              have A14 : At (Ts ta) (U :: G :: F :: C) p _ (upd H13 G (.lst ((ps.map Pass.block).map V.int ++ [.int nn]))) := A13.set eg13 nGp
              have tf14 := TrAll.kx (B := U :: G :: F :: C) k14 (fun b hb => by rw [List.mem_singleton.mp hb]; simp) _ _ tf13
              have eg14 : upd H13 G (.lst ((ps.map Pass.block).map V.int ++ [.int nn])) G = some (.lst ((ps.map Pass.block).map V.int ++ [.int nn])) := upd_same
              have ef14 := k14.lst (by simpa using Ne.symm nGF) ef13
              have eu14 := k14.lst (by simpa using nUG) eu13
              generalize upd H13 G (.lst ((ps.map Pass.block).map V.int ++ [.int nn])) = H14 at k14 A14 tf14 eg14 ef14 eu14 ⊢
              refine hNm _ _ (k412.trans ((k13.sub (by simp)).trans (k14.sub (by simp)))) ⟨⟨_, _, _, rfl⟩, A14.mono (by omega), ps ++ [⟨i, j, (blkAt D nn).craft, nn⟩], xs ++ [.ref T], us ++ [(blkAt D nn).craft], ef14, ?_, ?_, ?_, ?_, ?_, ?_⟩
              · rw [List.map_append]; exact tf14
              · rw [List.map_append, List.map_append]; exact eg14
              · rw [List.map_append]; exact eu14
              · rw [List.length_append]; exact Nat.succ_le_succ lu
              · intro q' hq' hh'
                rcases List.mem_append.mp hq' with z | z
                · exact List.mem_append_left _ (hu q' z hh')
                · rw [List.mem_singleton.mp z]
                  exact List.mem_append_right _ (by simp)
              · have hbk := blkAt_ok hD n0 n1
                have := Dr.add (p := ⟨i, j, (blkAt D nn).craft, nn⟩) dr (passT_mk ⟨by show (0 : Int) ≤ i; omega, hi'⟩ ⟨by show (0 : Int) ≤ j; omega, by show (j : Int) < _; omega⟩ ⟨hbk.c0, hbk.c1⟩ ⟨n0, n1⟩ x3 rfl m3) (fun q' hq' hh' e => m2 (by have := hu q' hq' hh'; rw [show q'.craft = (blkAt D nn).craft from e] at this; exact this)) x2
                rw [show ((j + 1 : Nat) : Int) = (j : Int) + 1 by omega]
                exact this
            · exact skip (k8.of.trans (k9.sub (by simp))) (fun np e => k9.lst (by simpa using np) (k8.lst (by simp) e)) (A8.trs (tf7.up k8) k9) (A9.mono (by omega))
      · subst e
        refine hN _ _ (backU k5) ⟨⟨_, _, _, _, _, rfl⟩, (A5.mono (by omega)).less (fun c hc => List.mem_cons_of_mem _ hc) (by simp [hA.mem]), ps, xs, ef, TrAll.less (fun b hb => List.mem_cons_of_mem _ hb) _ _ tf, eg, ?_⟩
        have := dr.next
        rw [show ((i + 1 : Nat) : Int) = (i : Int) + 1 by omega]
        exact this
    · subst e
      refine ⟨_, rfl, q F ps H3 ?_ ((A3.mono (by omega)).less (fun c hc => by simp [hc]) hA.mem) (.lst nF ef (TrAll.less (fun b hb => by simp [hb]) _ _ tf)) ?_⟩
      · refine Kx.weak (k02.of.trans k3) fun b hb => ?_
        simp only [List.mem_cons, List.not_mem_nil, or_false] at hb
        rcases hb with rfl | rfl | rfl
        · exact .inl (by simp)
        · exact .inr hF
        · exact .inr (k1.free (by simp) hG)
      · rw [show ((D.hours.toNat : Nat) : Int) = D.hours by omega] at dr
        exact dr
end
end Law

set_option Elab.async false
set_option linter.all false
set_option maxRecDepth 100000
set_option maxHeartbeats 4000000
namespace Law
open PySem PySem.Spec PyProof.Rows L2 GxR GX Tree Kit Data Loops Loops2 Comps Purse Day SetG SetL Lit Sets
section
variable {P : Program} {w : World} {K : PySem.W.Frag} {mg : Str → Option Value} {base : Heap} {fa : String → Addr} {fd : String → FuncData} {ca ta : String → Addr}
/-! ### what a craft keeps beyond its store -/
theorem filter_passes (ps : List Pass) (f : Pass → Bool) : (ps.map passD).filter (fun d => f (passOf d)) = (ps.filter f).map passD := by
  induction ps with
  | nil => rfl
  | cons p r ih =>
    rw [List.map_cons, List.filter_cons, List.filter_cons, passOf_D]
    cases f p <;> simp [ih]
/-- the store of a craft holds what it keeps at an hour -/
def Fits (D : Dy) (ps : List Pass) (h c : Nat) : Prop := ((keptL D ps c h).length : Int) ≤ D.stores.getD c 0
theorem fitB_of {D : Dy} {ps : List Pass} (h : ∀ t, t < D.hours.toNat → ∀ c, c < D.stores.length → Fits D ps t c) : fitB D ps = true :=
  List.all_eq_true.mpr fun c hc => List.all_eq_true.mpr fun t ht => decide_eq_true (h t (List.mem_range.mp ht) c (List.mem_range.mp hc))
def over1 (D : Dy) (h c : Int) (p : Pass) : Bool := decide (p.craft = c) && ((blkAt D p.block).due.isNone && decide (h < p.hour))
def over2 (D : Dy) (h : Int) (p : Pass) : Bool := decide ((blkAt D p.block).ready ≤ h)
theorem over_kept (D : Dy) (ps : List Pass) (h c : Int) : ((ps.filter (over1 D h c)).filter (over2 D h)).length = (keptL D ps c h).length := by
  unfold keptL
  rw [List.filter_filter, List.length_map]
  congr 1
  refine List.filter_congr fun p _ => ?_
  unfold over1 over2 keeps
  cases decide (p.craft = c) <;> cases (blkAt D p.block).due.isNone <;> cases decide ((blkAt D p.block).ready ≤ h) <;> cases decide (h < p.hour) <;> rfl
/-- a pass among trees, its parts -/
theorem pass_tr {B : List Addr} {H : Hp} {x : V} {p : Pass} (t : Tr B H x (passD p)) : ∃ a, x = .ref a ∧ H a = some (.tup [.int p.hour, .int p.dish, .int p.craft, .int p.block]) := by
  obtain ⟨at_, ax, rfl, eat, tax⟩ := t.tupV
  obtain ⟨w1, w2, w3, w4, rfl, t1, t2, t3, t4⟩ := TrAll.four tax
  cases t1
  cases t2
  cases t3
  cases t4
  exact ⟨at_, rfl, eat⟩
def sp_law_over : Sp := fun vs H Q _ => ∃ (C : List Addr) (dv : V) (D : Dy) (pa : Addr) (ps : List Pass), vs = [dv, .ref pa] ∧ (∀ c ∈ C, H c ≠ none) ∧ Tr C H dv (dayD D) ∧ DyOk D ∧ Tr C H (.ref pa) (.list (ps.map passD)) ∧ ps.length ≤ 100 ∧ InB D ps ∧
  ∀ (F : Addr) (os : List Pass) (H' : Hp), Kx [] H H' → Tr C H' (.ref F) (.list (os.map passD)) → ((os = [] ∧ fitB D ps = true) ∨ (os ≠ [] ∧ List.Sublist os ps ∧ fitB D ps = false)) → Q (.ref F) H'
theorem ok__law_over (Y : Facts K mg base fa fd ca ta) : FnOk P w K mg base CX0 1 (fa "_law_over") (fd "_law_over") ["day", "passes"] sp_law_over := by
  refine Y.d__law_over.ok sc__law_over (fun vs H Q E h => ?_) (fun cdv A outer s H vs Q E hcd hr h => ?_)
  · obtain ⟨C, dv, D, pa, ps, rfl, _⟩ := h; rfl
  · obtain ⟨C, dv, D, pa, ps, rfl, al, hdt, hD, hpt, hl, hb, q⟩ := h
    refine ⟨_, (pss_cons (ps_asg (pv 0) (pg_tupK (n := 5) K rfl rfl (pgs_cons (pg_name (i := 2) sc__law_over.nd rfl (by first | exact Or.inl rfl | exact Or.inr rfl)) (pgs_cons (pg_name (i := 3) sc__law_over.nd rfl (by first | exact Or.inl rfl | exact Or.inr rfl)) (pgs_cons (pg_name (i := 4) sc__law_over.nd rfl (by first | exact Or.inl rfl | exact Or.inr rfl)) (pgs_cons (pg_name (i := 5) sc__law_over.nd rfl (by first | exact Or.inl rfl | exact Or.inr rfl)) (pgs_cons (pg_name (i := 6) sc__law_over.nd rfl (by first | exact Or.inl rfl | exact Or.inr rfl)) pgs_nil)))))))
      (pss_cons (ps_for PassesOwn.never rfl (pi_range1 (by rfl) Y.b.range (pa_cons (pv 2) pa_nil)) (pg_name (i := 7) sc__law_over.nd rfl (by first | exact Or.inl rfl | exact Or.inr rfl)) (pss_one (ps_for PassesOwn.never rfl (pi_range1 (by rfl) Y.b.range (pa_cons (pe_callB (call_lenK K rfl) (by rfl) Y.b.len (by decide +kernel) (pa_cons (pv 3) pa_nil)) pa_nil)) (pg_name (i := 8) sc__law_over.nd rfl (by first | exact Or.inl rfl | exact Or.inr rfl)) (pss_cons (ps_setLc (i := 9) (own := [("one", 10)]) (g := gName 10) rfl sc__law_over.nd rfl rfl (sw_true rfl rfl rfl (by decide +kernel)) (pi_listK K rfl (pv 1)) (blkOk_by (N := ["day", "passes", "hours", "stores", "sights", "asks", "blocks", "hour", "craft", "some", "one"]) (sc := defScope s__law_over) (by decide +kernel)) (fun _ _ _ _ _ => (pg_name (i := 10) sc__law_over.nd rfl (by first | exact Or.inl rfl | exact Or.inr rfl))) (fun _ _ _ _ _ => (pts_one ((pw_and (pt_cmpR op_eq (pe_ix (ix_tupK K rfl) (pv 10) pe_int (fun _ _ => rfl)) (pv 8) (nomark _)) (pw_and (pt_cmpR op_isN (pe_ix (ix_tupK K rfl) (pe_ix (ix_listK K rfl) (pv 6) (pe_ix (ix_tupK K rfl) (pv 10) pe_int (fun _ _ => rfl)) (fun _ _ => rfl)) pe_int (fun _ _ => rfl)) pe_non (nomark _)) (pw_and1 (pt_cmpR op_gt (pe_ix (ix_tupK K rfl) (pv 10) pe_int (fun _ _ => rfl)) (pv 7) (nomark _)))))).pt)) (fun _ _ _ _ _ => (pv 10)))
      (pss_cons (ps_setLc (i := 9) (own := [("one", 10)]) (g := gName 10) rfl sc__law_over.nd rfl rfl (sw_true rfl rfl rfl (by decide +kernel)) (pi_listK K rfl (pv 9)) (blkOk_by (N := ["day", "passes", "hours", "stores", "sights", "asks", "blocks", "hour", "craft", "some", "one"]) (sc := defScope s__law_over) (by decide +kernel)) (fun _ _ _ _ _ => (pg_name (i := 10) sc__law_over.nd rfl (by first | exact Or.inl rfl | exact Or.inr rfl))) (fun _ _ _ _ _ => (pts_one (pt_cmpR op_le (pe_ix (ix_tupK K rfl) (pe_ix (ix_listK K rfl) (pv 6) (pe_ix (ix_tupK K rfl) (pv 10) pe_int (fun _ _ => rfl)) (fun _ _ => rfl)) pe_int (fun _ _ => rfl)) (pv 7) (nomark _)))) (fun _ _ _ _ _ => (pv 10)))
      (pss_one (ps_if (pt_cmpR op_gt (pe_callB (call_lenK K rfl) (by rfl) Y.b.len (by decide +kernel) (pa_cons (pv 9) pa_nil)) (pe_ix (ix_listK K rfl) (pv 3) (pv 8) (fun _ _ => rfl)) (nomark _)) (pss_one (ps_ret (pv 9))) pss_nil)))))))
      (pss_one (ps_ret (pe_lst pa_nil))))), ?_⟩
    obtain ⟨da, dx, rfl, edx, tdx⟩ := hdt.tupV
    obtain ⟨y1, y2, y3, y4, y5, rfl, u1, u2, u3, u4, u5⟩ := TrAll.five tdx
    cases u1
    obtain ⟨aS, xS, rfl, eS, tS⟩ := u2.listV
    have exS := TrAll.intsV tS.nilB (by rw [ints_back])
    rw [ints_back] at exS
    subst exS
    obtain ⟨aB, xB, rfl, eB, tB⟩ := u5.listV
    have h10 := hD.t1
    have h01 := hD.t0
    have s4 := hD.s1
    refine ⟨.ref da, rfl, da, _, rfl, SqT.of edx, rfl, _, _, rfl, .ref aS, _, rfl, y3, _, rfl, y4, _, rfl, .ref aB, _, rfl, rfl, ?_⟩
    dsimp only
    refine st_seq (st_for ?_)
    refine ⟨_, rfl, D.hours, rfl, by omega, by omega, ?_⟩
    refine for_gen (itr_at D.hours.toNat) (B := []) (Iv := fun i σ' H' => (∃ z7 z8 z9, σ' = [some (.ref da), some (.ref pa), some (.int D.hours), some (.ref aS), some y3, some y4, some (.ref aB), z7, z8, z9, none]) ∧ ∀ t, t < i → ∀ c, c < D.stores.length → Fits D ps t c)
      ⟨⟨none, none, none, rfl⟩, fun t ht => absurd ht (Nat.not_lt_zero _)⟩ (fun i σ' H1 hi k1 ⟨⟨z7, z8, z9, e⟩, hf⟩ Nn hN => ?_) fun σ' H1 k1 ⟨⟨z7, z8, z9, e⟩, hf⟩ => ?_
    · subst e
      refine st_name ?_
      dsimp only
      refine st_for ?_
      refine ⟨_, rfl, aS, _, rfl, .inl (SqL.of (k1.lst (by simp) eS)), (D.stores.length : Int), by rw [List.length_map], by omega, by omega, ?_⟩
      rw [Int.toNat_natCast]
      refine for_gen (itr_at D.stores.length) (B := []) (Iv := fun j σ' H' => (∃ z8 z9, σ' = [some (.ref da), some (.ref pa), some (.int D.hours), some (.ref aS), some y3, some y4, some (.ref aB), some (.int i), z8, z9, none]) ∧ ∀ c, c < j → Fits D ps i c)
        ⟨⟨_, _, rfl⟩, fun c hc => absurd hc (Nat.not_lt_zero _)⟩ (fun j σ' H2 hj k2 ⟨⟨z8, z9, e⟩, hf2⟩ Nm hNm => ?_) fun σ' H2 k2 ⟨⟨z8, z9, e⟩, hf2⟩ => ?_
      · subst e
        have k02 := k1.trans k2
        have pt2 := hpt.up k02
        have al2 := al_up al k02
        obtain ⟨xp, ep, tp⟩ := pt2.items
        refine st_name ?_
        dsimp only
        refine st_set (lc_use ?_)
        refine ⟨.ref pa, rfl, pa, rfl, ⟨xp, SqL.of ep⟩, ?_⟩
        refine lc_filtC (C := C) (fun d => over1 D i j (passOf d)) al2 ep tp (by rw [List.length_map]; unfold sizeLine; omega) (fun x d H3 hd t k3 R R0 hR hR0 => ?_) fun D1 H3 k3 hD1 t3 => ?_
        · obtain ⟨p, hp, rfl⟩ := List.mem_map.mp hd
          obtain ⟨at_, rfl, eat⟩ := pass_tr t
          have hbk := hb p hp
          rw [passOf_D] at hR hR0
          obtain ⟨xB3, bA, b1, b4, eB3, a3, eb3, f4, -⟩ := blk_ix (u5.up (k02.trans k3)) hbk.1 hbk.2
          refine ⟨rfl, ?_⟩
          have no : over1 D i j p = false → R0 H3 := fun z => hR0 z H3 (Kx.refl _)
          have kd : over1 D i j p = (decide (p.craft = j) && ((blkAt D p.block).due.isNone && decide ((i : Int) < p.hour))) := rfl
          refine ⟨.ref at_, rfl, at_, _, 2, _, rfl, rfl, SqT.of eat, rfl, .int j, rfl, rfl, _, rfl, ?_⟩
          rw [eqV_int]
          cases c1 : decide (p.craft = (j : Int)) with
          | false => exact iteF (no (by rw [kd, c1]; rfl))
          | true =>
          refine iteT ⟨.ref aB, rfl, .ref at_, rfl, at_, _, 3, _, rfl, rfl, SqT.of eat, rfl, aB, xB3, p.block, .ref bA, rfl, rfl, SqL.of eB3, a3, bA, _, 3, b4, rfl, rfl, SqT.of eb3, rfl, rfl, _, rfl, ?_⟩
          have c2 : decide (b4 = V.non) = (blkAt D p.block).due.isNone := by
            rw [isNone_v f4]
            show isNone (optD (blkAt D p.block).due) = _
            cases (blkAt D p.block).due <;> rfl
          rw [c2]
          cases c3 : (blkAt D p.block).due.isNone with
          | false => exact iteF (no (by rw [kd, c1, c3]; rfl))
          | true =>
          refine iteT ⟨.ref at_, rfl, at_, _, 0, _, rfl, rfl, SqT.of eat, rfl, .int i, rfl, _, _, rfl, rfl, _, rfl, ?_⟩
          exact ite2 (fun c => ⟨.ref at_, rfl, hR (by rw [kd, c1, c3]; exact c) H3 (Kx.refl _)⟩) (fun c => no (by rw [kd, c1, c3]; exact notE' c))
        · rw [filter_passes] at t3
          have hb0 : List.Sublist (ps.filter (over1 D i j)) ps := List.filter_sublist
          have hb1 : ∀ p ∈ ps.filter (over1 D i j), p ∈ ps := fun p hp => (List.mem_filter.mp hp).1
          have l1 : (ps.filter (over1 D i j)).length ≤ 100 := Nat.le_trans (List.length_filter_le _ _) hl
          have ok := over_kept D ps i j
          generalize ps.filter (over1 D i j) = qs at t3 hb0 hb1 l1 ok
          obtain ⟨xq, eq_, tq⟩ := t3.items
          have k03 := k02.trans k3
          refine st_set (lc_use ?_)
          refine ⟨.ref D1, rfl, D1, rfl, ⟨xq, SqL.of eq_⟩, ?_⟩
          refine lc_filtC (C := C) (fun d => over2 D i (passOf d)) (al_up al k03) eq_ tq (by rw [List.length_map]; unfold sizeLine; omega) (fun x d H4 hd t k4 R R0 hR hR0 => ?_) fun D2 H4 k4 hD2 t4 => ?_
          · obtain ⟨p, hp, rfl⟩ := List.mem_map.mp hd
            obtain ⟨at_, rfl, eat⟩ := pass_tr t
            have hbk := hb p (hb1 p hp)
            rw [passOf_D] at hR hR0
            obtain ⟨xB3, bA, b1, b4, eB3, a3, eb3, f4, -⟩ := blk_ix (u5.up (k03.trans k4)) hbk.1 hbk.2
            refine ⟨rfl, .ref aB, rfl, .ref at_, rfl, at_, _, 3, _, rfl, rfl, SqT.of eat, rfl, aB, xB3, p.block, .ref bA, rfl, rfl, SqL.of eB3, a3, bA, _, 2, _, rfl, rfl, SqT.of eb3, rfl, .int i, rfl, _, _, rfl, rfl, _, rfl, ?_⟩
            exact ite2 (fun c => ⟨.ref at_, rfl, hR c H4 (Kx.refl _)⟩) (fun c => hR0 (notE' c) H4 (Kx.refl _))
          · rw [filter_passes] at t4
            have hb2 : List.Sublist (qs.filter (over2 D i)) ps := List.filter_sublist.trans hb0
            generalize qs.filter (over2 D i) = os at t4 hb2 ok
            have k04 := k03.trans k4
            obtain ⟨xo, eo, to⟩ := t4.items
            have lo := to.length
            rw [List.length_map] at lo
            have hst : j < D.stores.length := hj
            refine st_ifs ⟨.ref D2, rfl, D2, xo, rfl, .inl (SqL.of eo), .ref aS, rfl, .int j, rfl, aS, _, j, _, rfl, rfl, SqL.of (k04.lst (by simp) eS), atI_nat (by rw [List.getElem?_map, List.getElem?_eq_getElem hst]; rfl), _, _, rfl, rfl, _, rfl, ?_⟩
            have fit : Fits D ps i j ↔ ((os.length : Int) ≤ D.stores[j]) := by
              unfold Fits
              rw [← ok, getD_at _ _ hst]
            refine ite2 (fun c => ?_) (fun c => ?_)
            · have c := of_decide_eq_true c
              refine ⟨_, rfl, q D2 os H4 k04 t4 (.inr ⟨fun z => ?_, hb2, ?_⟩)⟩
              · rw [z] at lo
                have := hD.sb _ (List.getElem_mem hst)
                simp at lo
                rw [lo] at c
                simp at c
                omega
              · rw [Bool.eq_false_iff]
                intro z
                have z1 := List.all_eq_true.mp z j (List.mem_range.mpr hst)
                have z2 := of_decide_eq_true (List.all_eq_true.mp z1 i (List.mem_range.mpr hi))
                have := fit.mp z2
                omega
            · have c := of_decide_eq_false (notE' c)
              refine hNm _ _ (k2.trans (k3.trans k4)) ⟨⟨_, _, rfl⟩, fun c' hc' => ?_⟩
              rcases Nat.lt_or_eq_of_le (Nat.le_of_lt_succ hc') with h | h
              · exact hf2 c' h
              · rw [h, fit]
                omega
      · subst e
        exact hN _ _ (k1.trans k2) ⟨⟨_, _, _, rfl⟩, fun t ht c hc => by
          rcases Nat.lt_or_eq_of_le (Nat.le_of_lt_succ ht) with h | h
          · exact hf t h c hc
          · rw [h]; exact hf2 c hc⟩
    · subst e
      dsimp only
      refine st_ret ⟨len_ok, fun F hF => ?_⟩
      obtain ⟨k2, e2, t2⟩ := mk_lst (al_up al k1) .nil hF
      exact q F [] _ (k1.trans k2) t2 (.inl ⟨rfl, fitB_of hf⟩)
end
end Law

set_option Elab.async false
set_option linter.all false
set_option maxRecDepth 100000
set_option maxHeartbeats 4000000
namespace Law
open PySem PySem.Spec PyProof.Rows L2 GxR GX Tree Kit Data Loops Loops2 Comps Purse Day SetG SetL Lit Sets Ib
section
variable {P : Program} {w : World} {K : PySem.W.Frag} {mg : Str → Option Value} {base : Heap} {fa : String → Addr} {fd : String → FuncData} {ca ta : String → Addr}
/-! ### a drawn plan -/
def samePass (p q : Pass) : Bool := PyData.eqv (passD p) (passD q)
theorem same_self (p : Pass) : samePass p p = true := by
  show ((p.hour == p.hour) && ((p.dish == p.dish) && ((p.craft == p.craft) && ((p.block == p.block) && true)))) = true
  simp
theorem same_iff {p q : Pass} : samePass p q = true ↔ p = q := by
  constructor
  · intro h
    have h : ((p.hour == q.hour) && ((p.dish == q.dish) && ((p.craft == q.craft) && ((p.block == q.block) && true)))) = true := h
    simp only [Bool.and_eq_true, beq_iff_eq, Bool.and_true] at h
    obtain ⟨h1, h2, h3, h4⟩ := h
    cases p
    cases q
    simp only at h1 h2 h3 h4
    rw [h1, h2, h3, h4]
  · intro h
    rw [h]
    exact same_self q
theorem shaped_pass (p : Pass) : SeqAt.shaped (passD p) = true := rfl
theorem dp_pass {H : Hp} {a : Addr} {p : Pass} (h : H a = some (.tup [.int p.hour, .int p.dish, .int p.craft, .int p.block])) : Dp K H (.ref a) (passD p) :=
  .tup (SqT.of h) (.cons (.int _) (.cons (.int _) (.cons (.int _) (.cons (.int _) .nil))))
theorem gone_len {ps : List Pass} {g : Pass} (h : g ∈ ps) : (ps.filter fun p => !samePass p g).length + 1 ≤ ps.length := by
  have := List.length_filter_lt_length_iff_exists (p := fun p => !samePass p g) (l := ps) |>.mpr ⟨g, h, by rw [same_self]; simp⟩
  omega
def sp_law_plan (Ts : List Addr) : Sp := fun vs H Q _ => ∃ (p : Addr) (n : Nat) (C : List Addr) (dv : V) (D : Dy), vs = [.ref p, dv] ∧ n ≤ 700000000000 ∧ At Ts C p n H ∧ Tr C H dv (dayD D) ∧ DyOk D ∧
  ∀ (F : Addr) (ps : List Pass) (H' : Hp), Kx [p] H H' → At Ts C p (n + 80) H' → Tr C H' (.ref F) (.list (ps.map passD)) → Dr D D.hours 0 ps → Plan D ps → Q (.ref F) H'
theorem ok__law_plan (Y : Facts K mg base fa fd ca ta) : FnOk P w K mg base CX0 3 (fa "_law_plan") (fd "_law_plan") ["purse", "day"] (sp_law_plan (Ts ta)) := by
  refine Y.d__law_plan.ok sc__law_plan (fun vs H Q E h => ?_) (fun cdv A outer s H vs Q E hcd hr h => ?_)
  · obtain ⟨p, n, C, dv, D, rfl, _⟩ := h; rfl
  · obtain ⟨p, n, C, dv, D, rfl, hn, hA, hdt, hD, q⟩ := h
    refine ⟨_, (pss_cons (ps_set (i := 2) sc__law_plan.nd rfl (by first | exact Or.inl rfl | exact Or.inr rfl) (pe_call (ok__law_passes Y) (hr.mono (by decide)) (by rfl) Y.d__law_passes.g Y.d__law_passes.kp Y.d__law_passes.b .nil pass0 (pa_cons (pv 0) (pa_cons (pv 1) pa_nil))))
      (pss_cons (ps_for PassesOwn.never rfl (pi_range1 (by rfl) Y.b.range (pa_cons pe_int pa_nil)) (pg_name (i := 3) sc__law_plan.nd rfl (by first | exact Or.inl rfl | exact Or.inr rfl)) (pss_cons (ps_set (i := 4) sc__law_plan.nd rfl (by first | exact Or.inl rfl | exact Or.inr rfl) (pe_call (ok__law_over Y) (hr.mono (by decide)) (by rfl) Y.d__law_over.g Y.d__law_over.kp Y.d__law_over.b .nil pass0 (pa_cons (pv 1) (pa_cons (pv 2) pa_nil))))
      (pss_one (ps_if (pt_cmpR (op_neNil hr.units0) (pv 4) (pe_lst pa_nil) (nomark _)) (pss_cons (ps_set (i := 5) sc__law_plan.nd rfl (by first | exact Or.inl rfl | exact Or.inr rfl) (pe_ix (ix_listK K rfl) (pv 4) (pe_call (ok__law_coin Y) (hr.mono (by decide)) (by rfl) Y.d__law_coin.g Y.d__law_coin.kp Y.d__law_coin.b .nil pass0 (pa_cons (pv 0) (pa_cons (pe_callB (call_lenK K rfl) (by rfl) Y.b.len (by decide +kernel) (pa_cons (pv 4) pa_nil)) pa_nil))) (fun _ _ => rfl)))
      (pss_one (ps_setLc (i := 2) (own := [("one", 6)]) (g := gName 6) rfl sc__law_plan.nd rfl rfl (sw_true rfl rfl rfl (by decide +kernel)) (pi_listK K rfl (pv 2)) (blkOk_by (N := ["purse", "day", "found", "turn", "over", "gone", "one"]) (sc := defScope s__law_plan) (by decide +kernel)) (fun _ _ _ _ _ => (pg_name (i := 6) sc__law_plan.nd rfl (by first | exact Or.inl rfl | exact Or.inr rfl))) (fun _ _ _ _ _ => (pts_one (pt_cmpR (op_neDK K rfl hr.units) (pv 6) (pv 5) (nomark _)))) (fun _ _ _ _ _ => (pv 6))))) pss_nil))))
      (pss_one (ps_ret (pv 2))))), ?_⟩
    have b14 := hD.bl
    refine st_set ⟨.ref p, rfl, dv, rfl, p, n, C, dv, D, rfl, by omega, hA, hdt, hD, fun F0 ps0 H1 k1 A1 t1 dr1 => ?_⟩
    refine st_seq (st_for ?_)
    refine ⟨_, rfl, by decide, by decide, ?_⟩
    have l0 := dr1.len
    refine for_gen (itr_at (14 : Int).toNat) (B := [p]) (Iv := fun i σ' H' => ∃ F z3 z4 z5 ps, σ' = [some (.ref p), some dv, some (.ref F), z3, z4, z5, none] ∧ Tr C H' (.ref F) (.list (ps.map passD)) ∧ At (Ts ta) C p (n + 60 + i) H' ∧ Dr D D.hours 0 ps ∧ (fitB D ps = true ∨ ps.length + i ≤ 14))
      ⟨F0, none, none, none, ps0, rfl, t1, A1, dr1, .inr (by omega)⟩ (fun i σ' H2 hi k2 ⟨F, z3, z4, z5, ps, e, t2, A2, dr, hf⟩ Nn hN => ?_) fun σ' H2 k2 ⟨F, z3, z4, z5, ps, e, t2, A2, dr, hf⟩ => ?_
    · subst e
      have hi14 : i < 14 := hi
      have lps := dr.len
      have d2 := hA.tr hdt (k1.trans k2)
      refine st_name ?_
      dsimp only
      refine st_set ⟨dv, rfl, .ref F, rfl, C, dv, D, F, ps, rfl, A2.al, d2, hD, t2, by omega, inB_of dr.ok, fun O os H3 k3 t3 ho => ?_⟩
      have A3 := A2.kx k3
      obtain ⟨xo, eo, to⟩ := t3.items
      have lo := to.length
      rw [List.length_map] at lo
      refine st_ifs ⟨.ref O, rfl, len_ok, fun N hN' => ?_⟩
      have k4 : Kx [] H3 (upd H3 N (.lst [])) := Kx.new hN'
      have eN4 : upd H3 N (.lst []) N = some (.lst []) := upd_same
      generalize upd H3 N (.lst []) = H4 at k4 eN4 ⊢
      have A4 := A3.kx k4
      refine ⟨O, N, xo, rfl, rfl, k4.lst (by simp) eo, eN4, _, rfl, ?_⟩
      rcases ho with ⟨rfl, hfit⟩ | ⟨hne, hsub, hnf⟩
      · have ex : xo = [] := List.length_eq_zero_iff.mp (by simpa using lo)
        subst ex
        exact iteF (hN _ _ (k2.trans (k3.trans k4).of) ⟨F, _, _, _, ps, rfl, t2.up (k3.trans k4), A4.mono (by omega), dr, .inl hfit⟩)
      · have hlen : 0 < os.length := List.length_pos_iff.mpr hne
        have hle := hsub.length_le
        have ex : xo.isEmpty = false := by
          cases xo with
          | nil => simp at lo; omega
          | cons _ _ => rfl
        rw [ex]
        have to4 := to.up k4
        refine iteT (st_set ⟨.ref O, rfl, .ref p, rfl, .ref O, rfl, O, xo, rfl, .inl (SqL.of (k4.lst (by simp) eo)), p, _, (xo.length : Int), C, rfl, by omega, by omega, by omega, A4, fun r H5 r0 r1 k5 A5 => ?_⟩)
        have to5 := A4.trs to4 k5
        obtain ⟨v, d, a5, tv, md⟩ := pick to5 r0 r1
        obtain ⟨g, hg, rfl⟩ := List.mem_map.mp md
        obtain ⟨ga, rfl, eg⟩ := pass_tr tv
        refine ⟨O, xo, r, .ref ga, rfl, rfl, SqL.of (k5.lst (A4.nepT (t3.up k4)) (k4.lst (by simp) eo)), a5, ?_⟩
        have t5 := A4.tr (t2.up (k3.trans k4)) k5
        obtain ⟨xf, ef, tf⟩ := t5.items
        refine st_asg (lc_use ?_)
        refine ⟨.ref F, rfl, F, rfl, ⟨xf, SqL.of ef⟩, ?_⟩
        refine lc_filtC (C := C) (fun d => !samePass (passOf d) g) A5.al ef tf (by rw [List.length_map]; unfold sizeLine; omega) (fun x d H6 hd t k6 R R0 hR hR0 => ?_) fun D2 H6 k6 hD2 t6 => ?_
        · obtain ⟨q', hq', rfl⟩ := List.mem_map.mp hd
          obtain ⟨at_, rfl, eat⟩ := pass_tr t
          rw [passOf_D] at hR hR0
          refine ⟨rfl, .ref at_, rfl, .ref ga, rfl, passD q', passD g, dp_pass eat, dp_pass (k6.tup (by simp) eg), shaped_pass _, shaped_pass _, _, rfl, ?_⟩
          exact ite2 (fun c => ⟨.ref at_, rfl, hR c H6 (Kx.refl _)⟩) (fun c => hR0 (notE' c) H6 (Kx.refl _))
        · rw [filter_passes ps fun p => !samePass p g] at t6
          have hl := gone_len (hsub.subset hg)
          refine hN _ _ (k2.trans ((k3.trans k4).of.trans (k5.trans k6.of))) ⟨D2, _, _, _, _, rfl, t6, (A5.kx k6).mono (by omega), dr.sub List.filter_sublist, ?_⟩
          rcases hf with h | h
          · rw [h] at hnf; cases hnf
          · exact .inr (by omega)
    · subst e
      have fin : fitB D ps = true := by
        rcases hf with h | h
        · exact h
        · have e : ps = [] := List.length_eq_zero_iff.mp (by have : (14 : Int).toNat = 14 := rfl; omega)
          rw [e]
          refine fitB_of fun t ht c hc => ?_
          show ((keptL D [] c t).length : Int) ≤ _
          rw [getD_at _ _ hc]
          exact (hD.sb _ (List.getElem_mem hc)).1
      have lps := dr.len
      refine ⟨_, rfl, q F ps H2 (k1.trans k2) (A2.mono (by have : (14 : Int).toNat = 14 := rfl; omega)) t2 dr ⟨dr.ok, ?_, by omega⟩⟩
      unfold planT
      rw [dr.rises, dr.clash, fin]
      rfl
end
end Law

set_option Elab.async false
set_option linter.all false
set_option maxRecDepth 100000
set_option maxHeartbeats 4000000
namespace Law
open PySem PySem.Spec PyProof.Rows L2 GxR GX Tree Kit Data Loops Loops2 Comps Purse Day SetG SetL Lit Sets Ib Small
section
variable {P : Program} {w : World} {K : PySem.W.Frag} {mg : Str → Option Value} {base : Heap} {fa : String → Addr} {fd : String → FuncData} {ca ta : String → Addr}
/-! ### sizes -/
theorem day_sm {d : PyData} {most blocks : Int} (hm : most ≤ 10) (hb : blocks ≤ 14) (g : DayG most blocks d) : Sm 20 1000000 400 4 d := by
  obtain ⟨hh, sts, sis, ask, bls, rfl, h1, h2, s1, s2, i1, i2, a1, b1, g1, g2, g3, g4, -⟩ := g
  have l1 := Sm.list g1 (show sts.length ≤ 5 by omega) (by decide)
  have l2 := Sm.list g2 (show sis.length ≤ 4 by omega) (by decide)
  have l3 := Sm.list g3 (show ask.length ≤ 4 by omega) (by decide)
  have l4 := Sm.list g4 (show bls.length ≤ 15 by omega) (by decide)
  have l0 : Sm 20 1000000 1 0 (.int hh) := Sm.int (by omega)
  refine Sm.mkTuple (by simp) ?_ (fun d hd => ?_) (by decide)
  · have := l1.sz
    have := l2.sz
    have := l3.sz
    have := l4.sz
    have := l0.sz
    simp only [szAll]
    omega
  · simp only [List.mem_cons, List.mem_singleton, List.not_mem_nil, or_false] at hd
    rcases hd with rfl | rfl | rfl | rfl | rfl
    · exact ⟨l0.bd, by have := l0.dp; omega⟩
    · exact ⟨l1.bd, by have := l1.dp; omega⟩
    · exact ⟨l2.bd, by have := l2.dp; omega⟩
    · exact ⟨l3.bd, by have := l3.dp; omega⟩
    · exact ⟨l4.bd, by have := l4.dp; omega⟩
theorem day_typed {d : PyData} {most blocks : Int} (hm : most ≤ 10) (hb : blocks ≤ 14) (g : DayG most blocks d) : ∃ D, d = dayD D ∧ DayV D ∧ Sm 20 1000000 400 4 (dayD D) := by
  have hs := day_sm hm hb g
  obtain ⟨hh, sts, sis, ask, bls, e, h1, h2, s1, s2, i1, i2, a1, b1, g1, g2, g3, g4, gd⟩ := g
  obtain ⟨D, eD, hD⟩ := day_of gd
  rw [eD] at hs gd
  exact ⟨D, eD, ⟨hD, gd, Nat.le_trans hs.sz (by decide)⟩, hs⟩
theorem pass_sm {D : Dy} (hD : DyOk D) {p : Pass} (h : passT D p = true) : Sm 20 1000000 5 1 (passD p) := by
  obtain ⟨b1, b2, b3, b4, -⟩ := passT_of h
  have t1 := hD.t1
  have s1 := hD.s1
  have g1 := hD.g1
  have bl := hD.bl
  refine Sm.tuple (N := 4) (S := 1) (D := 0) (fun d hd => ?_) (by simp) (by decide)
  simp only [List.mem_cons, List.mem_singleton, List.not_mem_nil, or_false] at hd
  rcases hd with rfl | rfl | rfl | rfl
  · exact Sm.int (by omega)
  · exact Sm.int (by omega)
  · exact Sm.int (by omega)
  · exact Sm.int (by omega)
theorem plan_sm {D : Dy} (hD : DyOk D) {ps : List Pass} (h : ∀ p ∈ ps, passT D p = true) (hl : ps.length ≤ 14) : Sm 20 1000000 71 2 (.list (ps.map passD)) :=
  Sm.list (N := 14) (S := 5) (D := 1) (fun d hd => by
    obtain ⟨p, hp, rfl⟩ := List.mem_map.mp hd
    exact pass_sm hD (h p hp)) (by rw [List.length_map]; exact hl) (by decide)
theorem two_sm {a b : PyData} {S1 S2 D1 D2 : Nat} (h1 : Sm 20 1000000 S1 D1 a) (h2 : Sm 20 1000000 S2 D2 b) (hS : S1 + S2 + 1 ≤ 2000) (hD1 : D1 + 1 ≤ 9) (hD2 : D2 + 1 ≤ 9) : Sm 20 1000000 2000 9 (.list [a, b]) := by
  have z1 := h1.sz
  have z2 := h2.sz
  have p1 := h1.dp
  have p2 := h2.dp
  refine Sm.mkList (by simp) (by simp only [szAll]; omega) (fun d hd => ?_) (by decide)
  simp only [List.mem_cons, List.mem_singleton, List.not_mem_nil, or_false] at hd
  rcases hd with rfl | rfl
  · exact ⟨h1.bd, by omega⟩
  · exact ⟨h2.bd, by omega⟩
theorem keptL_sub {D : Dy} {ps qs : List Pass} (s : List.Sublist qs ps) (c h : Int) : (keptL D qs c h).length ≤ (keptL D ps c h).length := ((s.filter _).map _).length_le
theorem fitB_sub {D : Dy} {ps qs : List Pass} (s : List.Sublist qs ps) (h : fitB D ps = true) : fitB D qs = true :=
  List.all_eq_true.mpr fun c hc => List.all_eq_true.mpr fun t ht => decide_eq_true (by
    have := of_decide_eq_true (List.all_eq_true.mp (List.all_eq_true.mp h c hc) t ht)
    have := keptL_sub (D := D) s c t
    omega)
theorem Plan.fit {D : Dy} {ps : List Pass} (h : Plan D ps) : fitB D ps = true := (Bool.and_eq_true_iff.mp (Bool.and_eq_true_iff.mp h.pl).2).2
/-- a part of a drawn plan is a plan -/
theorem Dr.plan {D : Dy} {ps qs : List Pass} {h d : Int} (x : Dr D h d ps) (pl : Plan D ps) (s : List.Sublist qs ps) : Plan D qs := by
  have y := x.sub s
  refine ⟨y.ok, ?_, Nat.lt_of_le_of_lt s.length_le pl.len⟩
  unfold planT
  rw [y.rises, y.clash, fitB_sub s pl.fit]
  rfl
theorem plan_nil {D : Dy} (hD : DyOk D) : Plan D [] := by
  refine ⟨fun p hp => (nomatch hp), ?_, by decide⟩
  have e : fitB D [] = true := fitB_of fun t ht c hc => by
    show ((keptL D [] c t).length : Int) ≤ _
    rw [getD_at _ _ hc]
    exact (hD.sb _ (List.getElem_mem hc)).1
  unfold planT
  rw [e]
  rfl
end
end Law

set_option Elab.async false
set_option linter.all false
set_option maxRecDepth 100000
set_option maxHeartbeats 4000000
namespace Law
open PySem PySem.Spec PyProof.Rows L2 GxR GX Tree Kit Data Loops Loops2 Comps Purse Day SetG SetL Lit Sets Ib Small
section
variable {P : Program} {w : World} {K : PySem.W.Frag} {mg : Str → Option Value} {base : Heap} {fa : String → Addr} {fd : String → FuncData} {ca ta : String → Addr}
/-! ### the numbers below many, in a drawn order -/
def ups (m : Nat) : List Int := (List.range m).map fun i : Nat => (i : Int)
theorem er_map {l : List Int} (j : Nat) : (l.map V.int).eraseIdx j = (l.eraseIdx j).map V.int := by
  rw [List.eraseIdx_eq_take_drop_succ, List.eraseIdx_eq_take_drop_succ, List.map_append, List.map_take, List.map_drop]
theorem er_perm {l : List Int} {j : Nat} (h : j < l.length) : (l[j] :: l.eraseIdx j).Perm l := by
  rw [List.eraseIdx_eq_take_drop_succ]
  refine List.perm_middle.symm.trans ?_
  rw [← List.drop_eq_getElem_cons h, List.take_append_drop]
def sp_law_turned (Ts : List Addr) : Sp := fun vs H Q _ => ∃ (p : Addr) (n : Nat) (C : List Addr) (m : Nat), vs = [.ref p, .int m] ∧ m ≤ 14 ∧ n ≤ 800000000000 ∧ At Ts C p n H ∧
  ∀ (F : Addr) (ns : List Int) (H' : Hp), Kx [p] H H' → At Ts C p (n + 14) H' → H F = none → H' F = some (.lst (ns.map V.int)) → ns.Perm (ups m) → Q (.ref F) H'
theorem ok__law_turned (Y : Facts K mg base fa fd ca ta) : FnOk P w K mg base CX0 2 (fa "_law_turned") (fd "_law_turned") ["purse", "many"] (sp_law_turned (Ts ta)) := by
  refine Y.d__law_turned.ok sc__law_turned (fun vs H Q E h => ?_) (fun cdv A outer s H vs Q E hcd hr h => ?_)
  · obtain ⟨p, n, C, m, rfl, _⟩ := h; rfl
  · obtain ⟨p, n, C, m, rfl, hm, hn, hA, q⟩ := h
    refine ⟨_, (pss_cons (ps_set (i := 2) sc__law_turned.nd rfl (by first | exact Or.inl rfl | exact Or.inr rfl) (pe_listRg rfl (by rfl) Y.b.list (prg_1 (by rfl) Y.b.range (pv 1))))
      (pss_one (ps_ret (pe_lc (own := [("one", 3)]) (g := gName 3) (tt := tYes) rfl sc__law_turned.nd (pi_range1 (by rfl) Y.b.range (pa_cons (pv 1) pa_nil)) (blkOk_by (N := ["purse", "many", "left", "one"]) (sc := defScope s__law_turned) (by decide +kernel)) (fun _ _ _ _ _ => (pg_name (i := 3) sc__law_turned.nd rfl (by first | exact Or.inl rfl | exact Or.inr rfl))) (fun _ _ _ _ _ => pts_nil) (fun _ _ _ _ _ => (Caught.pe_bmK K rfl PySem.F.plainAttrs_list PySem.F.slot_list_pop PySem.F.type_list_pop mt_popAt (pv 2) (pa_cons (pe_call (ok__law_coin Y) (hr.mono (by decide)) (by rfl) Y.d__law_coin.g Y.d__law_coin.kp Y.d__law_coin.b .nil pass0 (pa_cons (pv 0) (pa_cons (pe_callB (call_lenK K rfl) (by rfl) Y.b.len (by decide +kernel) (pa_cons (pv 2) pa_nil)) pa_nil))) pa_nil))))))), ?_⟩
    refine st_set ⟨.int m, rfl, m, rfl, RgOk.of_le (by decide) (by omega) (by decide) (by omega), fun L hL => ?_⟩
    have el : rgV 0 (m : Int) = (ups m).map V.int := by
      show (List.range ((m : Int) - 0).toNat).map (fun i : Nat => V.int (0 + (i : Int))) = _
      unfold ups
      rw [List.map_map, show ((m : Int) - 0).toNat = m by omega]
      exact List.map_congr_left fun i _ => by show V.int (0 + (i : Int)) = V.int i; rw [Int.zero_add]
    rw [el]
    have k1 : Kx [] H (upd H L (.lst ((ups m).map V.int))) := Kx.new hL
    have eL : upd H L (.lst ((ups m).map V.int)) L = some (.lst ((ups m).map V.int)) := upd_same
    have A1 := hA.kx k1
    have nLp : L ≠ p := fun z => by rw [z] at hL; exact hA.pu.ne hL
    generalize upd H L (.lst ((ups m).map V.int)) = H1 at k1 eL A1 ⊢
    have lu : (ups m).length = m := by unfold ups; simp
    refine st_ret (lc_use ?_)
    refine ⟨.int m, rfl, m, rfl, by omega, by omega, ?_⟩
    rw [Int.toNat_natCast]
    intro F hF
    have nFp : F ≠ p := fun z => by rw [z] at hF; exact A1.pu.ne hF
    have nFL : F ≠ L := fun z => by rw [z, eL] at hF; cases hF
    refine lc_gen (B := [p, L]) (itr_at m) (by unfold sizeLine; omega) hF (A := fun i acc H' => At (Ts ta) C p (n + i) H' ∧ ∃ ls as : List Int, H' L = some (.lst (ls.map V.int)) ∧ acc = as.map V.int ∧ (as ++ ls).Perm (ups m) ∧ ls.length + i = m)
      ⟨A1.new hF, ups m, [], by rw [upd_ne (Ne.symm nFL)]; exact eL, rfl, .refl _, by omega⟩ (fun i H2 acc hi k2 hdd ⟨A2, ls, as, e2, ea, pm, ln⟩ R R0 hR hR0 => ?_) fun acc H2 k2 hdd ⟨A2, ls, as, e2, ea, pm, ln⟩ => ?_
    · refine ⟨rfl, .ref L, rfl, .inl ⟨rfl, _, SqL.of e2⟩, .ref p, rfl, .ref L, rfl, L, _, rfl, .inl (SqL.of e2), p, _, (ls.length : Int), C, by rw [List.length_map]; rfl, by omega, by omega, by omega, A2, fun r H3 r0 r1 k3 A3 => ?_⟩
      obtain ⟨j, rfl⟩ : ∃ j : Nat, r = (j : Int) := ⟨r.toNat, by omega⟩
      have hj : j < ls.length := by omega
      have e3 := k3.lst (by simpa using nLp) e2
      have ix : ixN (ls.map V.int).length (j : Int) = some j := by
        unfold ixN
        rw [List.length_map, if_pos (by omega), if_pos (by omega), Int.toNat_natCast]
      refine ⟨L, _, j, j, .int ls[j], rfl, rfl, e3, by omega, by omega, (ixN_seq ix).1, by rw [List.getElem?_map, List.getElem?_eq_getElem hj]; rfl, ?_⟩
      have k4 : Kx [L] H3 (upd H3 L (.lst ((ls.map V.int).eraseIdx j))) := Kx.put (by simp)
      have A4 : At (Ts ta) C p (n + i + 1) (upd H3 L (.lst ((ls.map V.int).eraseIdx j))) := A3.set e3 nLp
      have hdd3 := k3.lst (by simpa using nFp) hdd
      have hdd4 := k4.lst (by simpa using nFL) hdd3
      refine hR _ _ (k2.trans ((k3.sub (by simp)).trans (k4.sub (by simp)))) hdd4 ⟨(A4.set hdd4 nFp).mono (by omega), ls.eraseIdx j, as ++ [ls[j]], ?_, ?_, ?_, ?_⟩
      · rw [upd_ne (Ne.symm nFL), upd_same, er_map]
      · rw [ea, List.map_append]; rfl
      · refine List.Perm.trans ?_ pm
        rw [List.append_assoc]
        exact List.Perm.append_left _ (er_perm hj)
      · rw [List.length_eraseIdx, if_pos hj]; omega
    · have e0 : ls = [] := List.length_eq_zero_iff.mp (by omega)
      rw [e0, List.append_nil] at pm
      rw [ea] at hdd
      refine q F as H2 (Kx.weak (k1.of.trans k2) fun b hb => ?_) (A2.mono (by omega)) (k1.free (by simp) hF) hdd pm
      simp only [List.mem_cons, List.not_mem_nil, or_false] at hb
      rcases hb with rfl | rfl
      · exact .inl (by simp)
      · exact .inr hL
end
end Law

set_option Elab.async false
set_option linter.all false
set_option maxRecDepth 100000
set_option maxHeartbeats 4000000
namespace Law
open PySem PySem.Spec PyProof.Rows L2 GxR GX Tree Kit Data Loops Loops2 Comps Purse Day SetG SetL Lit Sets Ib Small
/-! ### plans, told without an order -/
structure Plx (D : Dy) (ps : List Pass) : Prop where
  ok : ∀ p ∈ ps, passT D p = true
  hd : ps.Pairwise fun a b => ¬ (a.hour = b.hour ∧ a.dish = b.dish)
  hc : ps.Pairwise fun a b => ¬ (a.hour = b.hour ∧ a.craft = b.craft)
  bk : (ps.map Pass.block).Nodup
  ft : fitB D ps = true
theorem keptL_perm {D : Dy} {ps qs : List Pass} (p : qs.Perm ps) (c h : Int) : (keptL D qs c h).Perm (keptL D ps c h) := (p.filter _).map _
theorem fitB_perm {D : Dy} {ps qs : List Pass} (p : qs.Perm ps) (h : fitB D ps = true) : fitB D qs = true :=
  List.all_eq_true.mpr fun c hc => List.all_eq_true.mpr fun t ht => by
    have := List.all_eq_true.mp (List.all_eq_true.mp h c hc) t ht
    rwa [← (keptL_perm p c t).length_eq] at this
theorem Plx.perm {D : Dy} {ps qs : List Pass} (h : Plx D ps) (p : qs.Perm ps) : Plx D qs := by
  refine ⟨fun a ha => h.ok a (p.subset ha), ?_, ?_, ?_, fitB_perm p h.ft⟩
  · exact (p.pairwise_iff (fun z y => z ⟨y.1.symm, y.2.symm⟩)).mpr h.hd
  · exact (p.pairwise_iff (fun z y => z ⟨y.1.symm, y.2.symm⟩)).mpr h.hc
  · exact (p.map Pass.block).nodup_iff.mpr h.bk
theorem lex2 {a b : Pass} (n : ¬ (a.hour = b.hour ∧ a.dish = b.dish)) (h : a.hour < b.hour ∨ (a.hour = b.hour ∧ a.dish ≤ b.dish)) : HT.lexLt (passI a) (passI b) = true := by
  unfold passI
  rw [HT.lexLt_cons]
  by_cases e : a.hour = b.hour
  · rw [if_pos e, HT.lexLt_cons, if_neg (by omega)]
    exact decide_eq_true (by omega)
  · rw [if_neg e]
    exact decide_eq_true (by omega)
/-- in order, it is a plan -/
theorem Plx.plan {D : Dy} {qs : List Pass} (h : Plx D qs) (up : qs.Pairwise fun a b => a.hour < b.hour ∨ (a.hour = b.hour ∧ a.dish ≤ b.dish)) (hl : qs.length < 64) : Plan D qs := by
  refine ⟨h.ok, ?_, hl⟩
  have h1 : risesP qs = true := by
    refine List.all_eq_true.mpr fun i hi => ?_
    have hi := List.mem_range.mp hi
    rw [getD_at qs p0 (by omega), getD_at qs p0 (by omega)]
    exact lex2 (List.pairwise_iff_getElem.mp h.hd i (i + 1) (by omega) (by omega) (by omega)) (List.pairwise_iff_getElem.mp up i (i + 1) (by omega) (by omega) (by omega))
  have h2 : clashB qs = true := by
    unfold clashB
    rw [Bool.and_eq_true, Bool.and_eq_true]
    refine ⟨decide_eq_true (List.pairwise_map.mpr (h.hd.imp fun {a b} h e => ?_)), decide_eq_true (List.pairwise_map.mpr (h.hc.imp fun {a b} h e => ?_)), decide_eq_true h.bk⟩
    · injection e with e1 e
      injection e with e2
      exact h ⟨e1, e2⟩
    · injection e with e1 e
      injection e with e2
      exact h ⟨e1, e2⟩
  unfold planT
  rw [h1, h2, h.ft]
  rfl
theorem Dr.plx {D : Dy} {ps : List Pass} {h d : Int} (x : Dr D h d ps) (pl : Plan D ps) : Plx D ps :=
  ⟨x.ok, x.up.imp fun {a b} z y => by omega, x.cr, x.bk, pl.fit⟩
theorem sum_perm {l m : List Int} (p : l.Perm m) : l.sum = m.sum := by
  induction p with
  | nil => rfl
  | cons a _ ih => rw [List.sum_cons, List.sum_cons, ih]
  | swap a b l => rw [List.sum_cons, List.sum_cons, List.sum_cons, List.sum_cons]; omega
  | trans _ _ h1 h2 => rw [h1, h2]
theorem gainL_perm {D : Dy} {ps qs : List Pass} (p : qs.Perm ps) : gainL D qs = gainL D ps := sum_perm (p.map _)
/-! ### numbers in another order -/
def cAt (cs : List Int) (j : Int) : Int := cs.getD j.toNat 0
def ixI (cs : List Int) (k : Nat) : Nat := cs.idxOf (k : Int)
structure Pm (cs : List Int) (m : Nat) : Prop where
  pm : cs.Perm (ups m)
section
variable {cs : List Int} {m : Nat}
theorem ups_len (m : Nat) : (ups m).length = m := by unfold ups; simp
theorem ups_mem {m : Nat} {i : Int} : i ∈ ups m ↔ 0 ≤ i ∧ i < (m : Int) := by
  unfold ups
  rw [List.mem_map]
  constructor
  · rintro ⟨j, hj, rfl⟩
    have := List.mem_range.mp hj
    omega
  · intro h
    exact ⟨i.toNat, List.mem_range.mpr (by omega), by omega⟩
theorem ups_nodup (m : Nat) : (ups m).Nodup := by
  unfold ups
  exact List.pairwise_map.mpr (List.nodup_range.imp fun h e => h (by omega))
theorem Pm.len (h : Pm cs m) : cs.length = m := by rw [h.pm.length_eq, ups_len]
theorem Pm.nd (h : Pm cs m) : cs.Nodup := h.pm.nodup_iff.mpr (ups_nodup m)
theorem Pm.mem (h : Pm cs m) {i : Int} : i ∈ cs ↔ 0 ≤ i ∧ i < (m : Int) := h.pm.mem_iff.trans ups_mem
theorem Pm.at_ (h : Pm cs m) {j : Int} (h0 : 0 ≤ j) (h1 : j < (m : Int)) : ∃ hj : j.toNat < cs.length, cAt cs j = cs[j.toNat] := by
  have := h.len
  exact ⟨by omega, getD_at cs 0 (by omega)⟩
theorem Pm.rg (h : Pm cs m) {j : Int} (h0 : 0 ≤ j) (h1 : j < (m : Int)) : 0 ≤ cAt cs j ∧ cAt cs j < (m : Int) := by
  obtain ⟨hj, e⟩ := h.at_ h0 h1
  rw [e]
  exact h.mem.mp (List.getElem_mem hj)
theorem nodup_ix {l : List Int} (h : l.Nodup) {i j : Nat} (hi : i < l.length) (hj : j < l.length) (e : l[i] = l[j]) : i = j := by
  rcases Nat.lt_trichotomy i j with z | z | z
  · exact absurd e (List.pairwise_iff_getElem.mp h i j hi hj z)
  · exact z
  · exact absurd e.symm (List.pairwise_iff_getElem.mp h j i hj hi z)
theorem Pm.inj (h : Pm cs m) {i j : Int} (h0 : 0 ≤ i) (h1 : i < (m : Int)) (g0 : 0 ≤ j) (g1 : j < (m : Int)) (e : cAt cs i = cAt cs j) : i = j := by
  obtain ⟨hi, ei⟩ := h.at_ h0 h1
  obtain ⟨hj, ej⟩ := h.at_ g0 g1
  rw [ei, ej] at e
  have := nodup_ix h.nd hi hj e
  omega
theorem Pm.ix (h : Pm cs m) {k : Nat} (hk : k < m) : ixI cs k < m ∧ cAt cs (ixI cs k : Int) = k := by
  have hm : (k : Int) ∈ cs := h.mem.mpr ⟨by omega, by omega⟩
  have h1 := List.idxOf_lt_length_of_mem hm
  have hl := h.len
  refine ⟨by unfold ixI; omega, ?_⟩
  unfold cAt ixI
  rw [Int.toNat_natCast, getD_at cs 0 h1]
  exact List.getElem_idxOf h1
theorem Pm.ixc (h : Pm cs m) {j : Int} (h0 : 0 ≤ j) (h1 : j < (m : Int)) : ((ixI cs (cAt cs j).toNat : Nat) : Int) = j := by
  have r := h.rg h0 h1
  obtain ⟨i1, i2⟩ := h.ix (k := (cAt cs j).toNat) (by omega)
  refine h.inj (by omega) (by omega) h0 h1 ?_
  rw [i2]
  omega
end
/-! ### the day, its craft, dishes and blocks numbered otherwise -/
def sortI (l : List Int) : List Int := l.mergeSort fun a b => decide (a ≤ b)
theorem sortI_perm (l : List Int) : (sortI l).Perm l := List.mergeSort_perm l _
theorem sortI_le (l : List Int) : (sortI l).Pairwise (· ≤ ·) := by
  have := List.pairwise_mergeSort (le := fun a b : Int => decide (a ≤ b)) (fun a b c h1 h2 => by simp only [decide_eq_true_eq] at *; omega) (fun a b => by simp only [Bool.or_eq_true, decide_eq_true_eq]; omega) l
  exact this.imp fun h => of_decide_eq_true h
theorem sortI_eq {l ns : List Int} (hp : ns.Perm l) (hs : ns.Pairwise (· ≤ ·)) : ns = sortI l :=
  List.Perm.eq_of_pairwise (le := (· ≤ ·)) (fun a b _ _ h1 h2 => Int.le_antisymm h1 h2) hs (sortI_le l) (hp.trans (sortI_perm l).symm)
def b0 : Blk := ⟨0, 0, 0, none, 0⟩
def nameRow (cs : List Int) (r : List Int) : List Int := sortI (r.map (cAt cs))
def nameBlk (cs : List Int) (b : Blk) : Blk := ⟨b.house, cAt cs b.craft, b.ready, b.due, b.worth⟩
def nameS (cs : List Int) (s : List (List Int)) : List (List Int) := s.map (nameRow cs)
def nameD (D : Dy) (cs ds ns : List Int) : Dy where
  hours := D.hours
  stores := (List.range D.stores.length).map fun k => D.stores.getD (ixI cs k) 0
  sights := (List.range D.sights.length).map fun k => (D.sights.map (nameS cs)).getD (ixI ds k) []
  asks := (List.range D.sights.length).map fun k => D.asks.getD (ixI ds k) none
  blocks := (List.range D.blocks.length).map fun k => (D.blocks.map (nameBlk cs)).getD (ixI ns k) b0
def ren (cs ds ns : List Int) (p : Pass) : Pass := ⟨p.hour, cAt ds p.dish, cAt cs p.craft, cAt ns p.block⟩
theorem getD_mem {α : Type} {l : List α} {d : α} {i : Nat} (h : i < l.length) : l.getD i d ∈ l := by
  rw [getD_at l d h]
  exact List.getElem_mem h
theorem getD_mapG {α β : Type} (f : α → β) (l : List α) (i : Nat) (d : α) (e : β) (h : i < l.length) : (l.map f).getD i e = f (l.getD i d) := by
  rw [getD_at _ _ (by rw [List.length_map]; exact h), getD_at l d h, List.getElem_map]
theorem range_at {α : Type} (f : Nat → α) {n k : Nat} (d : α) (h : k < n) : ((List.range n).map f).getD k d = f k := by
  rw [getD_at _ _ (by simpa using h), List.getElem_map, List.getElem_range]
section
variable {D : Dy} {cs ds ns : List Int} (hD : DyOk D) (hc : Pm cs D.stores.length) (hd : Pm ds D.sights.length) (hn : Pm ns D.blocks.length)
theorem row_ok (hc : Pm cs D.stores.length) {r : List Int} (h : RowOk D.stores.length r) : RowOk D.stores.length (nameRow cs r) := by
  have hm : ∀ c ∈ nameRow cs r, ∃ d ∈ r, c = cAt cs d := fun c hc' => by
    obtain ⟨d, hd', e⟩ := List.mem_map.mp ((sortI_perm _).subset hc')
    exact ⟨d, hd', e.symm⟩
  refine ⟨?_, fun c hc' => ?_⟩
  · have n1 : (r.map (cAt cs)).Nodup := List.pairwise_map.mpr (h.up.imp_of_mem fun {a b} ha hb lt e => by
      have := hc.inj (h.bd a ha).1 (h.bd a ha).2 (h.bd b hb).1 (h.bd b hb).2 e
      omega)
    have n2 : (nameRow cs r).Nodup := (sortI_perm _).nodup_iff.mpr n1
    exact ((sortI_le (r.map (cAt cs))).and n2).imp fun {a b} z => by have := z.1; have := z.2; omega
  · obtain ⟨d, hd', rfl⟩ := hm c hc'
    exact hc.rg (h.bd d hd').1 (h.bd d hd').2
theorem named_ok (hD : DyOk D) (hc : Pm cs D.stores.length) (hd : Pm ds D.sights.length) (hn : Pm ns D.blocks.length) : DyOk (nameD D cs ds ns) := by
  have lS : (nameD D cs ds ns).stores.length = D.stores.length := by simp [nameD]
  have lI : (nameD D cs ds ns).sights.length = D.sights.length := by simp [nameD]
  have lA : (nameD D cs ds ns).asks.length = D.sights.length := by simp [nameD]
  have lB : (nameD D cs ds ns).blocks.length = D.blocks.length := by simp [nameD]
  have hs : ∀ s ∈ (nameD D cs ds ns).sights, ∃ s0 ∈ D.sights, s = nameS cs s0 := fun s h => by
    obtain ⟨k, hk, rfl⟩ := List.mem_map.mp h
    have hk := List.mem_range.mp hk
    have i1 := (hd.ix hk).1
    rw [getD_mapG (nameS cs) D.sights _ [] _ i1]
    exact ⟨_, getD_mem i1, rfl⟩
  refine ⟨hD.t0, hD.t1, by rw [lS]; exact hD.s0, by rw [lS]; exact hD.s1, fun n h => ?_, by rw [lI]; exact hD.g0, by rw [lI]; exact hD.g1, fun s h => ?_, fun s h r hr => ?_, by rw [lA, lI], fun a h => ?_, by rw [lB]; exact hD.bl, fun b h => ?_⟩
  · obtain ⟨k, hk, rfl⟩ := List.mem_map.mp h
    exact hD.sb _ (getD_mem (hc.ix (List.mem_range.mp hk)).1)
  · obtain ⟨s0, h0, rfl⟩ := hs s h
    unfold nameS
    rw [List.length_map]
    exact hD.gl s0 h0
  · obtain ⟨s0, h0, rfl⟩ := hs s h
    obtain ⟨r0, hr0, rfl⟩ := List.mem_map.mp hr
    rw [lS]
    exact row_ok hc (hD.gr s0 h0 r0 hr0)
  · obtain ⟨k, hk, e⟩ := List.mem_map.mp h
    refine hD.ab a ?_
    rw [← e]
    refine getD_mem ?_
    rw [hD.al]
    exact (hd.ix (List.mem_range.mp hk)).1
  · obtain ⟨k, hk, rfl⟩ := List.mem_map.mp h
    have i1 := (hn.ix (List.mem_range.mp hk)).1
    rw [getD_mapG (nameBlk cs) D.blocks _ b0 _ i1, lS]
    have o := hD.bb _ (getD_mem (d := b0) i1)
    generalize D.blocks.getD (ixI ns k) b0 = b at o ⊢
    have r := hc.rg o.c0 o.c1
    exact ⟨o.h0, o.h1, r.1, r.2, o.r0, o.r1, o.du, o.w0, o.w1⟩
theorem named_blk (hn : Pm ns D.blocks.length) {b : Int} (h0 : 0 ≤ b) (h1 : b < (D.blocks.length : Int)) : blkAt (nameD D cs ds ns) (cAt ns b) = nameBlk cs (blkAt D b) := by
  have r := hn.rg h0 h1
  unfold blkAt
  show ((List.range D.blocks.length).map fun k => (D.blocks.map (nameBlk cs)).getD (ixI ns k) b0).getD (cAt ns b).toNat _ = _
  rw [range_at _ _ (by omega)]
  have e := hn.ixc h0 h1
  rw [getD_mapG (nameBlk cs) D.blocks _ ⟨0, 0, 0, none, 0⟩ _ (by omega), show ixI ns (cAt ns b).toNat = b.toNat by omega]
theorem named_ask (hD : DyOk D) (hd : Pm ds D.sights.length) {d : Int} (h0 : 0 ≤ d) (h1 : d < (D.sights.length : Int)) : askAt (nameD D cs ds ns) (cAt ds d) = askAt D d := by
  have r := hd.rg h0 h1
  unfold askAt
  show ((List.range D.sights.length).map fun k => D.asks.getD (ixI ds k) none).getD (cAt ds d).toNat _ = _
  rw [range_at _ _ (by omega)]
  have e := hd.ixc h0 h1
  rw [show ixI ds (cAt ds d).toNat = d.toNat by omega]
theorem named_heard (hD : DyOk D) (hd : Pm ds D.sights.length) {d h : Int} (h0 : 0 ≤ d) (h1 : d < (D.sights.length : Int)) (t0 : 0 ≤ h) (t1 : h < D.hours) : heardAt (nameD D cs ds ns) (cAt ds d) h = nameRow cs (heardAt D d h) := by
  have r := hd.rg h0 h1
  unfold heardAt
  show (((List.range D.sights.length).map fun k => (D.sights.map (nameS cs)).getD (ixI ds k) []).getD (cAt ds d).toNat _).getD h.toNat _ = _
  rw [range_at _ _ (by omega)]
  have e := hd.ixc h0 h1
  have hl : d.toNat < D.sights.length := by omega
  rw [show ixI ds (cAt ds d).toNat = d.toNat by omega, getD_mapG (nameS cs) D.sights _ [] _ hl]
  have gl := hD.gl _ (getD_mem (d := []) hl)
  exact getD_mapG (nameRow cs) _ _ [] _ (by omega)
theorem ren_ok (hD : DyOk D) (hc : Pm cs D.stores.length) (hd : Pm ds D.sights.length) (hn : Pm ns D.blocks.length) {p : Pass} (h : passT D p = true) : passT (nameD D cs ds ns) (ren cs ds ns p) = true := by
  obtain ⟨a1, a2, a3, a4, a5, a6, a7⟩ := passT_of h
  have lS : (nameD D cs ds ns).stores.length = D.stores.length := by simp [nameD]
  have lI : (nameD D cs ds ns).sights.length = D.sights.length := by simp [nameD]
  have lB : (nameD D cs ds ns).blocks.length = D.blocks.length := by simp [nameD]
  have r2 := hd.rg a2.1 (by omega)
  have r3 := hc.rg a3.1 (by omega)
  have r4 := hn.rg a4.1 (by omega)
  refine passT_mk ⟨a1.1, by show p.hour < D.hours; omega⟩ (by rw [lI]; exact r2) (by rw [lS]; exact r3) (by rw [lB]; exact r4) ?_ ?_ ?_
  · show cAt cs p.craft ∈ heardAt (nameD D cs ds ns) (cAt ds p.dish) p.hour
    rw [named_heard hD hd a2.1 (by omega) a1.1 (by omega)]
    exact (sortI_perm _).mem_iff.mpr (List.mem_map.mpr ⟨_, a5, rfl⟩)
  · show cAt cs p.craft = (blkAt (nameD D cs ds ns) (cAt ns p.block)).craft
    rw [named_blk hn a4.1 (by omega), a6]
    rfl
  · show mayB (blkAt (nameD D cs ds ns) (cAt ns p.block)) p.hour = true
    rw [named_blk hn a4.1 (by omega)]
    exact a7
theorem ren_gain (hD : DyOk D) (hd : Pm ds D.sights.length) (hn : Pm ns D.blocks.length) {ps : List Pass} (ok : ∀ p ∈ ps, passT D p = true) : gainL (nameD D cs ds ns) (ps.map (ren cs ds ns)) = gainL D ps := by
  unfold gainL
  rw [List.map_map]
  congr 1
  refine List.map_congr_left fun p hp => ?_
  obtain ⟨a1, a2, a3, a4, -⟩ := passT_of (ok p hp)
  show (blkAt (nameD D cs ds ns) (cAt ns p.block)).worth - (askAt (nameD D cs ds ns) (cAt ds p.dish)).getD 0 = _
  rw [named_blk hn a4.1 (by omega), named_ask hD hd a2.1 (by omega)]
  rfl
theorem ren_plx (hD : DyOk D) (hc : Pm cs D.stores.length) (hd : Pm ds D.sights.length) (hn : Pm ns D.blocks.length) {ps : List Pass} (x : Plx D ps) : Plx (nameD D cs ds ns) (ps.map (ren cs ds ns)) := by
  have lS : (nameD D cs ds ns).stores.length = D.stores.length := by simp [nameD]
  have rg : ∀ p ∈ ps, (0 ≤ p.dish ∧ p.dish < (D.sights.length : Int)) ∧ (0 ≤ p.craft ∧ p.craft < (D.stores.length : Int)) ∧ (0 ≤ p.block ∧ p.block < (D.blocks.length : Int)) := fun p hp => by
    obtain ⟨a1, a2, a3, a4, -⟩ := passT_of (x.ok p hp)
    omega
  refine ⟨fun q hq => ?_, List.pairwise_map.mpr (x.hd.imp_of_mem fun {a b} ha hb n e => n ⟨e.1, hd.inj (rg a ha).1.1 (rg a ha).1.2 (rg b hb).1.1 (rg b hb).1.2 e.2⟩), List.pairwise_map.mpr (x.hc.imp_of_mem fun {a b} ha hb n e => n ⟨e.1, hc.inj (rg a ha).2.1.1 (rg a ha).2.1.2 (rg b hb).2.1.1 (rg b hb).2.1.2 e.2⟩), ?_, ?_⟩
  · obtain ⟨p, hp, rfl⟩ := List.mem_map.mp hq
    exact ren_ok hD hc hd hn (x.ok p hp)
  · have n := List.pairwise_map.mp x.bk
    rw [List.map_map]
    exact List.pairwise_map.mpr (n.imp_of_mem fun {a b} ha hb n e => n (hn.inj (rg a ha).2.2.1 (rg a ha).2.2.2 (rg b hb).2.2.1 (rg b hb).2.2.2 e))
  · refine List.all_eq_true.mpr fun k hk => List.all_eq_true.mpr fun t ht => ?_
    have hk := List.mem_range.mp hk
    rw [lS] at hk
    obtain ⟨i1, i2⟩ := hc.ix hk
    have old := List.all_eq_true.mp (List.all_eq_true.mp x.ft (ixI cs k) (List.mem_range.mpr i1)) t ht
    have e1 : (keptL (nameD D cs ds ns) (ps.map (ren cs ds ns)) k t).length = (keptL D ps (ixI cs k) t).length := by
      unfold keptL
      rw [List.filter_map, List.length_map, List.length_map, List.length_map]
      congr 1
      refine List.filter_congr fun p hp => ?_
      obtain ⟨r1, r2, r3⟩ := rg p hp
      show (decide (cAt cs p.craft = (k : Int)) && ((blkAt (nameD D cs ds ns) (cAt ns p.block)).due.isNone && (decide ((blkAt (nameD D cs ds ns) (cAt ns p.block)).ready ≤ (t : Int)) && decide ((t : Int) < p.hour)))) = keeps D (ixI cs k) t p
      rw [named_blk hn r3.1 r3.2]
      have e : decide (cAt cs p.craft = (k : Int)) = decide (p.craft = ((ixI cs k : Nat) : Int)) := by
        rw [← i2]
        exact decide_eq_decide.mpr ⟨fun e => hc.inj r2.1 r2.2 (by omega) (by omega) e, fun e => by rw [e]⟩
      rw [e]
      rfl
    have e2 : (nameD D cs ds ns).stores.getD k 0 = D.stores.getD (ixI cs k) 0 := range_at _ _ hk
    rw [e1, e2]
    exact old
end
/-! ### wider days -/
def wide1 (D : Dy) : Dy := { D with stores := D.stores.map fun n => if n + 1 < 5 then n + 1 else 5 }
def wide2 (D : Dy) (r : Int) : Dy := { D with sights := D.sights ++ [List.replicate D.hours.toNat [0]], asks := D.asks ++ [some r] }
def wide3 (D : Dy) : Dy := { D with hours := D.hours + 1, sights := D.sights.map (· ++ [[]]) }
structure Wid (D W : Dy) : Prop where
  ok : DyOk W
  pl : ∀ ps, Plan D ps → Plan W ps
  ga : ∀ ps, Plan D ps → gainL W ps = gainL D ps
theorem Plan.mk' {D : Dy} {ps : List Pass} (h : Plan D ps) : risesP ps = true ∧ clashB ps = true ∧ fitB D ps = true := by
  have h1 := Bool.and_eq_true_iff.mp h.pl
  have h2 := Bool.and_eq_true_iff.mp h1.2
  exact ⟨h1.1, h2.1, h2.2⟩
theorem plan_by {D W : Dy} {ps : List Pass} (h : Plan D ps) (ok : ∀ p ∈ ps, passT D p = true → passT W p = true) (ft : fitB W ps = true) : Plan W ps := by
  obtain ⟨h1, h2, -⟩ := h.mk'
  refine ⟨fun p hp => ok p hp (h.ok p hp), ?_, h.len⟩
  unfold planT
  rw [h1, h2, ft]
  rfl
theorem wid1 {D : Dy} (hD : DyOk D) : Wid D (wide1 D) := by
  have lS : (wide1 D).stores.length = D.stores.length := by simp [wide1]
  refine ⟨⟨hD.t0, hD.t1, by rw [lS]; exact hD.s0, by rw [lS]; exact hD.s1, fun n h => ?_, hD.g0, hD.g1, hD.gl, fun s hs r hr => by rw [lS]; exact hD.gr s hs r hr, hD.al, hD.ab, hD.bl, fun b hb => by rw [lS]; exact hD.bb b hb⟩, fun ps h => plan_by h (fun p hp z => ?_) ?_, fun ps h => rfl⟩
  · obtain ⟨m, hm, rfl⟩ := List.mem_map.mp h
    have := hD.sb m hm
    split <;> omega
  · obtain ⟨a1, a2, a3, a4, a5, a6, a7⟩ := passT_of z
    exact passT_mk ⟨a1.1, by show p.hour < D.hours; omega⟩ ⟨a2.1, by show p.dish < (D.sights.length : Int); omega⟩ ⟨a3.1, by rw [lS]; omega⟩ ⟨a4.1, by show p.block < (D.blocks.length : Int); omega⟩ a5 a6 a7
  · refine List.all_eq_true.mpr fun c hc => List.all_eq_true.mpr fun t ht => decide_eq_true ?_
    have hc := List.mem_range.mp hc
    rw [lS] at hc
    have old := of_decide_eq_true (List.all_eq_true.mp (List.all_eq_true.mp h.fit c (List.mem_range.mpr hc)) t ht)
    have b := hD.sb _ (getD_mem (d := 0) hc)
    show ((keptL D ps c t).length : Int) ≤ (D.stores.map fun n => if n + 1 < 5 then n + 1 else 5).getD c 0
    rw [getD_mapG _ _ _ 0 _ hc]
    split <;> omega
theorem wid2 {D : Dy} (hD : DyOk D) (h3 : D.sights.length < 3) {r : Int} (r0 : 0 ≤ r) (r1 : r < 9) : Wid D (wide2 D r) := by
  have lI : (wide2 D r).sights.length = D.sights.length + 1 := by simp [wide2]
  have s0 := hD.s0
  have t0 := hD.t0
  have old : ∀ {d : Int}, 0 ≤ d → d < (D.sights.length : Int) → askAt (wide2 D r) d = askAt D d := fun {d} h0 h1 => by
    have := hD.al
    unfold askAt
    show (D.asks ++ [some r]).getD d.toNat none = _
    rw [List.getD_eq_getElem?_getD, List.getD_eq_getElem?_getD, List.getElem?_append_left (by omega)]
  refine ⟨⟨hD.t0, hD.t1, hD.s0, hD.s1, hD.sb, by rw [lI]; omega, by rw [lI]; omega, fun s h => ?_, fun s h q hq => ?_, by simp [wide2, hD.al], fun a h => ?_, hD.bl, hD.bb⟩, fun ps h => plan_by h (fun p hp z => ?_) h.fit, fun ps h => ?_⟩
  · rcases List.mem_append.mp h with h | h
    · exact hD.gl s h
    · rw [List.mem_singleton.mp h, List.length_replicate]
      show _ = D.hours
      omega
  · rcases List.mem_append.mp h with h | h
    · exact hD.gr s h q hq
    · rw [List.mem_singleton.mp h] at hq
      rw [List.eq_of_mem_replicate hq]
      exact ⟨List.pairwise_singleton _ _, fun c hc => by rw [List.mem_singleton.mp hc]; show (0 : Int) ≤ 0 ∧ 0 < ((D.stores.length : Nat) : Int); omega⟩
  · rcases List.mem_append.mp h with h | h
    · exact hD.ab a h
    · have e := List.mem_singleton.mp h
      cases e
      omega
  · obtain ⟨a1, a2, a3, a4, a5, a6, a7⟩ := passT_of z
    refine passT_mk ⟨a1.1, by show p.hour < D.hours; omega⟩ ⟨a2.1, by rw [lI]; omega⟩ ⟨a3.1, by show p.craft < (D.stores.length : Int); omega⟩ ⟨a4.1, by show p.block < (D.blocks.length : Int); omega⟩ ?_ a6 a7
    unfold heardAt at a5 ⊢
    show _ ∈ ((D.sights ++ [List.replicate D.hours.toNat [0]]).getD p.dish.toNat []).getD p.hour.toNat []
    rw [List.getD_eq_getElem?_getD (l := D.sights ++ _), List.getElem?_append_left (by omega), ← List.getD_eq_getElem?_getD]
    exact a5
  · unfold gainL
    congr 1
    refine List.map_congr_left fun p hp => ?_
    obtain ⟨a1, a2, a3, a4, -⟩ := passT_of (h.ok p hp)
    unfold gainP
    rw [old a2.1 (by omega)]
    rfl
theorem wid3 {D : Dy} (hD : DyOk D) (h10 : D.hours < 10) : Wid D (wide3 D) := by
  have lI : (wide3 D).sights.length = D.sights.length := by simp [wide3]
  have t0 := hD.t0
  refine ⟨⟨by show 1 ≤ D.hours + 1; omega, by show D.hours + 1 ≤ 10; omega, hD.s0, hD.s1, hD.sb, by rw [lI]; exact hD.g0, by rw [lI]; exact hD.g1, fun s h => ?_, fun s h q hq => ?_, by rw [lI]; exact hD.al, hD.ab, hD.bl, fun b hb => ?_⟩, fun ps h => plan_by h (fun p hp z => ?_) ?_, fun ps h => rfl⟩
  · obtain ⟨s0, h0, rfl⟩ := List.mem_map.mp h
    rw [List.length_append]
    have := hD.gl s0 h0
    show ((s0.length + 1 : Nat) : Int) = D.hours + 1
    omega
  · obtain ⟨s0, h0, rfl⟩ := List.mem_map.mp h
    rcases List.mem_append.mp hq with hq | hq
    · exact hD.gr s0 h0 q hq
    · rw [List.mem_singleton.mp hq]
      exact ⟨.nil, fun c hc => nomatch hc⟩
  · have o := hD.bb b hb
    exact ⟨o.h0, o.h1, o.c0, o.c1, o.r0, by have := o.r1; show b.ready < D.hours + 1; omega, fun u e => by have := o.du u e; exact ⟨this.1, by show u < D.hours + 1; omega⟩, o.w0, o.w1⟩
  · obtain ⟨a1, a2, a3, a4, a5, a6, a7⟩ := passT_of z
    refine passT_mk ⟨a1.1, by show p.hour < D.hours + 1; omega⟩ ⟨a2.1, by rw [lI]; omega⟩ ⟨a3.1, by show p.craft < (D.stores.length : Int); omega⟩ ⟨a4.1, by show p.block < (D.blocks.length : Int); omega⟩ ?_ a6 a7
    have hl : p.dish.toNat < D.sights.length := by omega
    have gl := hD.gl _ (getD_mem (d := []) hl)
    unfold heardAt at a5 ⊢
    show _ ∈ ((D.sights.map (· ++ [[]])).getD p.dish.toNat []).getD p.hour.toNat []
    rw [getD_mapG _ _ _ [] _ hl, List.getD_eq_getElem?_getD (l := _ ++ _), List.getElem?_append_left (by omega), ← List.getD_eq_getElem?_getD]
    exact a5
  · refine List.all_eq_true.mpr fun c hc => List.all_eq_true.mpr fun t ht => decide_eq_true ?_
    have hc' := List.mem_range.mp hc
    have ht' := List.mem_range.mp ht
    by_cases e : t < D.hours.toNat
    · exact of_decide_eq_true (List.all_eq_true.mp (List.all_eq_true.mp h.fit c hc) t (List.mem_range.mpr e))
    · have e0 : keptL (wide3 D) ps c t = [] := by
        unfold keptL
        rw [List.map_eq_nil_iff, List.filter_eq_nil_iff]
        intro p hp
        obtain ⟨a1, -⟩ := passT_of (h.ok p hp)
        unfold keeps
        rw [decide_eq_false (show ¬ (t : Int) < p.hour by omega)]
        simp
      rw [e0]
      have b := hD.sb _ (getD_mem (d := 0) (show c < D.stores.length from hc'))
      exact b.1
/-! ### a pass moved -/
theorem erase_sub (ps : List Pass) (m : Nat) : List.Sublist (ps.take m ++ ps.drop (m + 1)) ps := by
  have := List.eraseIdx_sublist ps m
  rwa [List.eraseIdx_eq_take_drop_succ] at this
theorem erase_perm {ps : List Pass} {m : Nat} (hm : m < ps.length) : (ps[m] :: (ps.take m ++ ps.drop (m + 1))).Perm ps := by
  refine List.perm_middle.symm.trans ?_
  rw [← List.drop_eq_getElem_cons hm, List.take_append_drop]
theorem Plx.sub {D : Dy} {ps qs : List Pass} (h : Plx D ps) (s : List.Sublist qs ps) : Plx D qs :=
  ⟨fun p hp => h.ok p (s.subset hp), h.hd.sublist s, h.hc.sublist s, h.bk.sublist (s.map _), fitB_sub s h.ft⟩
/-- one more pass -/
theorem Plx.cons {D : Dy} {qs : List Pass} {p : Pass} (h : Plx D qs) (ok : passT D p = true) (hd : ∀ q ∈ qs, ¬ (p.hour = q.hour ∧ p.dish = q.dish)) (hc : ∀ q ∈ qs, ¬ (p.hour = q.hour ∧ p.craft = q.craft)) (bk : p.block ∉ qs.map Pass.block) (ft : fitB D (p :: qs) = true) : Plx D (p :: qs) :=
  ⟨fun q hq => (List.mem_cons.mp hq).elim (fun e => e ▸ ok) (h.ok q), List.pairwise_cons.mpr ⟨hd, h.hd⟩, List.pairwise_cons.mpr ⟨hc, h.hc⟩, List.nodup_cons.mpr ⟨bk, h.bk⟩, ft⟩
theorem fitB_cons {D : Dy} {qs : List Pass} {p : Pass} (h : fitB D qs = true) (n : ∀ c t, keeps D c t p = false) : fitB D (p :: qs) = true :=
  List.all_eq_true.mpr fun c hc => List.all_eq_true.mpr fun t ht => by
    have := List.all_eq_true.mp (List.all_eq_true.mp h c hc) t ht
    have e : keptL D (p :: qs) c t = keptL D qs c t := by
      unfold keptL
      rw [List.filter_cons, if_neg (by rw [n]; decide)]
    rw [e]
    exact this
theorem fitB_like {D : Dy} {qs : List Pass} {p q : Pass} (h : fitB D (q :: qs) = true) (e : ∀ c t, keeps D c t p = keeps D c t q) : fitB D (p :: qs) = true :=
  List.all_eq_true.mpr fun c hc => List.all_eq_true.mpr fun t ht => by
    have := List.all_eq_true.mp (List.all_eq_true.mp h c hc) t ht
    have e : (keptL D (p :: qs) c t).length = (keptL D (q :: qs) c t).length := by
      unfold keptL
      rw [List.length_map, List.length_map, List.filter_cons, List.filter_cons, e]
      split <;> rfl
    rw [e]
    exact this
/-- a pass at another dish of its hour -/
theorem Plx.dish {D : Dy} {qs : List Pass} {p : Pass} (h : Plx D (p :: qs)) {o : Int} (o0 : 0 ≤ o) (o1 : o < (D.sights.length : Int)) (he : p.craft ∈ heardAt D o p.hour) (fr : ∀ q ∈ p :: qs, ¬ (p.hour = q.hour ∧ o = q.dish)) : Plx D (⟨p.hour, o, p.craft, p.block⟩ :: qs) := by
  have s := h.sub (List.sublist_cons_self p qs)
  obtain ⟨a1, a2, a3, a4, a5, a6, a7⟩ := passT_of (h.ok p (by simp))
  refine s.cons (passT_mk ⟨a1.1, by show p.hour < D.hours; omega⟩ ⟨o0, o1⟩ ⟨a3.1, by show p.craft < _; omega⟩ ⟨a4.1, by show p.block < _; omega⟩ he a6 a7) (fun q hq => fr q (List.mem_cons_of_mem _ hq)) (List.pairwise_cons.mp h.hc).1 (List.nodup_cons.mp h.bk).1 ?_
  exact fitB_like h.ft fun c t => rfl
/-- an up one at another hour -/
theorem Plx.hour {D : Dy} {qs : List Pass} {p : Pass} (h : Plx D (p :: qs)) {o t : Int} (o0 : 0 ≤ o) (o1 : o < (D.sights.length : Int)) (t0 : 0 ≤ t) (t1 : t < D.hours) (he : p.craft ∈ heardAt D o t) (fr : ∀ q ∈ qs, ¬ (t = q.hour ∧ o = q.dish)) (fc : ∀ q ∈ qs, ¬ (t = q.hour ∧ p.craft = q.craft))
    (up : (blkAt D p.block).due ≠ none) (my : mayB (blkAt D p.block) t = true) : Plx D (⟨t, o, p.craft, p.block⟩ :: qs) := by
  have s := h.sub (List.sublist_cons_self p qs)
  obtain ⟨a1, a2, a3, a4, a5, a6, a7⟩ := passT_of (h.ok p (by simp))
  refine s.cons (passT_mk ⟨t0, t1⟩ ⟨o0, o1⟩ ⟨a3.1, by show p.craft < _; omega⟩ ⟨a4.1, by show p.block < _; omega⟩ he a6 my) fr fc (List.nodup_cons.mp h.bk).1 ?_
  refine fitB_cons s.ft fun c t => ?_
  unfold keeps
  show (_ && ((blkAt D p.block).due.isNone && _)) = false
  rw [show (blkAt D p.block).due.isNone = false by cases hz : (blkAt D p.block).due with | none => exact absurd hz up | some _ => rfl]
  simp
end Law

set_option Elab.async false
set_option linter.all false
set_option maxRecDepth 100000
set_option maxHeartbeats 4000000
namespace Law
open PySem PySem.Spec PyProof.Rows L2 GxR GX Tree Kit Data Loops Loops2 Comps Purse Day SetG SetL Lit Sets Ib Small
/-! ### a typed day is a day -/
theorem and_mk {a b : Bool} (h1 : a = true) (h2 : b = true) : (a && b) = true := by rw [h1, h2]; rfl
theorem all_map_ok {α : Type} {f : α → PyData} {g : PyData → Bool} {l : List α} (h : ∀ a ∈ l, g (f a) = true) : (l.map f).all g = true := by
  rw [List.all_map]
  exact List.all_eq_true.mpr h
theorem isLs_mk {lo hi : Int} {xs : List PyData} (h1 : lo ≤ (xs.length : Int)) (h2 : (xs.length : Int) ≤ hi) : isLs lo hi (.list xs) = true := and_mk (decide_eq_true h1) (decide_eq_true h2)
theorem isDayB_ok {D : Dy} (h : DyOk D) : isDayB (dayD D) = true := by
  have s0 := h.s0
  have s1 := h.s1
  have g0 := h.g0
  have g1 := h.g1
  have bl := h.bl
  have al := h.al
  have lS : lenD (.list (D.stores.map PyData.int)) = (D.stores.length : Int) := by show (((D.stores.map PyData.int).length : Nat) : Int) = _; rw [List.length_map]
  have lI : lenD (.list (D.sights.map sightD)) = (D.sights.length : Int) := by show (((D.sights.map sightD).length : Nat) : Int) = _; rw [List.length_map]
  show (isWh 1 10 (.int D.hours) && (storesB (.list (D.stores.map .int)) && (sightsB D.hours (lenD (.list (D.stores.map .int))) (.list (D.sights.map sightD)) && (asksB (lenD (.list (D.sights.map sightD))) (.list (D.asks.map optD)) && blocksB D.hours (lenD (.list (D.stores.map .int))) (.list (D.blocks.map blkD)))))) = true
  rw [lS, lI]
  refine and_mk (isWh_mk h.t0 h.t1) (and_mk ?_ (and_mk ?_ (and_mk ?_ ?_)))
  · exact and_mk (isLs_mk (by rw [List.length_map]; omega) (by rw [List.length_map]; omega)) (all_map_ok fun n hn => isWh_mk (h.sb n hn).1 (h.sb n hn).2)
  · refine and_mk (isLs_mk (by rw [List.length_map]; omega) (by rw [List.length_map]; omega)) (all_map_ok fun s hs => ?_)
    refine and_mk (isLs_mk (by rw [List.length_map, h.gl s hs]; omega) (by rw [List.length_map, h.gl s hs]; omega)) (all_map_ok fun r hr => ?_)
    have o := h.gr s hs r hr
    refine and_mk (all_map_ok fun n hn => isWh_mk (o.bd n hn).1 (by have := (o.bd n hn).2; omega)) ?_
    rw [ints_back]
    exact decide_eq_true o.up
  · refine and_mk (isLs_mk (by rw [List.length_map]; omega) (by rw [List.length_map]; omega)) (all_map_ok fun a ha => ?_)
    cases a with
    | none => rfl
    | some i =>
      have := h.ab i ha
      show (false || isWh 0 999 (.int i)) = true
      rw [isWh_mk this.1 this.2]
      rfl
  · refine and_mk (isLs_mk (by rw [List.length_map]; omega) (by rw [List.length_map]; omega)) (all_map_ok fun b hb => ?_)
    have o := h.bb b hb
    have w0 := o.w0
    refine (blk5 (.int b.house) (.int b.craft) (.int b.ready) (optD b.due) (.int b.worth)).trans ?_
    refine and_mk (isWh_mk o.h0 o.h1) (and_mk (isWh_mk o.c0 (by have := o.c1; omega)) (and_mk (isWh_mk o.r0 (by have := o.r1; omega)) (and_mk ?_ (isWh_mk o.w0 o.w1))))
    cases hd : b.due with
    | none => rfl
    | some u =>
      have := o.du u hd
      show (false || (true && isWh b.ready (D.hours - 1) (.int u))) = true
      rw [isWh_mk this.1 (by omega)]
      rfl
theorem szL {α : Type} {f : α → PyData} {l : List α} {S N : Nat} (h : ∀ a ∈ l, sz (f a) ≤ S) (hN : l.length ≤ N) : sz (.list (l.map f)) ≤ N * S + 1 := by
  have h1 := szAll_le (xs := l.map f) (S := S) fun d hd => by
    obtain ⟨a, ha, rfl⟩ := List.mem_map.mp hd
    exact h a ha
  rw [List.length_map] at h1
  have h2 := Nat.mul_le_mul_right S hN
  simp only [sz]
  omega
theorem row_len {c : Nat} {r : List Int} (o : RowOk c r) : r.length ≤ c := nodup_ints_le (o.up.imp fun {a b} h e => by omega) o.bd
theorem dayV_ok {D : Dy} (h : DyOk D) : DayV D := by
  refine ⟨h, isDayB_ok h, ?_⟩
  have z1 : sz (.list (D.stores.map PyData.int)) ≤ 4 * 1 + 1 := szL (fun a _ => Nat.le_refl _) h.s1
  have z2 : sz (.list (D.sights.map sightD)) ≤ 3 * (10 * (4 * 1 + 1) + 1) + 1 := szL (fun s hs => szL (fun r hr => szL (fun a _ => Nat.le_refl _) (Nat.le_trans (row_len (h.gr s hs r hr)) h.s1)) (by have := h.gl s hs; have := h.t1; omega)) h.g1
  have z3 : sz (.list (D.asks.map optD)) ≤ 3 * 1 + 1 := szL (fun a _ => by cases a <;> exact Nat.le_refl _) (by rw [h.al]; exact h.g1)
  have z4 : sz (.list (D.blocks.map blkD)) ≤ 14 * 6 + 1 := szL (fun b _ => by cases hd : b.due <;> simp [blkD, sz, szAll, optD, hd]) h.bl
  unfold dayD
  simp only [sz, szAll] at z1 z2 z3 z4 ⊢
  omega
/-! ### lists in another order -/
theorem trAll_perm {B : List Addr} {H : Hp} {ys xs : List V} (p : ys.Perm xs) : ∀ {ds : List PyData}, TrAll B H xs ds → ∃ es, es.Perm ds ∧ TrAll B H ys es := by
  induction p with
  | nil => exact fun {ds} t => ⟨ds, .refl _, t⟩
  | cons a _ ih =>
    intro ds t
    cases t with
    | cons h t =>
      obtain ⟨es, p1, t1⟩ := ih t
      exact ⟨_ :: es, p1.cons _, .cons h t1⟩
  | swap a b l =>
    intro ds t
    cases t with
    | cons h t =>
      cases t with
      | cons h2 t => exact ⟨_, .swap _ _ _, .cons h2 (.cons h t)⟩
  | trans _ _ h1 h2 =>
    intro ds t
    obtain ⟨es, p1, t1⟩ := h2 t
    obtain ⟨fs, p2, t2⟩ := h1 t1
    exact ⟨fs, p2.trans p1, t2⟩
theorem passes_perm {B : List Addr} {H : Hp} {ys xs : List V} {ps : List Pass} (p : ys.Perm xs) (t : TrAll B H xs (ps.map passD)) : ∃ qs : List Pass, qs.Perm ps ∧ TrAll B H ys (qs.map passD) := by
  obtain ⟨es, p1, t1⟩ := trAll_perm p t
  have e : es = (es.map passOf).map passD := by
    rw [List.map_map]
    conv => lhs; rw [← List.map_id es]
    refine List.map_congr_left fun d hd => ?_
    obtain ⟨q, hq, rfl⟩ := List.mem_map.mp (p1.subset hd)
    rfl
  refine ⟨es.map passOf, ?_, e ▸ t1⟩
  have := p1.map passOf
  rwa [List.map_map, show passOf ∘ passD = id from rfl, List.map_id] at this
/-! ### rules that name K -/
theorem cr_sortedIK {X : Cx} (K : PySem.W.Frag) (h : X.K = K) : CallR X (.builtin "sorted") (rSortedI K) := h ▸ cr_sortedI
theorem cr_sortTK {X : Cx} (K : PySem.W.Frag) (h : X.K = K) : CallR X (.builtin "sorted") (rSortU K 4 100) := h ▸ cr_sortT (by decide)
theorem op_notInDK {X : Cx} (K : PySem.W.Frag) (h : X.K = K) (hu : X.A.units + 65 < cLine) : OpR X (compareOp .NotIn) (rNotInD K) := h ▸ op_notInD hu
/-! ### passes in order -/
theorem code_hd {B : Int} {a b : Pass} (ha : TS.Bd B (passI a)) (hb : TS.Bd B (passI b)) (h : TS.code B (passI a) ≤ TS.code B (passI b)) : a.hour < b.hour ∨ (a.hour = b.hour ∧ a.dish ≤ b.dish) := by
  have tl : ∀ {x : Int} {r : List Int}, TS.Bd B (x :: r) → TS.Bd B r := fun h m hm => h m (List.mem_cons_of_mem _ hm)
  by_cases h1 : a.hour < b.hour
  · exact .inl h1
  by_cases h2 : b.hour < a.hour
  · have := TS.code_lt (B := B) (d := b.hour) (e := a.hour) (r := [b.dish, b.craft, b.block]) (q := [a.dish, a.craft, a.block]) rfl (tl hb) (tl ha) h2
    unfold passI at h
    omega
  have e : a.hour = b.hour := by omega
  refine .inr ⟨e, ?_⟩
  by_cases h3 : a.dish ≤ b.dish
  · exact h3
  · have := TS.code_lt (B := B) (d := b.dish) (e := a.dish) (r := [b.craft, b.block]) (q := [a.craft, a.block]) rfl (tl (tl hb)) (tl (tl ha)) (by omega)
    unfold passI at h
    rw [TS.code, TS.code.eq_2 B b.hour, e] at h
    have e2 : [a.dish, a.craft, a.block].length = [b.dish, b.craft, b.block].length := rfl
    rw [e2] at h
    omega
theorem pass_bd {D : Dy} (hD : DyOk D) {p : Pass} (h : passT D p = true) : TS.Bd 100 (passI p) := fun m hm => by
  obtain ⟨a1, a2, a3, a4, -⟩ := passT_of h
  have t1 := hD.t1
  have s1 := hD.s1
  have g1 := hD.g1
  have bl := hD.bl
  unfold passI at hm
  simp only [List.mem_cons, List.not_mem_nil, or_false] at hm
  rcases hm with rfl | rfl | rfl | rfl <;> omega
section
variable {K : PySem.W.Frag}
theorem pass_vals {B : List Addr} {H : Hp} {x : V} {p : Pass} (t : Tr B H x (passD p)) : TupI K H x (passI p) := by
  obtain ⟨a, rfl, e⟩ := pass_tr t
  exact ⟨a, rfl, SqT.of e⟩
/-- sorted of a list of passes -/
theorem sort_use {C : List Addr} {H : Hp} {a : Addr} {ps : List Pass} (al : ∀ c ∈ C, H c ≠ none) (t : Tr C H (.ref a) (.list (ps.map passD))) (bd : ∀ p ∈ ps, TS.Bd 100 (passI p)) (hl : ps.length < 64) {Q : VK}
    (q : ∀ (S : Addr) (qs : List Pass) (H' : Hp), Kx [] H H' → H S = none → qs.Perm ps → qs.Pairwise (fun a b => a.hour < b.hour ∨ (a.hour = b.hour ∧ a.dish ≤ b.dish)) → Tr C H' (.ref S) (.list (qs.map passD)) → Q (.ref S) H') : rSortU K 4 100 [.ref a] H Q := by
  obtain ⟨xs, ex, tx⟩ := t.items
  have lx := tx.length
  rw [List.length_map] at lx
  refine ⟨a, xs, rfl, SqL.of ex, by omega, fun x hx => ?_, fun ys p perm up hp => ?_⟩
  · obtain ⟨i, hi, rfl⟩ := List.getElem_of_mem hx
    obtain ⟨d, e1, e2⟩ := tx.get (List.getElem?_eq_getElem hi)
    obtain ⟨pp, hp, rfl⟩ := List.mem_map.mp (List.mem_of_getElem? e1)
    exact ⟨_, pass_vals e2, rfl, bd pp hp⟩
  · obtain ⟨qs, pq, tq⟩ := passes_perm perm tx
    have ly := tq.length
    rw [List.length_map] at ly
    obtain ⟨k, e, t2⟩ := mk_lst al tq hp
    refine q p qs _ k hp pq ?_ t2
    refine List.pairwise_iff_getElem.mpr fun i j hi hj hij => ?_
    have ei : ∀ i (hi : i < qs.length), TupI K H (ys[i]'(by omega)) (passI qs[i]) := fun i hi => by
      obtain ⟨d, e1, e2⟩ := tq.get (List.getElem?_eq_getElem (show i < ys.length by omega))
      rw [List.getElem?_map, List.getElem?_eq_getElem hi] at e1
      cases e1
      exact pass_vals e2
    have := List.pairwise_iff_getElem.mp up i j (by omega) (by omega) hij _ _ (ei i hi) (ei j hj)
    exact code_hd (bd _ (pq.subset (List.getElem_mem hi))) (bd _ (pq.subset (List.getElem_mem hj))) this
end
end Law

set_option Elab.async false
set_option linter.all false
set_option maxRecDepth 100000
set_option maxHeartbeats 4000000
namespace Law
open PySem PySem.Spec PyProof.Rows L2 GxR GX Tree Kit Data Loops Loops2 Loops3 Comps Purse Day SetG SetL Lit Sets Ib Small Obj
section
variable {P : Program} {w : World} {K : PySem.W.Frag} {mg : Str → Option Value} {base : Heap} {fa : String → Addr} {fd : String → FuncData} {ca ta : String → Addr}
def sp_law_copy : Sp := fun vs H Q _ => ∃ (C : List Addr) (dv : V) (D : Dy), vs = [dv] ∧ (∀ c ∈ C, H c ≠ none) ∧ Tr C H dv (dayD D) ∧ DyOk D ∧ ∀ (T : Addr) (H' : Hp), Kx [] H H' → H T = none → Tr C H' (.ref T) (dayD D) → Q (.ref T) H'
theorem ok__law_copy (Y : Facts K mg base fa fd ca ta) : FnOk P w K mg base CX0 1 (fa "_law_copy") (fd "_law_copy") ["day"] sp_law_copy := by
  refine Y.d__law_copy.ok sc__law_copy (fun vs H Q E h => ?_) (fun cdv A outer s H vs Q E hcd hr h => ?_)
  · obtain ⟨C, dv, D, rfl, _⟩ := h; rfl
  · obtain ⟨C, dv, D, rfl, al, hdt, hD, q⟩ := h
    refine ⟨_, (pss_cons (ps_asg (pv 0) (pg_tupK (n := 5) K rfl rfl (pgs_cons (pg_name (i := 1) sc__law_copy.nd rfl (by first | exact Or.inl rfl | exact Or.inr rfl)) (pgs_cons (pg_name (i := 2) sc__law_copy.nd rfl (by first | exact Or.inl rfl | exact Or.inr rfl)) (pgs_cons (pg_name (i := 3) sc__law_copy.nd rfl (by first | exact Or.inl rfl | exact Or.inr rfl)) (pgs_cons (pg_name (i := 4) sc__law_copy.nd rfl (by first | exact Or.inl rfl | exact Or.inr rfl)) (pgs_cons (pg_name (i := 5) sc__law_copy.nd rfl (by first | exact Or.inl rfl | exact Or.inr rfl)) pgs_nil)))))))
      (pss_one (ps_ret (pe_tup (pa_cons (pv 1) (pa_cons (pe_callTy (call_listK K rfl) (by rfl) Y.b.list (by decide +kernel) (pa_cons (pv 2) pa_nil)) (pa_cons (pe_lc (own := [("sight", 6)]) (g := gName 6) (tt := tYes) rfl sc__law_copy.nd (pi_listK K rfl (pv 3)) (blkOk_by (N := ["day", "hours", "stores", "sights", "asks", "blocks", "sight", "heard"]) (sc := defScope s__law_copy) (by decide +kernel)) (fun _ _ _ _ _ => (pg_name (i := 6) sc__law_copy.nd rfl (by first | exact Or.inl rfl | exact Or.inr rfl))) (fun _ _ _ _ _ => pts_nil) (fun _ _ _ _ _ => (pe_lc (own := [("heard", 7)]) (g := gName 7) (tt := tYes) rfl sc__law_copy.nd (pi_listK K rfl (pv 6)) (blkOk_any (N := ["day", "hours", "stores", "sights", "asks", "blocks", "sight", "heard"]) (by decide +kernel)) (fun _ _ _ _ _ => (pg_name (i := 7) sc__law_copy.nd rfl (by first | exact Or.inl rfl | exact Or.inr rfl))) (fun _ _ _ _ _ => pts_nil) (fun _ _ _ _ _ => (pe_callTy (call_listK K rfl) (by rfl) Y.b.list (by decide +kernel) (pa_cons (pv 7) pa_nil)))))) (pa_cons (pe_callTy (call_listK K rfl) (by rfl) Y.b.list (by decide +kernel) (pa_cons (pv 4) pa_nil)) (pa_cons (pe_callTy (call_listK K rfl) (by rfl) Y.b.list (by decide +kernel) (pa_cons (pv 5) pa_nil)) pa_nil))))))))), ?_⟩
    obtain ⟨da, dx, rfl, edx, tdx⟩ := hdt.tupV
    obtain ⟨y1, y2, y3, y4, y5, rfl, u1, u2, u3, u4, u5⟩ := TrAll.five tdx
    cases u1
    obtain ⟨aS, xS, rfl, eS, tS⟩ := u2.listV
    obtain ⟨aI, xI, rfl, eI, tI⟩ := u3.listV
    obtain ⟨aA, xA, rfl, eA, tA⟩ := u4.listV
    obtain ⟨aB, xB, rfl, eB, tB⟩ := u5.listV
    have g3 := hD.g1
    have h10 := hD.t1
    have c4 := hD.s1
    refine ⟨.ref da, rfl, da, _, rfl, SqT.of edx, rfl, _, _, rfl, .ref aS, _, rfl, .ref aI, _, rfl, .ref aA, _, rfl, .ref aB, _, rfl, rfl, ?_⟩
    dsimp only
    refine ⟨_, rfl, .ref aS, rfl, aS, _, rfl, .inl (SqL.of eS), fun S2 hS2 => ?_⟩
    obtain ⟨k1, e1, t1⟩ := mk_lst al tS hS2
    have al1 := al_up' al k1
    generalize upd H S2 (.lst xS) = H1 at k1 e1 t1 al1 ⊢
    refine st_cons (lc_use ?_)
    refine ⟨.ref aI, rfl, aI, rfl, ⟨xI, SqL.of (k1.lst (by simp) eI)⟩, ?_⟩
    refine lc_mapC (C := C) id al1 (k1.lst (by simp) eI) (tI.up k1).nilB (by rw [List.length_map]; unfold sizeLine; omega) (fun D1 x d H2 hD1 al2 hd tx k2 R hR => ?_) fun aI2 H2 k2 hI2 t2 => ?_
    · obtain ⟨si, hsi, rfl⟩ := List.mem_map.mp hd
      have lsi := hD.gl si hsi
      obtain ⟨ax, xx, rfl, ex, txx⟩ := tx.listV
      refine ⟨rfl, lc_use ?_⟩
      refine ⟨.ref ax, rfl, ax, rfl, ⟨xx, SqL.of ex⟩, ?_⟩
      refine lc_mapC (C := D1 :: C) id al2 ex txx (by rw [List.length_map]; unfold sizeLine; omega) (fun D2 x2 d2 H3 hD2 al3 hd2 tx2 k3 R2 hR2 => ?_) fun ax2 H3 k3 hx2 t3 => ?_
      · obtain ⟨row, hrow, rfl⟩ := List.mem_map.mp hd2
        obtain ⟨ar, xr, rfl, er, tr⟩ := tx2.listV
        have exr := TrAll.intsV tr (by rw [ints_back])
        rw [ints_back] at exr
        subst exr
        refine ⟨rfl, .ref ar, rfl, ar, _, rfl, .inl (SqL.of er), fun L hL => ?_⟩
        obtain ⟨k4, e4, t4⟩ := mk_lst (C := D2 :: D1 :: C) al3 (TrAll.ints row) hL
        exact hR2 _ _ k4 t4
      · rw [List.map_id] at t3
        exact hR _ _ k3 t3
    rw [List.map_id] at t2
    have k02 := k1.trans k2
    have al2 := al_up' al1 k2
    refine st_cons (st_cb (st_cons ⟨.ref aA, rfl, aA, xA, rfl, .inl (SqL.of (k02.lst (by simp) eA)), fun A2 hA2 => ?_⟩))
    obtain ⟨k3, e3, t3⟩ := mk_lst al2 (tA.up k02) hA2
    have al3 := al_up' al2 k3
    generalize upd H2 A2 (.lst xA) = H3 at k3 e3 t3 al3 ⊢
    have k03 := k02.trans k3
    refine st_cons (st_cb (st_cons ⟨.ref aB, rfl, aB, xB, rfl, .inl (SqL.of (k03.lst (by simp) eB)), fun B2 hB2 => ⟨len_ok, fun T hT => ?_⟩⟩))
    obtain ⟨k4, e4, t4⟩ := mk_lst al3 (tB.up k03) hB2
    have al4 := al_up' al3 k4
    generalize upd H3 B2 (.lst xB) = H4 at k4 e4 t4 al4 hT ⊢
    obtain ⟨k5, e5, t5⟩ := mk_tup al4 (ds := [.int D.hours, .list (D.stores.map .int), .list (D.sights.map sightD), .list (D.asks.map optD), .list (D.blocks.map blkD)])
      (.cons (.int D.hours) (.cons (t1.up (k2.trans (k3.trans k4))) (.cons (t2.up (k3.trans k4)) (.cons (t3.up k4) (.cons t4 .nil))))) hT
    exact q T _ (k03.trans (k4.trans k5)) ((k03.trans k4).free (by simp) hT) t5
end
end Law

set_option Elab.async false
set_option linter.all false
set_option maxRecDepth 100000
set_option maxHeartbeats 4000000
namespace Law
open PySem PySem.Spec PyProof.Rows L2 GxR GX Tree Kit Data Loops Loops2 Loops3 Comps Purse Day SetG SetL Lit Sets Ib Small Obj Enum Wipe
section
variable {P : Program} {w : World} {K : PySem.W.Frag} {mg : Str → Option Value} {base : Heap} {fa : String → Addr} {fd : String → FuncData} {ca ta : String → Addr}
/-! ### trees that are made -/
def fRow (cs : List Int) : PyData → PyData
  | .list is => rowD (nameRow cs (intsD is))
  | d => d
def fSight (cs : List Int) : PyData → PyData
  | .list rs => .list (rs.map (fRow cs))
  | d => d
def fBlk (cs : List Int) : PyData → PyData
  | .tuple [h, c, r, u, w] => .tuple [h, .int (cAt cs (intOf c)), r, u, w]
  | d => d
theorem fRow_D (cs r : List Int) : fRow cs (rowD r) = rowD (nameRow cs r) := by
  show rowD (nameRow cs (intsD (r.map .int))) = _
  rw [ints_back]
theorem fSight_D (cs : List Int) (s : List (List Int)) : fSight cs (sightD s) = sightD (nameS cs s) := by
  show PyData.list ((s.map rowD).map (fRow cs)) = .list ((s.map (nameRow cs)).map rowD)
  rw [List.map_map, List.map_map]
  congr 1
  exact List.map_congr_left fun r _ => fRow_D cs r
theorem avoidL {B : List Addr} {H : Hp} {v : V} {d : PyData} (t : Tr B H v d) : ∀ l : List Addr, (∀ b ∈ l, H b = none) → Tr (l ++ B) H v d
  | [], _ => t
  | b :: l, h => avoid (h b (by simp)) _ _ (avoidL t l fun c hc => h c (List.mem_cons_of_mem _ hc))
theorem at_cs {cs : List Int} {m : Nat} (hc : Pm cs m) {j : Int} (h0 : 0 ≤ j) (h1 : j < (m : Int)) : atI (cs.map V.int) j = some (.int (cAt cs j)) := by
  obtain ⟨hj, e⟩ := hc.at_ h0 h1
  have := atI_nat (xs := cs.map V.int) (j := j.toNat) (v := .int (cAt cs j)) (by rw [List.getElem?_map, List.getElem?_eq_getElem hj, e]; rfl)
  rwa [show ((j.toNat : Nat) : Int) = j by omega] at this
theorem index_at {H : Hp} {pc : Addr} {cs : List Int} {m k : Nat} (hc : Pm cs m) (e : H pc = some (.lst (cs.map V.int))) (hk : k < m) {Q : VK} (q : Q (.int ((ixI cs k : Nat) : Int)) H) : rIndex K (.ref pc) [.int k] H Q := by
  obtain ⟨i1, i2⟩ := hc.ix hk
  have hl := hc.len
  obtain ⟨h3, h4⟩ := hc.at_ (j := (ixI cs k : Int)) (by omega) (by omega)
  have h5 : cs[ixI cs k]'(by omega) = (k : Int) := by rw [← i2, h4]; rfl
  refine ⟨pc, _, .int k, ixI cs k, .int k, rfl, rfl, SqL.of e, rfl, flat_ints _, ?_, ?_, fun n z hn hz => ?_, q⟩
  · rw [List.getElem?_map, List.getElem?_eq_getElem (by omega), h5]
    rfl
  · show ((k : Int) == (k : Int)) = true
    exact beq_self_eq_true _
  · rw [List.getElem?_map, List.getElem?_eq_getElem (by omega)] at hz
    cases hz
    show (cs[n] == (k : Int)) = false
    refine beq_false_of_ne fun z => ?_
    have := nodup_ix hc.nd (i := n) (j := ixI cs k) (by omega) (by omega) (z.trans h5.symm)
    omega
/-- a list that grows -/
def Fd (B : List Addr) (H : Hp) (F : Addr) (ds : List PyData) : Prop := ∃ xs, H F = some (.lst xs) ∧ TrAll B H xs ds
theorem Fd.put {B : List Addr} {H : Hp} {F G : Addr} {ds : List PyData} {o : HO} (h : Fd B H F ds) (hG : G ∈ B) (n : F ≠ G) : Fd B (upd H G o) F ds := by
  obtain ⟨xs, e, t⟩ := h
  exact ⟨xs, by rw [upd_ne n]; exact e, TrAll.kx (Kx.put (B := [G]) (by simp)) (fun b hb => by rw [List.mem_singleton.mp hb]; exact hG) _ _ t⟩
theorem Fd.push {B : List Addr} {H : Hp} {F : Addr} {xs : List V} {ds : List PyData} {v : V} {d : PyData} (t : TrAll B H xs ds) (tv : Tr B H v d) (hF : F ∈ B) : Fd B (upd H F (.lst (xs ++ [v]))) F (ds ++ [d]) :=
  ⟨_, upd_same, TrAll.kx (Kx.put (B := [F]) (by simp)) (fun b hb => by rw [List.mem_singleton.mp hb]; exact hF) _ _ (t.snoc tv)⟩
theorem range_snoc {α : Type} (f : Nat → α) (i : Nat) : (List.range (i + 1)).map f = (List.range i).map f ++ [f i] := by
  rw [List.range_succ, List.map_append]
  rfl
theorem optD_any {B : List Addr} {H : Hp} {v : V} {o : Option Int} (t : Tr [] H v (optD o)) : Tr B H v (optD o) := by
  cases o with
  | none => cases t; exact .non
  | some i => cases t; exact .int i
theorem getD_mapI (l : List Int) (i : Nat) (h : i < l.length) : (l.map PyData.int).getD i .none = .int (l.getD i 0) := getD_map PyData.int l i 0 _ h
/-- four new lists and one of these -/
theorem four_new {H : Hp} {F0 F1 F2 F3 L : Addr} (h0 : H F0 = none) (h1 : upd H F0 (.lst []) F1 = none) (h2 : upd (upd H F0 (.lst [])) F1 (.lst []) F2 = none) (h3 : upd (upd (upd H F0 (.lst [])) F1 (.lst [])) F2 (.lst []) F3 = none)
    (hL : upd (upd (upd (upd H F0 (.lst [])) F1 (.lst [])) F2 (.lst [])) F3 (.lst []) L = none) : ∃ H', H' = upd (upd (upd (upd (upd H F0 (.lst [])) F1 (.lst [])) F2 (.lst [])) F3 (.lst [])) L (.lst [.ref F0, .ref F1, .ref F2, .ref F3]) ∧ Kx [] H H' ∧
      H' F0 = some (.lst []) ∧ H' F1 = some (.lst []) ∧ H' F2 = some (.lst []) ∧ H' F3 = some (.lst []) ∧ H' L = some (.lst [.ref F0, .ref F1, .ref F2, .ref F3]) ∧ H F0 = none ∧ H F1 = none ∧ H F2 = none ∧ H F3 = none ∧ H L = none ∧
      F0 ≠ F1 ∧ F0 ≠ F2 ∧ F0 ≠ F3 ∧ F1 ≠ F2 ∧ F1 ≠ F3 ∧ F2 ≠ F3 ∧ L ∉ [F0, F1, F2, F3] := by
  have k0 : Kx [] H (upd H F0 (.lst [])) := Kx.new h0
  have e0 : upd H F0 (.lst []) F0 = some (.lst []) := upd_same
  generalize upd H F0 (.lst []) = Ha at *
  have k1 : Kx [] Ha (upd Ha F1 (.lst [])) := Kx.new h1
  have e1 : upd Ha F1 (.lst []) F1 = some (.lst []) := upd_same
  generalize upd Ha F1 (.lst []) = Hb at *
  have k2 : Kx [] Hb (upd Hb F2 (.lst [])) := Kx.new h2
  have e2 : upd Hb F2 (.lst []) F2 = some (.lst []) := upd_same
  generalize upd Hb F2 (.lst []) = Hc at *
  have k3 : Kx [] Hc (upd Hc F3 (.lst [])) := Kx.new h3
  have e3 : upd Hc F3 (.lst []) F3 = some (.lst []) := upd_same
  generalize upd Hc F3 (.lst []) = Hd at *
  have k4 : Kx [] Hd (upd Hd L (.lst [.ref F0, .ref F1, .ref F2, .ref F3])) := Kx.new hL
  have e4 : upd Hd L (.lst [.ref F0, .ref F1, .ref F2, .ref F3]) L = some (.lst [.ref F0, .ref F1, .ref F2, .ref F3]) := upd_same
  refine ⟨_, rfl, k0.trans (k1.trans (k2.trans (k3.trans k4))), ?_⟩
  generalize upd Hd L (.lst [.ref F0, .ref F1, .ref F2, .ref F3]) = He at *
  have a1 := k1.lst (by simp) e0
  have a2 := k2.lst (by simp) a1
  have a3 := k3.lst (by simp) a2
  have b2 := k2.lst (by simp) e1
  have b3 := k3.lst (by simp) b2
  have c3 := k3.lst (by simp) e2
  have ne : ∀ {h : Hp} {a b : Addr} {o : HO}, h a = some o → h b = none → a ≠ b := fun e n z => by rw [z, n] at e; cases e
  refine ⟨k4.lst (by simp) a3, k4.lst (by simp) b3, k4.lst (by simp) c3, k4.lst (by simp) e3, e4, h0, k0.free (by simp) h1, k0.free (by simp) (k1.free (by simp) h2), k0.free (by simp) (k1.free (by simp) (k2.free (by simp) h3)), k0.free (by simp) (k1.free (by simp) (k2.free (by simp) (k3.free (by simp) hL))),
    ne e0 h1, ne a1 h2, ne a2 h3, ne e1 h2, ne b2 h3, ne e2 h3, fun z => ?_⟩
  simp only [List.mem_cons, List.not_mem_nil, or_false] at z
  rcases z with rfl | rfl | rfl | rfl
  · exact ne a3 hL rfl
  · exact ne b3 hL rfl
  · exact ne c3 hL rfl
  · exact ne e3 hL rfl
def sp_law_named : Sp := fun vs H Q _ => ∃ (C : List Addr) (dv : V) (D : Dy) (pc pd pn : Addr) (cs ds ns : List Int), vs = [dv, .ref pc, .ref pd, .ref pn] ∧ (∀ c ∈ C, H c ≠ none) ∧ Tr C H dv (dayD D) ∧ DyOk D ∧ Pm cs D.stores.length ∧ Pm ds D.sights.length ∧ Pm ns D.blocks.length ∧
  H pc = some (.lst (cs.map V.int)) ∧ H pd = some (.lst (ds.map V.int)) ∧ H pn = some (.lst (ns.map V.int)) ∧ ∀ (T : Addr) (H' : Hp), Kx [] H H' → Tr C H' (.ref T) (dayD (nameD D cs ds ns)) → Q (.ref T) H'
theorem ok__law_named (Y : Facts K mg base fa fd ca ta) : FnOk P w K mg base CX0 1 (fa "_law_named") (fd "_law_named") ["day", "crafts", "dishes", "numbers"] sp_law_named := by
  refine Y.d__law_named.ok sc__law_named (fun vs H Q E h => ?_) (fun cdv A outer s H vs Q E hcd hr h => ?_)
  · obtain ⟨C, dv, D, pc, pd, pn, cs, ds, ns, rfl, _⟩ := h; rfl
  · obtain ⟨C, dv, D, pc, pd, pn, cs, ds, ns, rfl, al, hdt, hD, hc, hd, hn, ec, ed, en, q⟩ := h
    refine ⟨_, (pss_cons (ps_asg (pv 0) (pg_tupK (n := 5) K rfl rfl (pgs_cons (pg_name (i := 4) sc__law_named.nd rfl (by first | exact Or.inl rfl | exact Or.inr rfl)) (pgs_cons (pg_name (i := 5) sc__law_named.nd rfl (by first | exact Or.inl rfl | exact Or.inr rfl)) (pgs_cons (pg_name (i := 6) sc__law_named.nd rfl (by first | exact Or.inl rfl | exact Or.inr rfl)) (pgs_cons (pg_name (i := 7) sc__law_named.nd rfl (by first | exact Or.inl rfl | exact Or.inr rfl)) (pgs_cons (pg_name (i := 8) sc__law_named.nd rfl (by first | exact Or.inl rfl | exact Or.inr rfl)) pgs_nil)))))))
      (pss_cons (ps_setLc (i := 9) (own := [("sight", 13)]) (g := gName 13) (tt := tYes) rfl sc__law_named.nd rfl rfl (sw_true rfl rfl rfl (by decide +kernel)) (pi_listK K rfl (pv 6)) (blkOk_by (N := ["day", "crafts", "dishes", "numbers", "hours", "stores", "sights", "asks", "blocks", "heard", "made", "found", "k", "sight", "house", "craft", "ready", "due", "worth", "some", "one"]) (sc := defScope s__law_named) (by decide +kernel)) (fun _ _ _ _ _ => (pg_name (i := 13) sc__law_named.nd rfl (by first | exact Or.inl rfl | exact Or.inr rfl))) (fun _ _ _ _ _ => pts_nil) (fun _ _ _ _ _ => (pe_lc (own := [("some", 19)]) (g := gName 19) (tt := tYes) rfl sc__law_named.nd (pi_listK K rfl (pv 13)) (blkOk_by (N := ["day", "crafts", "dishes", "numbers", "hours", "stores", "sights", "asks", "blocks", "heard", "made", "found", "k", "sight", "house", "craft", "ready", "due", "worth", "some", "one"]) (by kernel_rfl)) (fun _ _ _ _ _ => (pg_name (i := 19) sc__law_named.nd rfl (by first | exact Or.inl rfl | exact Or.inr rfl))) (fun _ _ _ _ _ => pts_nil) (fun _ _ _ _ _ => (pe_callB (cr_sortedIK K rfl) (by rfl) Y.b.sorted (by decide +kernel) (pa_cons (pe_lc (own := [("one", 20)]) (g := gName 20) (tt := tYes) rfl sc__law_named.nd (pi_listK K rfl (pv 19)) (blkOk_by (N := ["day", "crafts", "dishes", "numbers", "hours", "stores", "sights", "asks", "blocks", "heard", "made", "found", "k", "sight", "house", "craft", "ready", "due", "worth", "some", "one"]) (by kernel_rfl)) (fun _ _ _ _ _ => (pg_name (i := 20) sc__law_named.nd rfl (by first | exact Or.inl rfl | exact Or.inr rfl))) (fun _ _ _ _ _ => pts_nil) (fun _ _ _ _ _ => (pe_ix (ix_listK K rfl) (pv 1) (pv 20) (fun _ _ => rfl)))) pa_nil))))))
      (pss_cons (ps_setLc (i := 10) (own := [("house", 14), ("craft", 15), ("ready", 16), ("due", 17), ("worth", 18)]) (tt := tYes) rfl sc__law_named.nd rfl rfl (sw_true rfl rfl rfl (by decide +kernel)) (pi_listK K rfl (pv 8)) (blkOk_by (N := ["day", "crafts", "dishes", "numbers", "hours", "stores", "sights", "asks", "blocks", "heard", "made", "found", "k", "sight", "house", "craft", "ready", "due", "worth", "some", "one"]) (sc := defScope s__law_named) (by decide +kernel)) (fun _ _ _ _ _ => (pg_tupK (n := 5) K rfl rfl (pgs_cons (pg_name (i := 14) sc__law_named.nd rfl (by first | exact Or.inl rfl | exact Or.inr rfl)) (pgs_cons (pg_name (i := 15) sc__law_named.nd rfl (by first | exact Or.inl rfl | exact Or.inr rfl)) (pgs_cons (pg_name (i := 16) sc__law_named.nd rfl (by first | exact Or.inl rfl | exact Or.inr rfl)) (pgs_cons (pg_name (i := 17) sc__law_named.nd rfl (by first | exact Or.inl rfl | exact Or.inr rfl)) (pgs_cons (pg_name (i := 18) sc__law_named.nd rfl (by first | exact Or.inl rfl | exact Or.inr rfl)) pgs_nil))))))) (fun _ _ _ _ _ => pts_nil) (fun _ _ _ _ _ => (pe_tup (pa_cons (pv 14) (pa_cons (pe_ix (ix_listK K rfl) (pv 1) (pv 15) (fun _ _ => rfl)) (pa_cons (pv 16) (pa_cons (pv 17) (pa_cons (pv 18) pa_nil))))))))
      (pss_cons (ps_set (i := 11) sc__law_named.nd rfl (by first | exact Or.inl rfl | exact Or.inr rfl) (pe_lst (pa_cons (pe_lst pa_nil) (pa_cons (pe_lst pa_nil) (pa_cons (pe_lst pa_nil) (pa_cons (pe_lst pa_nil) pa_nil))))))
      (pss_cons (ps_for PassesOwn.never rfl (pi_range1 (by rfl) Y.b.range (pa_cons (pe_callB (call_lenK K rfl) (by rfl) Y.b.len (by decide +kernel) (pa_cons (pv 5) pa_nil)) pa_nil)) (pg_name (i := 12) sc__law_named.nd rfl (by first | exact Or.inl rfl | exact Or.inr rfl)) (pss_one (ps_expr (pe_bm PySem.F.plainAttrs_list PySem.F.slot_list_append PySem.F.type_list_append mt_append (pe_ix (ix_listK K rfl) (pv 11) pe_int (fun _ _ => rfl)) (pa_cons (pe_ix (ix_listK K rfl) (pv 5) (Caught.pe_bmK K rfl PySem.F.plainAttrs_list PySem.F.slot_list_index PySem.F.type_list_index (Caught.mt_indexK K rfl) (pv 1) (pa_cons (pv 12) pa_nil)) (fun _ _ => rfl)) pa_nil)))))
      (pss_cons (ps_for PassesOwn.never rfl (pi_range1 (by rfl) Y.b.range (pa_cons (pe_callB (call_lenK K rfl) (by rfl) Y.b.len (by decide +kernel) (pa_cons (pv 6) pa_nil)) pa_nil)) (pg_name (i := 12) sc__law_named.nd rfl (by first | exact Or.inl rfl | exact Or.inr rfl)) (pss_cons (ps_expr (pe_bm PySem.F.plainAttrs_list PySem.F.slot_list_append PySem.F.type_list_append mt_append (pe_ix (ix_listK K rfl) (pv 11) pe_int (fun _ _ => rfl)) (pa_cons (pe_ix (ix_listK K rfl) (pv 9) (Caught.pe_bmK K rfl PySem.F.plainAttrs_list PySem.F.slot_list_index PySem.F.type_list_index (Caught.mt_indexK K rfl) (pv 2) (pa_cons (pv 12) pa_nil)) (fun _ _ => rfl)) pa_nil)))
      (pss_one (ps_expr (pe_bm PySem.F.plainAttrs_list PySem.F.slot_list_append PySem.F.type_list_append mt_append (pe_ix (ix_listK K rfl) (pv 11) pe_int (fun _ _ => rfl)) (pa_cons (pe_ix (ix_listK K rfl) (pv 7) (Caught.pe_bmK K rfl PySem.F.plainAttrs_list PySem.F.slot_list_index PySem.F.type_list_index (Caught.mt_indexK K rfl) (pv 2) (pa_cons (pv 12) pa_nil)) (fun _ _ => rfl)) pa_nil))))))
      (pss_cons (ps_for PassesOwn.never rfl (pi_range1 (by rfl) Y.b.range (pa_cons (pe_callB (call_lenK K rfl) (by rfl) Y.b.len (by decide +kernel) (pa_cons (pv 8) pa_nil)) pa_nil)) (pg_name (i := 12) sc__law_named.nd rfl (by first | exact Or.inl rfl | exact Or.inr rfl)) (pss_one (ps_expr (pe_bm PySem.F.plainAttrs_list PySem.F.slot_list_append PySem.F.type_list_append mt_append (pe_ix (ix_listK K rfl) (pv 11) pe_int (fun _ _ => rfl)) (pa_cons (pe_ix (ix_listK K rfl) (pv 10) (Caught.pe_bmK K rfl PySem.F.plainAttrs_list PySem.F.slot_list_index PySem.F.type_list_index (Caught.mt_indexK K rfl) (pv 3) (pa_cons (pv 12) pa_nil)) (fun _ _ => rfl)) pa_nil)))))
      (pss_one (ps_ret (pe_tup (pa_cons (pv 4) (pa_cons (pe_ix (ix_listK K rfl) (pv 11) pe_int (fun _ _ => rfl)) (pa_cons (pe_ix (ix_listK K rfl) (pv 11) pe_int (fun _ _ => rfl)) (pa_cons (pe_ix (ix_listK K rfl) (pv 11) pe_int (fun _ _ => rfl)) (pa_cons (pe_ix (ix_listK K rfl) (pv 11) pe_int (fun _ _ => rfl)) pa_nil))))))))))))))), ?_⟩
    obtain ⟨da, dx, rfl, edx, tdx⟩ := hdt.tupV
    obtain ⟨y1, y2, y3, y4, y5, rfl, u1, u2, u3, u4, u5⟩ := TrAll.five tdx
    cases u1
    obtain ⟨aS, xS, rfl, eS, tS⟩ := u2.listV
    obtain ⟨aI, xI, rfl, eI, tI⟩ := u3.listV
    obtain ⟨aA, xA, rfl, eA, tA⟩ := u4.listV
    obtain ⟨aB, xB, rfl, eB, tB⟩ := u5.listV
    have g3 := hD.g1
    have h10 := hD.t1
    have c4 := hD.s1
    have b14 := hD.bl
    have lal := hD.al
    have lS := tS.length
    have lI := tI.length
    have lB := tB.length
    rw [List.length_map] at lS lI lB
    refine ⟨.ref da, rfl, da, _, rfl, SqT.of edx, rfl, _, _, rfl, .ref aS, _, rfl, .ref aI, _, rfl, .ref aA, _, rfl, .ref aB, _, rfl, rfl, ?_⟩
    dsimp only
    refine st_lit [some (.ref da), some (.ref pc), some (.ref pd), some (.ref pn), some (.int D.hours), some (.ref aS), some (.ref aI), some (.ref aA), some (.ref aB), none, none, none, none, none, none, none, none, none, none, none, none] rfl ?_
    -- heard
    refine st_set (lc_use ?_)
    refine ⟨.ref aI, rfl, aI, rfl, ⟨xI, SqL.of eI⟩, ?_⟩
    refine lc_mapC (C := C) (fSight cs) al eI tI.nilB (by rw [List.length_map]; unfold sizeLine; omega) (fun D1 x d H2 hD1 al2 hd' tx k2 R hR => ?_) fun aH H1 k1 hH t1 => ?_
    · obtain ⟨si, hsi, rfl⟩ := List.mem_map.mp hd'
      have lsi := hD.gl si hsi
      obtain ⟨ax, xx, rfl, ex, txx⟩ := tx.listV
      refine ⟨rfl, lc_use ?_⟩
      refine ⟨.ref ax, rfl, ax, rfl, ⟨xx, SqL.of ex⟩, ?_⟩
      refine lc_mapC (C := D1 :: C) (fRow cs) al2 ex txx (by rw [List.length_map]; unfold sizeLine; omega) (fun D2 x2 d2 H3 hD2 al3 hd2 tx2 k3 R2 hR2 => ?_) fun ax2 H3 k3 hx2 t3 => ?_
      · obtain ⟨row, hrow, rfl⟩ := List.mem_map.mp hd2
        have orow := hD.gr si hsi row hrow
        have lrow := row_len orow
        obtain ⟨ar, xr, rfl, er, tr⟩ := tx2.listV
        have exr := TrAll.intsV tr (by rw [ints_back])
        rw [ints_back] at exr
        subst exr
        refine ⟨rfl, st_cb (st_cons (lc_use ?_))⟩
        refine ⟨.ref ar, rfl, ar, rfl, ⟨_, SqL.of er⟩, ?_⟩
        refine lc_mapV (fun i => .int (cAt cs (row.getD i 0))) er (by rw [List.length_map]; unfold sizeLine; omega) (fun i H4 hi k4 R3 hR3 => ?_) fun S H4 k4 hS eS4 => ?_
        · have hi' : i < row.length := by rw [List.length_map] at hi; exact hi
          have e : (row.map V.int).getD i .non = .int (row.getD i 0) := by
            rw [getD_at _ _ (by rw [List.length_map]; exact hi'), getD_at row 0 hi', List.getElem_map]
          rw [e]
          have rb := orow.bd _ (getD_mem (d := 0) hi')
          exact ⟨rfl, .ref pc, rfl, .int (row.getD i 0), rfl, pc, _, row.getD i 0, _, rfl, rfl, SqL.of ((k2.trans (k3.trans k4)).lst (by simp) ec), at_cs hc rb.1 rb.2, hR3 H4 (Kx.refl _)⟩
        · have er2 : ((List.range (row.map V.int).length).map fun i => V.int (cAt cs (row.getD i 0))) = (row.map (cAt cs)).map V.int := by
            rw [List.length_map, List.map_map]
            exact range_getD (fun x => V.int (cAt cs x)) row 0
          rw [er2] at eS4
          refine ⟨S, _, rfl, SqL.of eS4, fun ns' p2 perm up hp2 => ?_⟩
          have es := sortI_eq perm up
          have al4 := al_up' al3 k4
          obtain ⟨k5, e5, t5⟩ := mk_lst (C := D2 :: D1 :: C) al4 (TrAll.ints ns') hp2
          refine hR2 _ _ (k4.trans k5) ?_
          rw [fRow_D]
          unfold rowD nameRow
          rw [← es]
          exact t5
      · exact hR _ _ k3 t3
    rw [List.map_map, show (fSight cs ∘ sightD) = fun s => sightD (nameS cs s) from funext fun s => fSight_D cs s] at t1
    -- made
    have al1 := al_up' al k1
    refine st_set (lc_use ?_)
    refine ⟨.ref aB, rfl, aB, rfl, ⟨xB, SqL.of (k1.lst (by simp) eB)⟩, ?_⟩
    refine lc_mapC (C := C) (fBlk cs) al1 (k1.lst (by simp) eB) (tB.up k1).nilB (by rw [List.length_map]; unfold sizeLine; omega) (fun D1 x d H2 hD1 al2 hd' tx k2 R hR => ?_) fun aM H2 k2 hM t2 => ?_
    · obtain ⟨b, hb, rfl⟩ := List.mem_map.mp hd'
      have ob := hD.bb b hb
      obtain ⟨bA, bx, rfl, eb, tbx⟩ := tx.tupV
      obtain ⟨b1, b2, b3, b4, b5, rfl, f1, f2, f3, f4, f5⟩ := TrAll.five tbx
      cases f2
      refine ⟨bA, _, rfl, SqT.of eb, rfl, _, _, rfl, _, _, rfl, _, _, rfl, _, _, rfl, _, _, rfl, rfl, wipe5 (by decide) (by decide) (by decide) (by decide) (by decide), ?_⟩
      cases f1
      cases f3
      cases f5
      refine ⟨_, rfl, .ref pc, rfl, _, rfl, pc, _, b.craft, _, rfl, rfl, SqL.of ((k1.trans k2).lst (by simp) ec), at_cs hc ob.c0 ob.c1, _, rfl, _, rfl, _, rfl, len_ok, fun T hT => ?_⟩
      obtain ⟨k3, e3, t3⟩ := mk_tup al2 (ds := [.int b.house, .int (cAt cs b.craft), .int b.ready, optD b.due, .int b.worth]) (.cons (.int _) (.cons (.int _) (.cons (.int _) (.cons (optD_any f4) (.cons (.int _) .nil))))) hT
      exact hR _ _ k3 t3
    rw [List.map_map, show (fBlk cs ∘ blkD) = fun b => blkD (nameBlk cs b) from rfl] at t2
    have t1 : Tr C H1 (.ref aH) (.list ((D.sights.map (nameS cs)).map sightD)) := by rw [List.map_map]; exact t1
    have t2 : Tr C H2 (.ref aM) (.list ((D.blocks.map (nameBlk cs)).map blkD)) := by rw [List.map_map]; exact t2
    have t1 := t1.up k2
    have k02 := k1.trans k2
    have al2 := al_up' al k02
    have u2 := u2.up k02
    have u4 := u4.up k02
    have u3 := u3.up k02
    have u5 := u5.up k02
    have ec := k02.lst (by simp) ec
    have ed := k02.lst (by simp) ed
    have en := k02.lst (by simp) en
    -- found
    refine st_set (st_lst (st_cons ⟨len_ok, fun F0 h0 => st_cons ⟨len_ok, fun F1 h1 => st_cons ⟨len_ok, fun F2 h2 => st_cons ⟨len_ok, fun F3 h3 => ⟨len_ok, fun L hL => ?_⟩⟩⟩⟩⟩))
    obtain ⟨H7, eH, k7, e0, e1, e2, e3, eL, n0, n1, n2, n3, nL, d01, d02, d03, d12, d13, d23, dL⟩ := four_new h0 h1 h2 h3 hL
    rw [← eH]
    clear eH h0 h1 h2 h3 hL
    refine st_lit [some (.ref da), some (.ref pc), some (.ref pd), some (.ref pn), some (.int D.hours), some (.ref aS), some (.ref aI), some (.ref aA), some (.ref aB), some (.ref aH), some (.ref aM), some (.ref L), none, none, none, none, none, none, none, none, none] rfl ?_
    have av : ∀ {v : V} {d : PyData}, Tr C H2 v d → Tr ([F0, F1, F2, F3] ++ C) H7 v d := fun t => (avoidL t [F0, F1, F2, F3] fun b hb => by
      simp only [List.mem_cons, List.not_mem_nil, or_false] at hb
      rcases hb with rfl | rfl | rfl | rfl <;> assumption).up k7
    have v2 := av u2
    have v4 := av u4
    have vH := av t1
    have vM := av t2
    have i0 : F0 ∈ [F0, F1, F2, F3] ++ C := by simp
    have i1 : F1 ∈ [F0, F1, F2, F3] ++ C := by simp
    have i2 : F2 ∈ [F0, F1, F2, F3] ++ C := by simp
    have i3 : F3 ∈ [F0, F1, F2, F3] ++ C := by simp
    have bs : ∀ b ∈ [F0, F1, F2, F3], b ∈ [F0, F1, F2, F3] ++ C := fun b hb => List.mem_append_left _ hb
    have old : ∀ {b : Addr} {xs : List V} {H' : Hp}, Kx [F0, F1, F2, F3] H7 H' → H2 b = some (.lst xs) → H' b = some (.lst xs) := fun {b xs H'} k e => k.lst (fun z => by
      simp only [List.mem_cons, List.not_mem_nil, or_false] at z
      rcases z with rfl | rfl | rfl | rfl
      · rw [n0] at e; cases e
      · rw [n1] at e; cases e
      · rw [n2] at e; cases e
      · rw [n3] at e; cases e) (k7.lst (by simp) e)
    have eL' : ∀ {H' : Hp}, Kx [F0, F1, F2, F3] H7 H' → H' L = some (.lst [.ref F0, .ref F1, .ref F2, .ref F3]) := fun k => k.lst dL eL
    -- the stores
    obtain ⟨xS2, eS2, tS2⟩ := u2.items
    have lS2 := tS2.length
    rw [List.length_map] at lS2
    obtain ⟨xI2, eI2, tI2⟩ := u3.items
    have lI2 := tI2.length
    rw [List.length_map] at lI2
    obtain ⟨xB2, eB2, tB2⟩ := u5.items
    have lB2 := tB2.length
    rw [List.length_map] at lB2
    refine st_seq (st_for ⟨.ref aS, rfl, aS, xS2, rfl, .inl (SqL.of (k7.lst (by simp) eS2)), (D.stores.length : Int), by rw [lS2], by omega, by omega, ?_⟩)
    rw [Int.toNat_natCast]
    refine for_gen (itr_at D.stores.length) (B := [F0, F1, F2, F3]) (Iv := fun i σ' H' => (∃ z, σ' = [some (.ref da), some (.ref pc), some (.ref pd), some (.ref pn), some (.int D.hours), some (.ref aS), some (.ref aI), some (.ref aA), some (.ref aB), some (.ref aH), some (.ref aM), some (.ref L), z, none, none, none, none, none, none, none, none]) ∧
        Fd ([F0, F1, F2, F3] ++ C) H' F0 ((List.range i).map fun k => .int (D.stores.getD (ixI cs k) 0)) ∧ Fd ([F0, F1, F2, F3] ++ C) H' F1 [] ∧ Fd ([F0, F1, F2, F3] ++ C) H' F2 [] ∧ Fd ([F0, F1, F2, F3] ++ C) H' F3 [])
      ⟨⟨_, rfl⟩, ⟨_, e0, .nil⟩, ⟨_, e1, .nil⟩, ⟨_, e2, .nil⟩, ⟨_, e3, .nil⟩⟩ (fun i σ' H8 hi k8 ⟨⟨z, e⟩, ⟨x0, f0, g0⟩, f1, f2, f3⟩ Nn hN => ?_) fun σ' H8 k8 ⟨⟨z, e⟩, f0, f1, f2, f3⟩ => ?_
    · subst e
      obtain ⟨j1, j2⟩ := hc.ix hi
      have lx := g0.length
      rw [List.length_map, List.length_range] at lx
      refine st_name ?_
      dsimp only
      obtain ⟨_, xs', v, e, eS', a3, tv⟩ := ixT (Tr.kx k8 bs _ _ v2) (i := ((ixI cs i : Nat) : Int)) (by omega) (by rw [List.length_map]; omega)
      cases e
      rw [Int.toNat_natCast, getD_mapI _ _ (by omega)] at tv
      refine ⟨.ref L, rfl, L, _, 0, .ref F0, rfl, rfl, SqL.of (eL' k8), rfl, .inl ⟨rfl, _, SqL.of f0⟩, .ref aS, rfl, .ref pc, rfl, .inl ⟨rfl, _, SqL.of (old k8 ec)⟩, .int i, rfl, st_nil (index_at hc (old k8 ec) hi ⟨aS, xs', _, v, rfl, rfl, SqL.of eS', a3, F0, x0, v, rfl, rfl, f0, by unfold sizeLine; omega, ?_⟩)⟩
      refine hN _ _ (k8.trans (Kx.put (by simp))) ⟨⟨_, rfl⟩, ?_, f1.put i0 (Ne.symm d01), f2.put i0 (Ne.symm d02), f3.put i0 (Ne.symm d03)⟩
      rw [range_snoc]
      exact Fd.push g0 tv i0
    subst e
    dsimp only
    -- the dishes
    refine st_seq (st_for ⟨.ref aI, rfl, aI, xI2, rfl, .inl (SqL.of (old k8 eI2)), (D.sights.length : Int), by rw [lI2], by omega, by omega, ?_⟩)
    rw [Int.toNat_natCast]
    have k78 := k8
    refine for_gen (itr_at D.sights.length) (B := [F0, F1, F2, F3]) (Iv := fun i σ' H' => (∃ z, σ' = [some (.ref da), some (.ref pc), some (.ref pd), some (.ref pn), some (.int D.hours), some (.ref aS), some (.ref aI), some (.ref aA), some (.ref aB), some (.ref aH), some (.ref aM), some (.ref L), z, none, none, none, none, none, none, none, none]) ∧
        Fd ([F0, F1, F2, F3] ++ C) H' F0 ((List.range D.stores.length).map fun k => .int (D.stores.getD (ixI cs k) 0)) ∧ Fd ([F0, F1, F2, F3] ++ C) H' F1 ((List.range i).map fun k => sightD ((D.sights.map (nameS cs)).getD (ixI ds k) [])) ∧ Fd ([F0, F1, F2, F3] ++ C) H' F2 ((List.range i).map fun k => optD (D.asks.getD (ixI ds k) none)) ∧ Fd ([F0, F1, F2, F3] ++ C) H' F3 [])
      ⟨⟨_, rfl⟩, f0, f1, f2, f3⟩ (fun i σ' H9 hi k9 ⟨⟨z, e⟩, f0, ⟨x1, f1, g1⟩, f2, f3⟩ Nn hN => ?_) fun σ' H9 k9 ⟨⟨z, e⟩, f0, f1, f2, f3⟩ => ?_
    · subst e
      obtain ⟨j1, j2⟩ := hd.ix hi
      have lx := g1.length
      rw [List.length_map, List.length_range] at lx
      have k79 := k8.trans k9
      refine st_name ?_
      dsimp only
      obtain ⟨_, xs', v, e, eS', a3, tv⟩ := ixT (Tr.kx k79 bs _ _ vH) (i := ((ixI ds i : Nat) : Int)) (by omega) (by rw [List.length_map, List.length_map]; omega)
      cases e
      rw [Int.toNat_natCast, getD_map sightD _ _ [] _ (by rw [List.length_map]; omega)] at tv
      refine st_seq ⟨.ref L, rfl, L, _, 1, .ref F1, rfl, rfl, SqL.of (eL' k79), rfl, .inl ⟨rfl, _, SqL.of f1⟩, .ref aH, rfl, .ref pd, rfl, .inl ⟨rfl, _, SqL.of (old k79 ed)⟩, .int i, rfl, st_nil (index_at hd (old k79 ed) hi ⟨aH, xs', _, v, rfl, rfl, SqL.of eS', a3, F1, x1, v, rfl, rfl, f1, by unfold sizeLine; omega, ?_⟩)⟩
      dsimp only
      have k9' : Kx [F0, F1, F2, F3] H8 (upd H9 F1 (.lst (x1 ++ [v]))) := k9.trans (Kx.put (by simp))
      have f0 := f0.put (o := .lst (x1 ++ [v])) i1 d01
      have f2 := f2.put (o := .lst (x1 ++ [v])) i1 (Ne.symm d12)
      have f3 := f3.put (o := .lst (x1 ++ [v])) i1 (Ne.symm d13)
      have f1 := Fd.push g1 tv i1
      generalize upd H9 F1 (.lst (x1 ++ [v])) = H10 at k9' f0 f1 f2 f3 ⊢
      obtain ⟨x2, f2, g2⟩ := f2
      have lx2 := g2.length
      rw [List.length_map, List.length_range] at lx2
      have k710 := k8.trans k9'
      obtain ⟨_, xa', u, e, eA', a4, tu⟩ := ixT (Tr.kx k710 bs _ _ v4) (i := ((ixI ds i : Nat) : Int)) (by omega) (by rw [List.length_map]; omega)
      cases e
      rw [Int.toNat_natCast, getD_map optD _ _ none _ (by omega)] at tu
      refine ⟨.ref L, rfl, L, _, 2, .ref F2, rfl, rfl, SqL.of (eL' k710), rfl, .inl ⟨rfl, _, SqL.of f2⟩, .ref aA, rfl, .ref pd, rfl, .inl ⟨rfl, _, SqL.of (old k710 ed)⟩, .int i, rfl, st_nil (index_at hd (old k710 ed) hi ⟨aA, xa', _, u, rfl, rfl, SqL.of eA', a4, F2, x2, u, rfl, rfl, f2, by unfold sizeLine; omega, ?_⟩)⟩
      refine hN _ _ (k9'.trans (Kx.put (by simp))) ⟨⟨_, rfl⟩, f0.put i2 d02, ?_, ?_, f3.put i2 (Ne.symm d23)⟩
      · rw [range_snoc]
        exact f1.put i2 d12
      · rw [range_snoc]
        exact Fd.push g2 tu i2
    subst e
    dsimp only
    -- the blocks
    have k79 := k8.trans k9
    refine st_seq (st_for ⟨.ref aB, rfl, aB, xB2, rfl, .inl (SqL.of (old k79 eB2)), (D.blocks.length : Int), by rw [lB2], by omega, by omega, ?_⟩)
    rw [Int.toNat_natCast]
    refine for_gen (itr_at D.blocks.length) (B := [F0, F1, F2, F3]) (Iv := fun i σ' H' => (∃ z, σ' = [some (.ref da), some (.ref pc), some (.ref pd), some (.ref pn), some (.int D.hours), some (.ref aS), some (.ref aI), some (.ref aA), some (.ref aB), some (.ref aH), some (.ref aM), some (.ref L), z, none, none, none, none, none, none, none, none]) ∧
        Fd ([F0, F1, F2, F3] ++ C) H' F0 ((List.range D.stores.length).map fun k => .int (D.stores.getD (ixI cs k) 0)) ∧ Fd ([F0, F1, F2, F3] ++ C) H' F1 ((List.range D.sights.length).map fun k => sightD ((D.sights.map (nameS cs)).getD (ixI ds k) [])) ∧ Fd ([F0, F1, F2, F3] ++ C) H' F2 ((List.range D.sights.length).map fun k => optD (D.asks.getD (ixI ds k) none)) ∧
        Fd ([F0, F1, F2, F3] ++ C) H' F3 ((List.range i).map fun k => blkD ((D.blocks.map (nameBlk cs)).getD (ixI ns k) b0)))
      ⟨⟨_, rfl⟩, f0, f1, f2, f3⟩ (fun i σ' H10 hi k10 ⟨⟨z, e⟩, f0, f1, f2, ⟨x3, f3, g3'⟩⟩ Nn hN => ?_) fun σ' H10 k10 ⟨⟨z, e⟩, f0, f1, f2, f3⟩ => ?_
    · subst e
      obtain ⟨j1, j2⟩ := hn.ix hi
      have lx := g3'.length
      rw [List.length_map, List.length_range] at lx
      have k710 := k79.trans k10
      refine st_name ?_
      dsimp only
      obtain ⟨_, xs', v, e, eS', a3, tv⟩ := ixT (Tr.kx k710 bs _ _ vM) (i := ((ixI ns i : Nat) : Int)) (by omega) (by rw [List.length_map, List.length_map]; omega)
      cases e
      rw [Int.toNat_natCast, getD_map blkD _ _ b0 _ (by rw [List.length_map]; omega)] at tv
      refine ⟨.ref L, rfl, L, _, 3, .ref F3, rfl, rfl, SqL.of (eL' k710), rfl, .inl ⟨rfl, _, SqL.of f3⟩, .ref aM, rfl, .ref pn, rfl, .inl ⟨rfl, _, SqL.of (old k710 en)⟩, .int i, rfl, st_nil (index_at hn (old k710 en) hi ⟨aM, xs', _, v, rfl, rfl, SqL.of eS', a3, F3, x3, v, rfl, rfl, f3, by unfold sizeLine; omega, ?_⟩)⟩
      refine hN _ _ (k10.trans (Kx.put (by simp))) ⟨⟨_, rfl⟩, f0.put i3 d03, f1.put i3 d13, f2.put i3 d23, ?_⟩
      rw [range_snoc]
      exact Fd.push g3' tv i3
    subst e
    dsimp only
    have k710 := k79.trans k10
    have EL := eL' k710
    refine ⟨_, rfl, .ref L, rfl, L, _, 0, .ref F0, rfl, rfl, SqL.of EL, rfl, .ref L, rfl, L, _, 1, .ref F1, rfl, rfl, SqL.of EL, rfl, .ref L, rfl, L, _, 2, .ref F2, rfl, rfl, SqL.of EL, rfl, .ref L, rfl, L, _, 3, .ref F3, rfl, rfl, SqL.of EL, rfl, len_ok, fun T hT => ?_⟩
    have ls : ∀ c ∈ C, c ∈ [F0, F1, F2, F3] ++ C := fun c hc => List.mem_append_right _ hc
    have nC : ∀ {F : Addr}, H2 F = none → F ∉ C := fun n z => al2 _ z n
    have mk : ∀ {F : Addr} {l : List PyData}, H2 F = none → Fd ([F0, F1, F2, F3] ++ C) H10 F l → Tr C H10 (.ref F) (.list l) := fun n ⟨xs, e, t⟩ => .lst (nC n) e (TrAll.less ls _ _ t)
    have k210 : Kx [] H2 H10 := Kx.weak (k7.of.trans k710) fun b hb => by
      simp only [List.mem_cons, List.not_mem_nil, or_false] at hb
      rcases hb with rfl | rfl | rfl | rfl <;> exact .inr (by assumption)
    have al10 := al_up' al2 k210
    obtain ⟨k11, e11, t11⟩ := mk_tup al10 (ds := [.int D.hours, .list ((List.range D.stores.length).map fun k => .int (D.stores.getD (ixI cs k) 0)), .list ((List.range D.sights.length).map fun k => sightD ((D.sights.map (nameS cs)).getD (ixI ds k) [])), .list ((List.range D.sights.length).map fun k => optD (D.asks.getD (ixI ds k) none)), .list ((List.range D.blocks.length).map fun k => blkD ((D.blocks.map (nameBlk cs)).getD (ixI ns k) b0))])
      (.cons (.int D.hours) (.cons (mk n0 f0) (.cons (mk n1 f1) (.cons (mk n2 f2) (.cons (mk n3 f3) .nil))))) hT
    refine q T _ (k02.trans (k210.trans k11)) ?_
    have eD : dayD (nameD D cs ds ns) = .tuple [.int D.hours, .list ((List.range D.stores.length).map fun k => .int (D.stores.getD (ixI cs k) 0)), .list ((List.range D.sights.length).map fun k => sightD ((D.sights.map (nameS cs)).getD (ixI ds k) [])), .list ((List.range D.sights.length).map fun k => optD (D.asks.getD (ixI ds k) none)), .list ((List.range D.blocks.length).map fun k => blkD ((D.blocks.map (nameBlk cs)).getD (ixI ns k) b0))] := by
      unfold dayD nameD
      simp only [List.map_map]
      rfl
    rw [eD]
    exact t11
end
end Law

set_option Elab.async false
set_option linter.all false
set_option maxRecDepth 100000
set_option maxHeartbeats 4000000
namespace Law
open PySem PySem.Spec PyProof.Rows L2 GxR GX Tree Kit Data Loops Loops2 Loops3 Comps Purse Day SetG SetL Lit Sets Ib Small Obj Enum Wipe
section
variable {P : Program} {w : World} {K : PySem.W.Frag} {mg : Str → Option Value} {base : Heap} {fa : String → Addr} {fd : String → FuncData} {ca ta : String → Addr}
theorem lc_mapR {g : TG} {te : TE} {vs : List Nat} {σ : L2.St} {H : Hp} {Q : VK} {C : List Addr} {n : Nat} (F : Nat → PyData) (al : ∀ c ∈ C, H c ≠ none) (hN : n < sizeLine)
    (step : ∀ D i H', H D = none → (∀ c ∈ D :: C, H' c ≠ none) → i < n → Kx [] H H' → ∀ R : V → Hp → Prop, (∀ y H'', Kx [] H' H'' → Tr (D :: C) H'' y (F i) → R y H'') →
      g (.int i) (wipe σ vs) H' fun σ2 H2 => wipe σ2 vs = wipe σ vs ∧ te σ2 H2 R)
    (q : ∀ D H', Kx [] H H' → H D = none → Tr C H' (.ref D) (.list ((List.range n).map F)) → Q (.ref D) H') :
    CompG (Itr 0 n) g tYes te vs σ H Q := by
  intro D hD
  have nD : D ∉ C := fun z => al D z hD
  refine lc_gen (B := []) (itr_at n) hN hD (A := fun i acc H' => TrAll (D :: C) H' acc ((List.range i).map F)) .nil (fun i H' acc hi k hdd hacc R R0 hR hR0 => ?_) fun acc H' k hdd hacc => ?_
  · have alD : ∀ c ∈ D :: C, H' c ≠ none := fun c hc => by
      rcases List.mem_cons.mp hc with e | e
      · rw [e, hdd]; simp
      · exact Kx.ne k (al c e)
    have st := step D i H' hD alD hi k R fun y H'' k2 t2 => hR y H'' (k.trans k2) (k2.lst (by simp) hdd) (by
      rw [List.range_succ, List.map_append]
      have t1 := hacc.up k2
      exact TrAll.kx (Kx.put (B := [D]) (by simp)) (fun b hb => by rw [List.mem_singleton.mp hb]; simp) _ _ (t1.snoc t2))
    exact st
  · exact q D H' k hD (.lst nD hdd (TrAll.less (fun b hb => List.mem_cons_of_mem _ hb) _ _ hacc))
section
variable {g : TG} {te : TE} {vs : List Nat} {σ : L2.St} {H : Hp} {Q : VK}
/-- the same, where the item goes into what is made of it -/
theorem lc_mapD {K : PySem.W.Frag} {C : List Addr} {a : Addr} {xs : List V} {ds : List PyData} (F : PyData → PyData) (al : ∀ c ∈ C, H c ≠ none) (ha : H a = some (.lst xs)) (hd : TrAll C H xs ds) (hN : ds.length < sizeLine)
    (step : ∀ D x d H', H D = none → (∀ c ∈ D :: C, H' c ≠ none) → d ∈ ds → Tr (D :: C) H' x d → Kx [] H H' → ∀ R : V → Hp → Prop, (∀ y H'', Kx [] H' H'' → Tr (D :: C) H'' y (F d) → R y H'') →
      g x (wipe σ vs) H' fun σ2 H2 => wipe σ2 vs = wipe σ vs ∧ te σ2 H2 R)
    (q : ∀ D H', Kx [] H H' → H D = none → Tr C H' (.ref D) (.list (ds.map F)) → Q (.ref D) H') :
    CompG (Itl K a) g tYes te vs σ H Q := by
  intro D hD
  have hlen := hd.length
  have nD : D ∉ C := fun z => al D z hD
  refine lc_gen (itl_at (B := []) ha (by simp)) (by omega) hD (A := fun i acc H' => TrAll (D :: C) H' acc ((ds.take i).map F)) .nil (fun i H' acc hi k hdd hacc R R0 hR hR0 => ?_) fun acc H' k hdd hacc => ?_
  · have ei : ds[i]? = some ds[i] := List.getElem?_eq_getElem (by omega)
    have ex : xs[i]? = some xs[i] := List.getElem?_eq_getElem (by omega)
    obtain ⟨d, e1, e2⟩ := hd.get ex
    rw [ei] at e1
    cases e1
    have e3 : xs.getD i V.non = xs[i] := by
      rw [List.getD_eq_getElem?_getD, ex]; rfl
    rw [e3]
    have alD : ∀ c ∈ D :: C, H' c ≠ none := fun c hc => by
      rcases List.mem_cons.mp hc with e | e
      · rw [e, hdd]; simp
      · exact Kx.ne k (al c e)
    have ef : (ds.take (i + 1)).map F = (ds.take i).map F ++ [F ds[i]] := by
      rw [List.take_add_one, ei, List.map_append]
      rfl
    have st := step D xs[i] ds[i] H' hD alD (List.getElem_mem (by omega)) ((avoid hD _ _ e2).up k) k R fun y H'' k2 t2 => hR y H'' (k.trans k2) (k2.lst (by simp) hdd) (by
      rw [ef]
      have t1 := hacc.up k2
      exact TrAll.kx (Kx.put (B := [D]) (by simp)) (fun b hb => by rw [List.mem_singleton.mp hb]; simp) _ _ (t1.snoc t2))
    exact st
  · rw [show xs.length = ds.length from hlen, List.take_length] at hacc
    exact q D H' k hD (.lst nD hdd (TrAll.less (fun b hb => List.mem_cons_of_mem _ hb) _ _ hacc))
end
def fStore (d : PyData) : PyData := .int (if intOf d + 1 < 5 then intOf d + 1 else 5)
def fLong : PyData → PyData
  | .list rs => .list (rs ++ [rowD []])
  | d => d
theorem fLong_D (s : List (List Int)) : fLong (sightD s) = sightD (s ++ [[]]) := by
  show PyData.list (s.map rowD ++ [rowD []]) = .list ((s ++ [[]]).map rowD)
  rw [List.map_append]
  rfl
def sp_law_wider (Ts : List Addr) : Sp := fun vs H Q _ => ∃ (p : Addr) (n : Nat) (C : List Addr) (dv : V) (D : Dy), vs = [.ref p, dv] ∧ n ≤ 800000000000 ∧ At Ts C p n H ∧ Tr C H dv (dayD D) ∧ DyOk D ∧
  ∀ (F : Addr) (Ws : List Dy) (H' : Hp), Kx [p] H H' → At Ts C p (n + 1) H' → Tr C H' (.ref F) (.list (Ws.map dayD)) → (∀ W ∈ Ws, Wid D W) → Ws.length ≤ 3 → Q (.ref F) H'
theorem ok__law_wider (Y : Facts K mg base fa fd ca ta) : FnOk P w K mg base CX0 2 (fa "_law_wider") (fd "_law_wider") ["purse", "day"] (sp_law_wider (Ts ta)) := by
  refine Y.d__law_wider.ok sc__law_wider (fun vs H Q E h => ?_) (fun cdv A outer s H vs Q E hcd hr h => ?_)
  · obtain ⟨p, n, C, dv, D, rfl, _⟩ := h; rfl
  · obtain ⟨p, n, C, dv, D, rfl, hn, hA, hdt, hD, q⟩ := h
    refine ⟨_, (pss_cons (ps_asg (pe_call (ok__law_copy Y) (hr.mono (by decide)) (by rfl) Y.d__law_copy.g Y.d__law_copy.kp Y.d__law_copy.b .nil pass0 (pa_cons (pv 1) pa_nil)) (pg_tupK (n := 5) K rfl rfl (pgs_cons (pg_name (i := 2) sc__law_wider.nd rfl (by first | exact Or.inl rfl | exact Or.inr rfl)) (pgs_cons (pg_name (i := 3) sc__law_wider.nd rfl (by first | exact Or.inl rfl | exact Or.inr rfl)) (pgs_cons (pg_name (i := 4) sc__law_wider.nd rfl (by first | exact Or.inl rfl | exact Or.inr rfl)) (pgs_cons (pg_name (i := 5) sc__law_wider.nd rfl (by first | exact Or.inl rfl | exact Or.inr rfl)) (pgs_cons (pg_name (i := 6) sc__law_wider.nd rfl (by first | exact Or.inl rfl | exact Or.inr rfl)) pgs_nil)))))))
      (pss_cons (ps_set (i := 7) sc__law_wider.nd rfl (by first | exact Or.inl rfl | exact Or.inr rfl) (pe_lst (pa_cons (pe_tup (pa_cons (pv 2) (pa_cons (pe_lc (own := [("one", 8)]) (g := gName 8) (tt := tYes) rfl sc__law_wider.nd (pi_listK K rfl (pv 3)) (blkOk_by (N := ["purse", "day", "hours", "stores", "sights", "asks", "blocks", "found", "one", "sight", "hour"]) (sc := defScope s__law_wider) (by decide +kernel)) (fun _ _ _ _ _ => (pg_name (i := 8) sc__law_wider.nd rfl (by first | exact Or.inl rfl | exact Or.inr rfl))) (fun _ _ _ _ _ => pts_nil) (fun _ _ _ _ _ => (pe_callB (call_min2 rfl) (by rfl) Y.b.min (by decide +kernel) (pa_cons pe_int (pa_cons (pe_op op_add (pv 8) pe_int) pa_nil))))) (pa_cons (pv 4) (pa_cons (pv 5) (pa_cons (pv 6) pa_nil)))))) pa_nil)))
      (pss_cons (ps_if (pt_cmpR op_lt (pe_callB (call_lenK K rfl) (by rfl) Y.b.len (by decide +kernel) (pa_cons (pv 4) pa_nil)) pe_int (nomark _)) (pss_one (ps_expr (pe_bm PySem.F.plainAttrs_list PySem.F.slot_list_append PySem.F.type_list_append mt_append (pv 7) (pa_cons (pe_tup (pa_cons (pv 2) (pa_cons (pv 3) (pa_cons (pe_op op_cat (pv 4) (pe_lst (pa_cons (pe_lc (own := [("hour", 10)]) (g := gName 10) (tt := tYes) rfl sc__law_wider.nd (pi_range1 (by rfl) Y.b.range (pa_cons (pv 2) pa_nil)) (blkOk_by (N := ["purse", "day", "hours", "stores", "sights", "asks", "blocks", "found", "one", "sight", "hour"]) (sc := defScope s__law_wider) (by decide +kernel)) (fun _ _ _ _ _ => (pg_name (i := 10) sc__law_wider.nd rfl (by first | exact Or.inl rfl | exact Or.inr rfl))) (fun _ _ _ _ _ => pts_nil) (fun _ _ _ _ _ => (pe_lst (pa_cons pe_int pa_nil)))) pa_nil))) (pa_cons (pe_op op_cat (pv 5) (pe_lst (pa_cons (pe_call (ok__law_coin Y) (hr.mono (by decide)) (by rfl) Y.d__law_coin.g Y.d__law_coin.kp Y.d__law_coin.b .nil pass0 (pa_cons (pv 0) (pa_cons pe_int pa_nil))) pa_nil))) (pa_cons (pv 6) pa_nil)))))) pa_nil)))) pss_nil)
      (pss_cons (ps_if (pt_cmpR op_lt (pv 2) pe_int (nomark _)) (pss_one (ps_expr (pe_bm PySem.F.plainAttrs_list PySem.F.slot_list_append PySem.F.type_list_append mt_append (pv 7) (pa_cons (pe_tup (pa_cons (pe_op op_add (pv 2) pe_int) (pa_cons (pv 3) (pa_cons (pe_lc (own := [("sight", 9)]) (g := gName 9) (tt := tYes) rfl sc__law_wider.nd (pi_listK K rfl (pv 4)) (blkOk_by (N := ["purse", "day", "hours", "stores", "sights", "asks", "blocks", "found", "one", "sight", "hour"]) (sc := defScope s__law_wider) (by decide +kernel)) (fun _ _ _ _ _ => (pg_name (i := 9) sc__law_wider.nd rfl (by first | exact Or.inl rfl | exact Or.inr rfl))) (fun _ _ _ _ _ => pts_nil) (fun _ _ _ _ _ => (pe_op op_cat (pv 9) (pe_lst (pa_cons (pe_lst pa_nil) pa_nil))))) (pa_cons (pv 5) (pa_cons (pv 6) pa_nil)))))) pa_nil)))) pss_nil)
      (pss_one (ps_ret (pv 7))))))), ?_⟩
    have g3 := hD.g1
    have h10 := hD.t1
    have h01 := hD.t0
    have c4 := hD.s1
    have lal := hD.al
    refine ⟨dv, rfl, C, dv, D, rfl, hA.al, hdt, hD, fun T H1 k1 hT t1 => ?_⟩
    have A1 := hA.kx k1
    obtain ⟨_, dx, e, edx, tdx⟩ := t1.tupV
    cases e
    obtain ⟨y1, y2, y3, y4, y5, rfl, u1, u2, u3, u4, u5⟩ := TrAll.five tdx
    cases u1
    obtain ⟨aS, xS, rfl, eS, tS⟩ := u2.listV
    obtain ⟨aI, xI, rfl, eI, tI⟩ := u3.listV
    obtain ⟨aA, xA, rfl, eA, tA⟩ := u4.listV
    obtain ⟨aB, xB, rfl, eB, tB⟩ := u5.listV
    have lI := tI.length
    have lA := tA.length
    rw [List.length_map] at lI lA
    refine ⟨T, _, rfl, SqT.of edx, rfl, _, _, rfl, .ref aS, _, rfl, .ref aI, _, rfl, .ref aA, _, rfl, .ref aB, _, rfl, rfl, ?_⟩
    dsimp only
    refine st_lit [some (.ref p), some dv, some (.int D.hours), some (.ref aS), some (.ref aI), some (.ref aA), some (.ref aB), none, none, none, none] rfl ?_
    -- the stores
    refine st_set (st_lst (st_cons (st_cons ⟨_, rfl, st_cons (lc_use ?_)⟩)))
    refine ⟨.ref aS, rfl, aS, rfl, ⟨xS, SqL.of eS⟩, ?_⟩
    refine lc_mapC (C := C) fStore A1.al eS tS.nilB (by rw [List.length_map]; unfold sizeLine; omega) (fun D1 x d H2 hD1 al2 hd' tx k2 R hR => ?_) fun S2 H2 k2 hS2 t2 => ?_
    · obtain ⟨m, hm, rfl⟩ := List.mem_map.mp hd'
      cases tx
      exact ⟨rfl, .int m, rfl, m, 1, rfl, rfl, 5, m + 1, rfl, hR _ H2 (Kx.refl _) (.int _)⟩
    have t2 : Tr C H2 (.ref S2) (.list ((wide1 D).stores.map .int)) := by
      show Tr C H2 (.ref S2) (.list ((D.stores.map fun n => if n + 1 < 5 then n + 1 else 5).map .int))
      rw [List.map_map] at t2 ⊢
      exact t2
    have A2 := A1.kx k2
    refine ⟨.ref aI, rfl, .ref aA, rfl, .ref aB, rfl, len_ok, fun T2 hT2 => ?_⟩
    obtain ⟨k3, e3, t3⟩ := mk_tup A2.al (ds := [.int D.hours, .list ((wide1 D).stores.map .int), .list (D.sights.map sightD), .list (D.asks.map optD), .list (D.blocks.map blkD)])
      (.cons (.int D.hours) (.cons t2 (.cons (u3.up k2) (.cons (u4.up k2) (.cons (u5.up k2) .nil))))) hT2
    have A3 := A2.kx k3
    have k13 := k2.trans k3
    generalize upd H2 T2 (.tup [V.int D.hours, V.ref S2, V.ref aI, V.ref aA, V.ref aB]) = H3 at k3 e3 t3 A3 k13 ⊢
    refine st_nil ⟨len_ok, fun F hF => ?_⟩
    have k4 : Kx [] H3 (upd H3 F (.lst [.ref T2])) := Kx.new hF
    have e4 : upd H3 F (.lst [.ref T2]) F = some (.lst [.ref T2]) := upd_same
    have A4 := A3.kx k4
    have nF := A3.not hF
    have nFp : F ≠ p := fun e => nF (e ▸ hA.mem)
    have v3 := (avoid hF _ _ t3).up k4
    have k14 := k13.trans k4
    have w2 := (avoid hF _ _ (u2.up k13)).up k4
    have w3 := (avoid hF _ _ (u3.up k13)).up k4
    have w4 := (avoid hF _ _ (u4.up k13)).up k4
    have w5 := (avoid hF _ _ (u5.up k13)).up k4
    have hF0 : H F = none := k1.free (by simp) (k13.free (by simp) hF)
    generalize upd H3 F (.lst [V.ref T2]) = H4 at k4 e4 A4 v3 k14 w2 w3 w4 w5 ⊢
    have B4 : At (Ts ta) (F :: C) p n H4 := A4.cons (by rw [e4]; simp)
    have i0 : F ∈ F :: C := by simp
    have kf : ∀ {H' : Hp}, Kx [p, F] H4 H' → Kx [p] H H' := fun k => Kx.weak ((k1.trans k14).of.trans k) fun b hb => by
      simp only [List.mem_cons, List.not_mem_nil, or_false] at hb
      rcases hb with rfl | rfl
      · exact .inl (by simp)
      · exact .inr hF0
    refine st_lit [some (.ref p), some dv, some (.int D.hours), some (.ref aS), some (.ref aI), some (.ref aA), some (.ref aB), some (.ref F), none, none, none] rfl ?_
    -- a dish more
    refine st_seqJ (fun σ' H5 => σ' = [some (.ref p), some dv, some (.int D.hours), some (.ref aS), some (.ref aI), some (.ref aA), some (.ref aB), some (.ref F), none, none, none] ∧ ∃ Ws : List Dy, Kx [p, F] H4 H5 ∧ At (Ts ta) (F :: C) p (n + 1) H5 ∧
        Tr (F :: C) H5 (.ref aS) (.list (D.stores.map .int)) ∧ Tr (F :: C) H5 (.ref aI) (.list (D.sights.map sightD)) ∧ Tr (F :: C) H5 (.ref aA) (.list (D.asks.map optD)) ∧ Tr (F :: C) H5 (.ref aB) (.list (D.blocks.map blkD)) ∧
        Fd (F :: C) H5 F (Ws.map dayD) ∧ (∀ W ∈ Ws, Wid D W) ∧ Ws.length ≤ 2) ?tail fun N hN => ?_
    case tail =>
      rintro σ' H5 ⟨rfl, Ws, k5, A5, x2, x3, x4, x5, ⟨xF, eF, tF⟩, hW, lW⟩
      have lF := tF.length
      rw [List.length_map] at lF
      have fin : ∀ {H6 : Hp} {Vs : List Dy}, Kx [p, F] H4 H6 → At (Ts ta) (F :: C) p (n + 1) H6 → Fd (F :: C) H6 F (Vs.map dayD) → (∀ W ∈ Vs, Wid D W) → Vs.length ≤ 3 → Q (.ref F) H6 := fun {H6 Vs} k A ⟨xs, e, t⟩ hV lV =>
        q F Vs H6 (kf k) (A.less (fun c hc => List.mem_cons_of_mem _ hc) hA.mem) (.lst nF e (TrAll.less (fun c hc => List.mem_cons_of_mem _ hc) _ _ t)) hV lV
      refine st_seq (st_ifs ⟨_, rfl, _, _, rfl, rfl, _, rfl, ite2 (fun c => ?_) (fun c => ?_)⟩)
      · have c := of_decide_eq_true c
        obtain ⟨xI5, eI5, tI5⟩ := x3.items
        have lI5 := tI5.length
        rw [List.length_map] at lI5
        refine ⟨.ref F, rfl, .inl ⟨rfl, _, SqL.of eF⟩, st_cons (st_tup (st_cons (st_op ⟨_, rfl, D.hours, 1, rfl, rfl, st_cons ⟨_, rfl, st_cons (lc_use ?_)⟩⟩)))⟩
        refine ⟨.ref aI, rfl, aI, rfl, ⟨xI5, SqL.of eI5⟩, ?_⟩
        refine lc_mapD (C := F :: C) fLong A5.al eI5 tI5 (by rw [List.length_map]; unfold sizeLine; omega) (fun D1 x d H6 hD1 al6 hd' tx k6 R hR => ?_) fun S6 H6 k6 hS6 t6 => ?_
        · obtain ⟨si, hsi, rfl⟩ := List.mem_map.mp hd'
          have lsi := hD.gl si hsi
          obtain ⟨ax, xx, rfl, ex, txx⟩ := tx.listV
          have lxx := txx.length
          rw [List.length_map] at lxx
          refine ⟨rfl, .ref ax, rfl, st_lst (st_cons ⟨len_ok, fun E0 hE0 => ⟨len_ok, fun E1 hE1 => ?_⟩⟩)⟩
          obtain ⟨m1, f1, g1⟩ := mk_lst al6 (ds := [].map PyData.int) .nil hE0
          have al7 := al_up' al6 m1
          generalize upd H6 E0 (.lst []) = H7 at m1 f1 g1 al7 hE1 ⊢
          obtain ⟨m2, f2, g2⟩ := mk_lst al7 (ds := [rowD []]) (.cons g1 .nil) hE1
          have al8 := al_up' al7 m2
          generalize upd H7 E1 (.lst [.ref E0]) = H8 at m2 f2 g2 al8 ⊢
          refine ⟨ax, E1, xx, _, rfl, rfl, (m1.trans m2).lst (by simp) ex, f2, by simp only [List.length_cons, List.length_nil]; unfold sizeLine; omega, fun E2 hE2 => ?_⟩
          have txE : TrAll (D1 :: F :: C) H8 (xx ++ [V.ref E0]) (si.map rowD ++ [rowD []]) := (txx.up (m1.trans m2)).snoc (g1.up m2)
          obtain ⟨m3, f3, g3⟩ := mk_lst al8 txE hE2
          exact hR _ _ (m1.trans (m2.trans m3)) g3
        rw [List.map_map, show fLong ∘ sightD = sightD ∘ fun s => s ++ [[]] from funext fun s => fLong_D s] at t6
        have t6 : Tr (F :: C) H6 (.ref S6) (.list ((D.sights.map (· ++ [[]])).map sightD)) := by rw [List.map_map]; exact t6
        have A6 := A5.kx k6
        refine ⟨.ref aA, rfl, .ref aB, rfl, len_ok, fun T7 hT7 => st_nil ?_⟩
        obtain ⟨k7, e7, t7⟩ := mk_tup A6.al (ds := [.int (D.hours + 1), .list (D.stores.map .int), .list ((D.sights.map (· ++ [[]])).map sightD), .list (D.asks.map optD), .list (D.blocks.map blkD)])
          (.cons (.int _) (.cons (x2.up k6) (.cons t6 (.cons (x4.up k6) (.cons (x5.up k6) .nil))))) hT7
        have A7 := A6.kx k7
        have k57 := k6.trans k7
        generalize upd H6 T7 (.tup [V.int (D.hours + 1), V.ref aS, V.ref S6, V.ref aA, V.ref aB]) = H7 at k7 e7 t7 A7 k57 ⊢
        have eF7 := k57.lst (by simp) eF
        refine ⟨F, xF, _, rfl, rfl, eF7, by unfold sizeLine; omega, ?_⟩
        have m8 : Kx [p, F] H7 (upd H7 F (.lst (xF ++ [V.ref T7]))) := Kx.put (by simp)
        refine ⟨_, rfl, fin (Vs := Ws ++ [wide3 D]) (k5.trans (k57.of.trans m8)) (A7.set eF7 nFp) ?_ (fun W hW' => ?_) (by simp; omega)⟩
        · rw [List.map_append]
          exact Fd.push (tF.up k57) t7 i0
        · rcases List.mem_append.mp hW' with z | z
          · exact hW W z
          · rw [List.mem_singleton.mp z]; exact wid3 hD c
      · exact ⟨_, rfl, fin k5 A5 ⟨xF, eF, tF⟩ hW (by omega)⟩
    obtain ⟨xI4, eI4, tI4⟩ := w3.items
    have lI4 := tI4.length
    rw [List.length_map] at lI4
    obtain ⟨xA4, eA4, tA4⟩ := w4.items
    have lA4 := tA4.length
    rw [List.length_map] at lA4
    have first : Fd (F :: C) H4 F ([wide1 D].map dayD) := ⟨_, e4, .cons v3 .nil⟩
    have fw : ∀ W ∈ [wide1 D], Wid D W := fun W h => by rw [List.mem_singleton.mp h]; exact wid1 hD
    refine st_ifs ⟨.ref aI, rfl, aI, xI4, rfl, .inl (SqL.of eI4), _, _, rfl, rfl, _, rfl, ite2 (fun c => ?_) (fun c => ?_)⟩
    · have c := of_decide_eq_true c
      have c3 : D.sights.length < 3 := by omega
      refine ⟨.ref F, rfl, .inl ⟨rfl, _, SqL.of e4⟩, st_cons (st_tup (st_cons ⟨_, rfl, st_cons ⟨_, rfl, st_cons (st_op ⟨.ref aI, rfl, st_lst (st_cons (lc_use ?_))⟩)⟩⟩))⟩
      refine ⟨_, rfl, D.hours, rfl, by omega, by omega, ?_⟩
      refine lc_mapR (C := F :: C) (fun _ => rowD [0]) B4.al (by unfold sizeLine; omega) (fun D1 i H5 hD1 al5 hi k5 R hR => ?_) fun S5 H5 k5 hS5 t5 => ?_
      · refine ⟨rfl, len_ok, fun E0 hE0 => ?_⟩
        obtain ⟨m1, f1, g1⟩ := mk_lst al5 (TrAll.ints [0]) hE0
        exact hR _ _ m1 g1
      have t5 : Tr (F :: C) H5 (.ref S5) (sightD (List.replicate D.hours.toNat [0])) := by
        unfold sightD
        rw [List.map_replicate]
        rw [show ((List.range D.hours.toNat).map fun _ => rowD [0]) = List.replicate D.hours.toNat (rowD [0]) by rw [List.map_const', List.length_range]] at t5
        exact t5
      have B5 := B4.kx k5
      refine ⟨len_ok, fun S6 hS6 => ?_⟩
      obtain ⟨k6, e6, t6⟩ := mk_lst B5.al (ds := [sightD (List.replicate D.hours.toNat [0])]) (.cons t5 .nil) hS6
      have B6 := B5.kx k6
      generalize upd H5 S6 (.lst [V.ref S5]) = H6 at k6 e6 t6 B6 ⊢
      refine ⟨aI, S6, xI4, _, rfl, rfl, (k5.trans k6).lst (by simp) eI4, e6, by simp only [List.length_cons, List.length_nil]; unfold sizeLine; omega, fun S7 hS7 => ?_⟩
      have x6 : TrAll (F :: C) H6 [V.ref S5] [sightD (List.replicate D.hours.toNat [0])] := .cons (t5.up k6) .nil
      obtain ⟨k7, e7, t7⟩ := mk_lst B6.al ((tI4.up (k5.trans k6)).append x6) hS7
      have B7 := B6.kx k7
      have k47 := k5.trans (k6.trans k7)
      generalize upd H6 S7 (.lst (xI4 ++ [V.ref S5])) = H7 at k7 e7 t7 B7 k47 ⊢
      refine st_cons (st_op ⟨.ref aA, rfl, .ref p, rfl, p, n, 9, F :: C, rfl, by decide, by decide, by omega, B7, fun r H8 r0 r1 k8 B8 => ⟨len_ok, fun S9 hS9 => ?_⟩⟩)
      have k9 : Kx [] H8 (upd H8 S9 (.lst [.int r])) := Kx.new hS9
      have e9 : upd H8 S9 (.lst [.int r]) S9 = some (.lst [.int r]) := upd_same
      have B9 := B8.kx k9
      generalize upd H8 S9 (.lst [.int r]) = H9 at k9 e9 B9 ⊢
      have up9 : ∀ {v : V} {d : PyData}, Tr (F :: C) H7 v d → Tr (F :: C) H9 v d := fun t => (B7.tr t k8).up k9
      have w49 := up9 (w4.up k47)
      obtain ⟨xA9, eA9, tA9⟩ := w49.items
      have lA9 := tA9.length
      rw [List.length_map] at lA9
      refine ⟨aA, S9, xA9, _, rfl, rfl, eA9, e9, by simp only [List.length_cons, List.length_nil]; unfold sizeLine; omega, fun S10 hS10 => ?_⟩
      obtain ⟨k10, e10, t10⟩ := mk_lst B9.al (tA9.append (es := [optD (some r)]) (.cons (.int r) .nil)) hS10
      have B10 := B9.kx k10
      generalize upd H9 S10 (.lst (xA9 ++ [V.int r])) = H10 at k10 e10 t10 B10 ⊢
      have up10 : ∀ {v : V} {d : PyData}, Tr (F :: C) H7 v d → Tr (F :: C) H10 v d := fun t => (up9 t).up k10
      refine st_cons ⟨_, rfl, len_ok, fun T11 hT11 => st_nil ?_⟩
      obtain ⟨k11, e11, t11⟩ := mk_tup B10.al (ds := [.int D.hours, .list (D.stores.map .int), .list (D.sights.map sightD ++ [sightD (List.replicate D.hours.toNat [0])]), .list (D.asks.map optD ++ [optD (some r)]), .list (D.blocks.map blkD)])
        (.cons (.int _) (.cons (up10 (w2.up k47)) (.cons (up10 t7) (.cons t10 (.cons (up10 (w5.up k47)) .nil))))) hT11
      have B11 := B10.kx k11
      have k711 : Kx [p] H7 (upd H10 T11 (.tup [V.int D.hours, V.ref aS, V.ref S7, V.ref S10, V.ref aB])) := k8.trans (k9.trans (k10.trans k11)).of
      generalize upd H10 T11 (.tup [V.int D.hours, V.ref aS, V.ref S7, V.ref S10, V.ref aB]) = H11 at k11 e11 t11 B11 k711 ⊢
      have k411 : Kx [p] H4 H11 := k47.of.trans k711
      have eF11 := k411.lst (by simpa using nFp) e4
      have m12 : Kx [p, F] H11 (upd H11 F (.lst ([V.ref T2] ++ [V.ref T11]))) := Kx.put (by simp)
      have keep : ∀ {v : V} {d : PyData}, Tr (F :: C) H11 v d → Tr (F :: C) (upd H11 F (.lst ([V.ref T2] ++ [V.ref T11]))) v d := fun t => Tr.kx (Kx.put (B := [F]) (by simp)) (fun b hb => by rw [List.mem_singleton.mp hb]; exact i0) _ _ t
      have up11 : ∀ {v : V} {d : PyData}, Tr (F :: C) H4 v d → Tr (F :: C) H11 v d := fun t => B4.tr t k411
      refine ⟨F, _, _, rfl, rfl, eF11, by simp only [List.length_cons, List.length_nil]; unfold sizeLine; omega, hN _ _ ⟨rfl, [wide1 D, wide2 D r], (k411.sub (by simp)).trans m12, B11.set eF11 nFp, keep (up11 w2), keep (up11 w3), keep (up11 w4), keep (up11 w5), ?_, fun W h => ?_, by simp⟩⟩
      · have t11 : Tr (F :: C) H11 (.ref T11) (dayD (wide2 D r)) := by
          have e : dayD (wide2 D r) = .tuple [.int D.hours, .list (D.stores.map .int), .list (D.sights.map sightD ++ [sightD (List.replicate D.hours.toNat [0])]), .list (D.asks.map optD ++ [optD (some r)]), .list (D.blocks.map blkD)] := by
            unfold dayD wide2
            simp only [List.map_append]
            rfl
          rw [e]
          exact t11
        exact Fd.push (ds := [dayD (wide1 D)]) (.cons (up11 v3) .nil) t11 i0
      · simp only [List.mem_cons, List.not_mem_nil, or_false] at h
        rcases h with rfl | rfl
        · exact wid1 hD
        · exact wid2 hD c3 r0 r1
    · exact hN _ _ ⟨rfl, [wide1 D], Kx.refl _, B4.mono (by omega), w2, w3, w4, w5, first, fw, by simp⟩
end
end Law

set_option Elab.async false
set_option linter.all false
set_option maxRecDepth 100000
set_option maxHeartbeats 4000000
namespace Law
open PySem PySem.Spec PyProof.Rows L2 GxR GX Tree Kit Data Loops Loops2 Loops3 Comps Purse Day SetG SetL Lit Sets Ib Small Obj Enum Wipe
section
variable {P : Program} {w : World} {K : PySem.W.Frag} {mg : Str → Option Value} {base : Heap} {fa : String → Addr} {fd : String → FuncData} {ca ta : String → Addr}
/-! ### marks of passes -/
def pairD (h d : Int) : PyData := .tuple [.int h, .int d]
def markD (h c : Int) : PyData := .tuple [.int h, .str "craft", .int c]
theorem pair_eqv (a b c d : Int) : PyData.eqv (pairD a b) (pairD c d) = ((a == c) && ((b == d) && true)) := rfl
theorem mark_eqv (a b c d : Int) : PyData.eqv (markD a b) (markD c d) = ((a == c) && (true && ((b == d) && true))) := rfl
theorem pair_not {l : List PyData} {h d a b : Int} (n : (l.any fun z => PyData.eqv z (pairD h d)) = false) (m : pairD a b ∈ l) : ¬ (h = a ∧ d = b) := fun e => by
  have := List.any_eq_false.mp n _ m
  rw [pair_eqv, e.1, e.2] at this
  simp at this
theorem mark_not {l : List PyData} {h d a b : Int} (n : (l.any fun z => PyData.eqv z (markD h d)) = false) (m : markD a b ∈ l) : ¬ (h = a ∧ d = b) := fun e => by
  have := List.any_eq_false.mp n _ m
  rw [mark_eqv, e.1, e.2] at this
  simp at this
theorem pair_can (h d : Int) : PyData.canLay0 (pairD h d) = true := rfl
theorem craft_can : PyData.canLay0 (.str "craft") = true := by decide +kernel
theorem mark_can (h d : Int) : PyData.canLay0 (markD h d) = true := by
  show (true && (PyData.canLay0 (.str "craft") && (true && true))) = true
  rw [craft_can]
  rfl
theorem pair_dep (h d : Int) : PyData.depth (pairD h d) ≤ 1 := Nat.le_refl _
theorem mark_dep (h d : Int) : PyData.depth (markD h d) ≤ 1 := Nat.le_refl _
theorem tr_pair {B : List Addr} {H : Hp} {U : Addr} {h d : Int} (e : H U = some (.tup [.int h, .int d])) (n : U ∉ B) : Tr B H (.ref U) (pairD h d) := .tup n e (.cons (.int _) (.cons (.int _) .nil))
theorem tr_mark {B : List Addr} {H : Hp} {U : Addr} {h d : Int} (e : H U = some (.tup [.int h, .str "craft", .int d])) (n : U ∉ B) : Tr B H (.ref U) (markD h d) := .tup n e (.cons (.int _) (.cons (.str _) (.cons (.int _) .nil)))
/-- sorted(rest + [(t, o, c, b)]) -/
theorem moved_use {σ : L2.St} {H : Hp} {i : Nat} {R : Addr} {t o c b : Int} {rs : List Pass} (h7 : σ[7]? = some (some (.ref R))) (hi : σ[i]? = some (some (.int t))) (h9 : σ[9]? = some (some (.int o))) (h5 : σ[5]? = some (some (.int c))) (h6 : σ[6]? = some (some (.int b)))
    (tR : Tr [] H (.ref R) (.list (rs.map passD))) (bd : ∀ p ∈ (⟨t, o, c, b⟩ :: rs : List Pass), TS.Bd 100 (passI p)) (hl : rs.length ≤ 60) {Q : VK}
    (q : ∀ (S : Addr) (qs : List Pass) (H' : Hp), Kx [] H H' → qs.Perm (⟨t, o, c, b⟩ :: rs) → qs.Pairwise (fun a b => a.hour < b.hour ∨ (a.hour = b.hour ∧ a.dish ≤ b.dish)) → Tr [] H' (.ref S) (.list (qs.map passD)) → Q (.ref S) H') :
    tCB (rSortU K 4 100) (tCons (tOp rCat (tVar 7) (tLst (tCons (tTup (tCons (tVar i) (tCons (tVar 9) (tCons (tVar 5) (tCons (tVar 6) tNil))))) tNil))) tNil) σ H Q := by
  have al0 : ∀ {H : Hp}, ∀ c ∈ ([] : List Addr), H c ≠ none := fun c hc => nomatch hc
  refine st_cb (st_cons (st_op (st_var h7 ?_)))
  refine st_lst (st_cons (st_tup ?_))
  refine st_cons (st_var hi (st_cons (st_var h9 (st_cons (st_var h5 (st_cons (st_var h6 ?_)))))))
  refine ⟨len_ok, fun T hT => ?_⟩
  refine ⟨len_ok, fun L hL => ?_⟩
  obtain ⟨k1, e1, t1⟩ := mk_tup (C := []) al0 (ds := [.int t, .int o, .int c, .int b]) (.cons (.int t) (.cons (.int o) (.cons (.int c) (.cons (.int b) .nil)))) hT
  generalize upd H T (.tup [.int t, .int o, .int c, .int b]) = H1 at k1 e1 t1 hL ⊢
  obtain ⟨k2, e2, t2⟩ := mk_lst (C := []) al0 (ds := [passD ⟨t, o, c, b⟩]) (.cons t1 .nil) hL
  generalize upd H1 L (.lst [.ref T]) = H2 at k2 e2 t2 ⊢
  have k02 := k1.trans k2
  obtain ⟨xr, er, tr⟩ := (tR.up k02).items
  have lr := tr.length
  rw [List.length_map] at lr
  refine ⟨R, L, xr, _, rfl, rfl, er, e2, by simp only [List.length_cons, List.length_nil]; unfold sizeLine; omega, fun S hS => st_nil ?_⟩
  have tx : TrAll [] H2 (xr ++ [V.ref T]) ((rs ++ [(⟨t, o, c, b⟩ : Pass)]).map passD) := by
    rw [List.map_append]
    exact tr.append (.cons (t1.up k2) .nil)
  obtain ⟨k3, e3, t3⟩ := mk_lst (C := []) al0 tx hS
  have pm : (rs ++ [(⟨t, o, c, b⟩ : Pass)]).Perm ((⟨t, o, c, b⟩ : Pass) :: rs) := List.perm_append_comm
  exact sort_use (C := []) al0 t3 (fun p hp => bd p (pm.subset hp)) (by simp; omega) fun F qs H' k hF pq up tq => q F qs H' (k02.trans (k3.trans k)) (pq.trans pm) up tq
def sp_law_moved (ta : String → Addr) : Sp := fun vs H Q _ => ∃ (dv : V) (D : Dy) (pa : Addr) (ps : List Pass) (m : Nat), vs = [dv, .ref pa, .int m] ∧ Tr [] H dv (dayD D) ∧ DayV D ∧ Tr [] H (.ref pa) (.list (ps.map passD)) ∧ Plx D ps ∧ m < ps.length ∧ ps.length ≤ 14 ∧ Tb (Ts ta) H ∧ ∀ H', Kx [] H H' → Q (.bl true) H'
theorem ok__law_moved_right (Y : Facts K mg base fa fd ca ta) : FnOk P w K mg base CX0 12 (fa "_law_moved_right") (fd "_law_moved_right") ["day", "plan", "at"] (sp_law_moved ta) := by
  refine Y.d__law_moved_right.ok sc__law_moved_right (fun vs H Q E h => ?_) (fun cdv A outer s H vs Q E hcd hr h => ?_)
  · obtain ⟨dv, D, pa, ps, m, rfl, _⟩ := h; rfl
  · obtain ⟨dv, D, pa, ps, m, rfl, hdt, hD, hpt, hp, hm, hl, hT, q⟩ := h
    refine ⟨_, (pss_cons (ps_asg (pe_ix (ix_listK K rfl) (pv 1) (pv 2) (fun _ _ => rfl)) (pg_tupK (n := 4) K rfl rfl (pgs_cons (pg_name (i := 3) sc__law_moved_right.nd rfl (by first | exact Or.inl rfl | exact Or.inr rfl)) (pgs_cons (pg_name (i := 4) sc__law_moved_right.nd rfl (by first | exact Or.inl rfl | exact Or.inr rfl)) (pgs_cons (pg_name (i := 5) sc__law_moved_right.nd rfl (by first | exact Or.inl rfl | exact Or.inr rfl)) (pgs_cons (pg_name (i := 6) sc__law_moved_right.nd rfl (by first | exact Or.inl rfl | exact Or.inr rfl)) pgs_nil))))))
      (pss_cons (ps_set (i := 7) sc__law_moved_right.nd rfl (by first | exact Or.inl rfl | exact Or.inr rfl) (pe_op op_cat (pe_slice (sl_listK K rfl) (pv 1) po_none (po_some (pv 2))) (pe_slice (sl_listK K rfl) (pv 1) (po_some (pe_op op_add (pv 2) pe_int)) po_none)))
      (pss_cons (ps_setLc (i := 8) (own := [("one", 14)]) (g := gName 14) (tt := tYes) rfl sc__law_moved_right.nd rfl rfl (sw_true rfl rfl rfl (by decide +kernel)) (pi_listK K rfl (pv 1)) (blkOk_by (N := ["day", "plan", "at", "hour", "dish", "craft", "number", "rest", "taken", "other", "when", "used", "free", "moved", "one"]) (sc := defScope s__law_moved_right) (by decide +kernel)) (fun _ _ _ _ _ => (pg_name (i := 14) sc__law_moved_right.nd rfl (by first | exact Or.inl rfl | exact Or.inr rfl))) (fun _ _ _ _ _ => pts_nil) (fun _ _ _ _ _ => (pe_slice (sl_tupAK K rfl) (pv 14) po_none (po_some pe_int))))
      (pss_cons (ps_for PassesOwn.never rfl (pi_range1 (by rfl) Y.b.range (pa_cons (pe_callB (call_lenK K rfl) (by rfl) Y.b.len (by decide +kernel) (pa_cons (pe_ix (ix_tupK K rfl) (pv 0) pe_int (fun _ _ => rfl)) pa_nil)) pa_nil)) (pg_name (i := 9) sc__law_moved_right.nd rfl (by first | exact Or.inl rfl | exact Or.inr rfl)) (pss_cons (ps_if ((pw_and (pt_cmpR (op_inK K rfl) (pv 5) (pe_ix (ix_listK K rfl) (pe_ix (ix_listK K rfl) (pe_ix (ix_tupK K rfl) (pv 0) pe_int (fun _ _ => rfl)) (pv 9) (fun _ _ => rfl)) (pv 3) (fun _ _ => rfl)) (by rfl)) (pw_and1 (pt_cmpR (op_notInDK K rfl (Enum.units1 hr)) (pe_tup (pa_cons (pv 3) (pa_cons (pv 9) pa_nil))) (pv 8) (by rfl))))).pt (pss_one (ps_if (pt_cmpR op_notBl (pe_call (ok_is_plan Y) (hr.mono (by decide)) (by rfl) Y.d_is_plan.g Y.d_is_plan.kp Y.d_is_plan.b .nil pass0 (pa_cons (pv 0) (pa_cons (pe_callB (cr_sortTK K rfl) (by rfl) Y.b.sorted (by decide +kernel) (pa_cons (pe_op op_cat (pv 7) (pe_lst (pa_cons (pe_tup (pa_cons (pv 3) (pa_cons (pv 9) (pa_cons (pv 5) (pa_cons (pv 6) pa_nil))))) pa_nil))) pa_nil)) pa_nil))) pe_bl (nomark _)) (pss_one (ps_ret pe_bl)) pss_nil)) pss_nil)
      (pss_one (ps_for PassesOwn.never rfl (pi_range1 (by rfl) Y.b.range (pa_cons (pe_ix (ix_tupK K rfl) (pv 0) pe_int (fun _ _ => rfl)) pa_nil)) (pg_name (i := 10) sc__law_moved_right.nd rfl (by first | exact Or.inl rfl | exact Or.inr rfl)) (pss_cons (ps_set (i := 11) sc__law_moved_right.nd rfl (by first | exact Or.inl rfl | exact Or.inr rfl) (pe_op op_cat (pe_lc (own := [("one", 14)]) (g := gName 14) (tt := tYes) rfl sc__law_moved_right.nd (pi_listK K rfl (pv 7)) (blkOk_by (N := ["day", "plan", "at", "hour", "dish", "craft", "number", "rest", "taken", "other", "when", "used", "free", "moved", "one"]) (sc := defScope s__law_moved_right) (by decide +kernel)) (fun _ _ _ _ _ => (pg_name (i := 14) sc__law_moved_right.nd rfl (by first | exact Or.inl rfl | exact Or.inr rfl))) (fun _ _ _ _ _ => pts_nil) (fun _ _ _ _ _ => (pe_slice (sl_tupAK K rfl) (pv 14) po_none (po_some pe_int)))) (pe_lc (own := [("one", 14)]) (g := gName 14) (tt := tYes) rfl sc__law_moved_right.nd (pi_listK K rfl (pv 7)) (blkOk_by (N := ["day", "plan", "at", "hour", "dish", "craft", "number", "rest", "taken", "other", "when", "used", "free", "moved", "one"]) (sc := defScope s__law_moved_right) (by decide +kernel)) (fun _ _ _ _ _ => (pg_name (i := 14) sc__law_moved_right.nd rfl (by first | exact Or.inl rfl | exact Or.inr rfl))) (fun _ _ _ _ _ => pts_nil) (fun _ _ _ _ _ => (pe_tup (pa_cons (pe_ix (ix_tupK K rfl) (pv 14) pe_int (fun _ _ => rfl)) (pa_cons pe_str (pa_cons (pe_ix (ix_tupK K rfl) (pv 14) pe_int (fun _ _ => rfl)) pa_nil))))))))
      (pss_cons (ps_set (i := 12) sc__law_moved_right.nd rfl (by first | exact Or.inl rfl | exact Or.inr rfl) (pe_and (pe_cmpR (op_inK K rfl) (pv 5) (pe_ix (ix_listK K rfl) (pe_ix (ix_listK K rfl) (pe_ix (ix_tupK K rfl) (pv 0) pe_int (fun _ _ => rfl)) (pv 9) (fun _ _ => rfl)) (pv 10) (fun _ _ => rfl)) (by rfl)) (pe_one (pe_cmpR (op_notInDK K rfl (Enum.units1 hr)) (pe_tup (pa_cons (pv 10) (pa_cons (pv 9) pa_nil))) (pv 11) (by rfl)))))
      (pss_cons (ps_set (i := 12) sc__law_moved_right.nd rfl (by first | exact Or.inl rfl | exact Or.inr rfl) (pe_and (pv 12) (pe_one (pe_cmpR (op_notInDK K rfl (Enum.units1 hr)) (pe_tup (pa_cons (pv 10) (pa_cons pe_str (pa_cons (pv 5) pa_nil)))) (pv 11) (by rfl)))))
      (pss_one (ps_if ((pw_and (pt_val (pv 12)) (pw_and (pt_cmpR op_notN (pe_ix (ix_tupK K rfl) (pe_ix (ix_listK K rfl) (pe_ix (ix_tupK K rfl) (pv 0) pe_int (fun _ _ => rfl)) (pv 6) (fun _ _ => rfl)) pe_int (fun _ _ => rfl)) pe_non (nomark _)) (pw_and1 (pt_val (pe_call (ok__law_may Y) (hr.mono (by decide)) (by rfl) Y.d__law_may.g Y.d__law_may.kp Y.d__law_may.b .nil pass0 (pa_cons (pe_ix (ix_listK K rfl) (pe_ix (ix_tupK K rfl) (pv 0) pe_int (fun _ _ => rfl)) (pv 6) (fun _ _ => rfl)) (pa_cons (pv 10) pa_nil)))))))).pt (pss_cons (ps_set (i := 13) sc__law_moved_right.nd rfl (by first | exact Or.inl rfl | exact Or.inr rfl) (pe_callB (cr_sortTK K rfl) (by rfl) Y.b.sorted (by decide +kernel) (pa_cons (pe_op op_cat (pv 7) (pe_lst (pa_cons (pe_tup (pa_cons (pv 10) (pa_cons (pv 9) (pa_cons (pv 5) (pa_cons (pv 6) pa_nil))))) pa_nil))) pa_nil)))
      (pss_one (ps_if (pt_cmpR op_notBl (pe_call (ok_is_plan Y) (hr.mono (by decide)) (by rfl) Y.d_is_plan.g Y.d_is_plan.kp Y.d_is_plan.b .nil pass0 (pa_cons (pv 0) (pa_cons (pv 13) pa_nil))) pe_bl (nomark _)) (pss_one (ps_ret pe_bl)) pss_nil))) pss_nil)))))))))
      (pss_one (ps_ret pe_bl)))))), ?_⟩
    have hdt0 := hdt
    obtain ⟨da, dx, rfl, edx, tdx⟩ := hdt.tupV
    obtain ⟨y1, y2, y3, y4, y5, rfl, u1, u2, u3, u4, u5⟩ := TrAll.five tdx
    cases u1
    obtain ⟨aI, xI, rfl, eI, tI⟩ := u3.listV
    obtain ⟨aB, xB, rfl, eB, tB⟩ := u5.listV
    have g3 := hD.ok.g1
    have h10 := hD.ok.t1
    have h01 := hD.ok.t0
    have lI := tI.length
    rw [List.length_map] at lI
    obtain ⟨xp, ep, tp⟩ := hpt.items
    have lp := tp.length
    rw [List.length_map] at lp
    obtain ⟨pv, epv, tpv⟩ := tp.get' (i := m) (d := passD ps[m]) (by rw [List.getElem?_map, List.getElem?_eq_getElem hm]; rfl)
    obtain ⟨pt, rfl, ept⟩ := pass_tr tpv
    have at0 := atI_nat epv
    have pe := erase_perm hm
    have hx := hp.perm pe
    have lrs : (ps.take m ++ ps.drop (m + 1)).length ≤ 14 := by have := (erase_sub ps m).length_le; omega
    have hpm : ∀ q ∈ ps[m] :: (ps.take m ++ ps.drop (m + 1)), q ∈ ps := fun q hq => pe.subset hq
    have hbd : ∀ {t o c b : Int} {qs : List Pass}, Plx D (⟨t, o, c, b⟩ :: qs) → ∀ p ∈ (⟨t, o, c, b⟩ :: qs : List Pass), TS.Bd 100 (passI p) := fun z p hp => pass_bd hD.ok (z.ok p hp)
    generalize hrs : ps.take m ++ ps.drop (m + 1) = rs at pe hx lrs hpm
    obtain ⟨a1, a2, a3, a4, a5, a6, a7⟩ := passT_of (hx.ok ps[m] (by simp))
    generalize ps[m] = p0' at ept pe hx hpm a1 a2 a3 a4 a5 a6 a7
    refine ⟨.ref pa, rfl, .int m, rfl, pa, xp, m, .ref pt, rfl, rfl, SqL.of ep, at0, pt, _, rfl, SqT.of ept, rfl, _, _, rfl, _, _, rfl, _, _, rfl, _, _, rfl, rfl, ?_⟩
    dsimp only
    refine st_lit [some (.ref da), some (.ref pa), some (.int m), some (.int p0'.hour), some (.int p0'.dish), some (.int p0'.craft), some (.int p0'.block), none, none, none, none, none, none, none, none] rfl ?_
    -- the rest
    refine st_set (st_op ⟨.ref pa, rfl, .int m, rfl, _, rfl, pa, xp, rfl, SqL.of ep, fun S1 hS1 => ?_⟩)
    rw [cut_hi]
    have al0 : ∀ {H : Hp}, ∀ c ∈ ([] : List Addr), H c ≠ none := fun c hc => nomatch hc
    obtain ⟨k1, e1, t1⟩ := mk_lst (C := []) al0 (tp.take m) hS1
    generalize upd H S1 (.lst (xp.take m)) = H1 at k1 e1 t1 ⊢
    refine ⟨.ref pa, rfl, .int m, rfl, _, _, rfl, rfl, _, rfl, pa, xp, rfl, SqL.of (k1.lst (by simp) ep), fun S2 hS2 => ?_⟩
    rw [cut_lo1]
    obtain ⟨k2, e2, t2⟩ := mk_lst (C := []) al0 ((tp.up k1).drop (m + 1)) hS2
    generalize upd H1 S2 (.lst (xp.drop (m + 1))) = H2 at k2 e2 t2 ⊢
    refine ⟨S1, S2, _, _, rfl, rfl, k2.lst (by simp) e1, e2, by simp only [List.length_take, List.length_drop]; unfold sizeLine; omega, fun R hR => ?_⟩
    obtain ⟨k3, e3, t3⟩ := mk_lst (C := []) al0 (((tp.take m).up (k1.trans k2)).append ((tp.drop (m + 1)).up (k1.trans k2))) hR
    have k03 := k1.trans (k2.trans k3)
    generalize upd H2 R (.lst (xp.take m ++ xp.drop (m + 1))) = H3 at k3 e3 t3 k03 ⊢
    rw [← List.map_take, ← List.map_drop, ← List.map_append, hrs] at t3
    -- what is taken
    refine st_set (lc_use ?_)
    have ep3 := k03.lst (by simp) ep
    refine ⟨.ref pa, rfl, pa, rfl, ⟨xp, SqL.of ep3⟩, ?_⟩
    refine lc_mapC (C := []) (fun d => pairD (passOf d).hour (passOf d).dish) al0 ep3 (tp.up k03) (by rw [List.length_map]; unfold sizeLine; omega) (fun D1 x d H4 hD1 al4 hd' tx k4 Z hZ => ?_) fun U H4 k4 hU t4 => ?_
    · obtain ⟨q', hq', rfl⟩ := List.mem_map.mp hd'
      obtain ⟨ax, rfl, eax⟩ := pass_tr tx
      refine ⟨rfl, .ref ax, rfl, 2, rfl, ax, _, rfl, SqT.of eax, fun z => absurd z.2 (by show ¬ (HT.sIx 4 4 (some 2) = 4); decide), fun _ V0 hV => ?_⟩
      exact hZ _ _ (Kx.new hV) (tr_pair upd_same fun z => al4 _ z hV)
    rw [List.map_map] at t4
    have k04 := k03.trans k4
    have t3 := t3.up k4
    have cand : ∀ d ∈ ps.map ((fun d => pairD (passOf d).hour (passOf d).dish) ∘ passD), PyData.canLay0 d = true ∧ PyData.depth d ≤ 1 := fun d hd => by
      obtain ⟨p, _, rfl⟩ := List.mem_map.mp hd
      exact ⟨pair_can _ _, pair_dep _ _⟩
    -- the dishes
    refine st_seq (st_for ⟨.ref da, rfl, da, _, 2, .ref aI, rfl, rfl, SqT.of (k04.tup (by simp) edx), rfl, aI, xI, rfl, .inl (SqL.of (k04.lst (by simp) eI)), (D.sights.length : Int), by rw [lI], by omega, by omega, ?_⟩)
    rw [Int.toNat_natCast]
    refine for_gen (itr_at D.sights.length) (B := []) (Iv := fun o σ' H' => ∃ z9 z10 z11 z12 z13, σ' = [some (.ref da), some (.ref pa), some (.int m), some (.int p0'.hour), some (.int p0'.dish), some (.int p0'.craft), some (.int p0'.block), some (.ref R), some (.ref U), z9, z10, z11, z12, z13, none])
      ⟨_, _, _, _, _, rfl⟩ (fun o σ' H5 ho k5 ⟨z9, z10, z11, z12, z13, e⟩ Nn hN => ?_) fun σ' H5 k5 ⟨z9, z10, z11, z12, z13, e⟩ => ?_
    · subst e
      refine st_name ?_
      dsimp only
      have k05 := k04.trans k5
      refine st_seqJ (fun σ' H6 => σ' = [some (.ref da), some (.ref pa), some (.int m), some (.int p0'.hour), some (.int p0'.dish), some (.int p0'.craft), some (.int p0'.block), some (.ref R), some (.ref U), some (.int o), z10, z11, z12, z13, none] ∧ Kx [] H4 H6) ?behind fun N hN' => ?_
      case behind =>
        rintro σ' H6 ⟨rfl, k6⟩
        have k06 := k04.trans k6
        refine st_for ⟨.ref da, rfl, da, _, 0, _, rfl, rfl, SqT.of (k06.tup (by simp) edx), rfl, D.hours, rfl, by omega, by omega, ?_⟩
        refine for_gen (itr_at D.hours.toNat) (B := []) (Iv := fun t σ' H' => ∃ z10 z11 z12 z13, σ' = [some (.ref da), some (.ref pa), some (.int m), some (.int p0'.hour), some (.int p0'.dish), some (.int p0'.craft), some (.int p0'.block), some (.ref R), some (.ref U), some (.int o), z10, z11, z12, z13, none])
          ⟨_, _, _, _, rfl⟩ (fun t σ' H7 ht k7 ⟨z10, z11, z12, z13, e⟩ Nm hNm => ?_) fun σ' H7 k7 ⟨z10, z11, z12, z13, e⟩ => ?_
        · subst e
          refine st_name ?_
          dsimp only
          have k07 := k06.trans k7
          have t37 := t3.up (k6.trans k7)
          obtain ⟨xr, er, tr⟩ := t37.items
          have lr := tr.length
          rw [List.length_map] at lr
          refine st_set (st_op (lc_use ?_))
          refine ⟨.ref R, rfl, R, rfl, ⟨xr, SqL.of er⟩, ?_⟩
          refine lc_mapC (C := []) (fun d => pairD (passOf d).hour (passOf d).dish) al0 er tr (by rw [List.length_map]; unfold sizeLine; omega) (fun D1 x d H8 hD1 al8 hd' tx k8 Z hZ => ?_) fun M1 H8 k8 hM1 s1 => ?_
          · obtain ⟨q', hq', rfl⟩ := List.mem_map.mp hd'
            obtain ⟨ax, rfl, eax⟩ := pass_tr tx
            refine ⟨rfl, .ref ax, rfl, 2, rfl, ax, _, rfl, SqT.of eax, fun z => absurd z.2 (by show ¬ (HT.sIx 4 4 (some 2) = 4); decide), fun _ V0 hV => ?_⟩
            exact hZ _ _ (Kx.new hV) (tr_pair upd_same fun z => al8 _ z hV)
          refine lc_use ?_
          have er8 := k8.lst (by simp) er
          refine ⟨.ref R, rfl, R, rfl, ⟨xr, SqL.of er8⟩, ?_⟩
          refine lc_mapC (C := []) (fun d => markD (passOf d).hour (passOf d).craft) al0 er8 (tr.up k8) (by rw [List.length_map]; unfold sizeLine; omega) (fun D1 x d H9 hD1 al9 hd' tx k9 Z hZ => ?_) fun M2 H9 k9 hM2 s2 => ?_
          · obtain ⟨q', hq', rfl⟩ := List.mem_map.mp hd'
            obtain ⟨ax, rfl, eax⟩ := pass_tr tx
            refine ⟨rfl, .ref ax, rfl, ax, _, 0, _, rfl, rfl, SqT.of eax, rfl, .ref ax, rfl, ax, _, 2, _, rfl, rfl, SqT.of eax, rfl, len_ok, fun V0 hV => ?_⟩
            exact hZ _ _ (Kx.new hV) (tr_mark upd_same fun z => al9 _ z hV)
          rw [List.map_map] at s1 s2
          obtain ⟨x1, f1, g1⟩ := (s1.up k9).items
          obtain ⟨x2, f2, g2⟩ := s2.items
          have l1 := g1.length
          have l2 := g2.length
          rw [List.length_map] at l1 l2
          refine ⟨M1, M2, x1, x2, rfl, rfl, f1, f2, by unfold sizeLine; omega, fun M3 hM3 => ?_⟩
          obtain ⟨k10, f3, s3⟩ := mk_lst (C := []) al0 (g1.append g2) hM3
          generalize upd H9 M3 (.lst (x1 ++ x2)) = H10 at k10 f3 s3 ⊢
          have k710 := k8.trans (k9.trans k10)
          have m1 : ∀ q' ∈ rs, pairD q'.hour q'.dish ∈ rs.map ((fun d => pairD (passOf d).hour (passOf d).dish) ∘ passD) ++ rs.map ((fun d => markD (passOf d).hour (passOf d).craft) ∘ passD) := fun q' h => List.mem_append_left _ (List.mem_map.mpr ⟨q', h, rfl⟩)
          have m2 : ∀ q' ∈ rs, markD q'.hour q'.craft ∈ rs.map ((fun d => pairD (passOf d).hour (passOf d).dish) ∘ passD) ++ rs.map ((fun d => markD (passOf d).hour (passOf d).craft) ∘ passD) := fun q' h => List.mem_append_right _ (List.mem_map.mpr ⟨q', h, rfl⟩)
          have cand2 : ∀ d ∈ rs.map ((fun d => pairD (passOf d).hour (passOf d).dish) ∘ passD) ++ rs.map ((fun d => markD (passOf d).hour (passOf d).craft) ∘ passD), PyData.canLay0 d = true ∧ PyData.depth d ≤ 1 := fun d hd => by
            rcases List.mem_append.mp hd with hd | hd
            · obtain ⟨p, _, rfl⟩ := List.mem_map.mp hd
              exact ⟨pair_can _ _, pair_dep _ _⟩
            · obtain ⟨p, _, rfl⟩ := List.mem_map.mp hd
              exact ⟨mark_can _ _, mark_dep _ _⟩
          have sh : SeqAt.shaped (.list (rs.map ((fun d => pairD (passOf d).hour (passOf d).dish) ∘ passD) ++ rs.map ((fun d => markD (passOf d).hour (passOf d).craft) ∘ passD))) = true := shaped_by (k := 2) (canAll fun d hd => (cand2 d hd).1) (depAll fun d hd => (cand2 d hd).2)
          have ca : PyData.canLay0 (.list (rs.map ((fun d => pairD (passOf d).hour (passOf d).dish) ∘ passD) ++ rs.map ((fun d => markD (passOf d).hour (passOf d).craft) ∘ passD))) = true := canAll fun d hd => (cand2 d hd).1
          generalize rs.map ((fun d => pairD (passOf d).hour (passOf d).dish) ∘ passD) ++ rs.map ((fun d => markD (passOf d).hour (passOf d).craft) ∘ passD) = us at s3 m1 m2 cand2 sh ca
          have lit : ∀ f : Bool, ((([some (.ref da), some (.ref pa), some (.int m), some (.int p0'.hour), some (.int p0'.dish), some (.int p0'.craft), some (.int p0'.block), some (.ref R), some (.ref U), some (.int o), some (.int t), some (.ref M3), z12, z13, none] : L2.St).set 12 (some (.bl f))) = [some (.ref da), some (.ref pa), some (.int m), some (.int p0'.hour), some (.int p0'.dish), some (.int p0'.craft), some (.int p0'.block), some (.ref R), some (.ref U), some (.int o), some (.int t), some (.ref M3), some (.bl f), z13, none]) := fun f => rfl
          -- free
          refine st_seqJ (fun σ' H' => ∃ f : Bool, σ' = [some (.ref da), some (.ref pa), some (.int m), some (.int p0'.hour), some (.int p0'.dish), some (.int p0'.craft), some (.int p0'.block), some (.ref R), some (.ref U), some (.int o), some (.int t), some (.ref M3), some (.bl f), z13, none] ∧ Kx [] H10 H' ∧
              (f = true → p0'.craft ∈ heardAt D o t ∧ (us.any fun z => PyData.eqv z (pairD t o)) = false)) ?later fun N2 hN2 => ?_
          case later =>
            rintro σ' H11 ⟨f, rfl, k11, hf⟩
            refine st_seqJ (fun σ' H' => ∃ f : Bool, σ' = [some (.ref da), some (.ref pa), some (.int m), some (.int p0'.hour), some (.int p0'.dish), some (.int p0'.craft), some (.int p0'.block), some (.ref R), some (.ref U), some (.int o), some (.int t), some (.ref M3), some (.bl f), z13, none] ∧ Kx [] H10 H' ∧
              (f = true → p0'.craft ∈ heardAt D o t ∧ (us.any fun z => PyData.eqv z (pairD t o)) = false ∧ (us.any fun z => PyData.eqv z (markD t p0'.craft)) = false)) ?latest fun N3 hN3 => ?_
            case latest =>
              rintro σ' H12 ⟨f, rfl, k12, hf⟩
              have k712 := k710.trans k12
              have k012 := k07.trans k712
              have out : ∀ {H' : Hp} {z : Option V} {f : Bool}, Kx [] H12 H' → Nm [some (.ref da), some (.ref pa), some (.int m), some (.int p0'.hour), some (.int p0'.dish), some (.int p0'.craft), some (.int p0'.block), some (.ref R), some (.ref U), some (.int o), some (.int t), some (.ref M3), some (.bl f), z, none] H' := fun {H' z f} k => hNm _ _ (k7.trans (k712.trans k)) ⟨_, _, _, _, rfl⟩
              refine st_ifs ⟨.bl f, rfl, f, rfl, ?_⟩
              cases f with
              | false => exact iteF (iteF (out (Kx.refl _)))
              | true =>
              obtain ⟨hf1, hf2, hf3⟩ := hf rfl
              obtain ⟨xB', bA, b1, b4, eB', aB', eb', tb4, tbb⟩ := blk_ix (u5.up k012) (n := p0'.block) (by omega) (by omega)
              have edx' := k012.tup (by simp) edx
              refine iteT ⟨.ref da, rfl, da, _, 4, .ref aB, rfl, rfl, SqT.of edx', rfl, .int p0'.block, rfl, aB, xB', p0'.block, .ref bA, rfl, rfl, SqL.of eB', aB', bA, _, 3, b4, rfl, rfl, SqT.of eb', rfl, rfl, _, rfl, ?_⟩
              rw [isNone_v tb4]
              cases hdue : (blkAt D p0'.block).due with
              | none => exact iteF (iteF (out (Kx.refl _)))
              | some u =>
              refine iteT ⟨.ref da, rfl, da, _, 4, .ref aB, rfl, rfl, SqT.of edx', rfl, .int p0'.block, rfl, aB, xB', p0'.block, .ref bA, rfl, rfl, SqL.of eB', aB', .int t, rfl, .ref bA, blkAt D p0'.block, t, rfl, tbb.nil, _, rfl, ?_⟩
              cases hmay : mayB (blkAt D p0'.block) t with
              | false => exact iteF (out (Kx.refl _))
              | true =>
              have pl := hx.hour (o := (o : Int)) (t := (t : Int)) (by omega) (by omega) (by omega) (by omega) hf1 (fun q' hq' => pair_not hf2 (m1 q' hq')) (fun q' hq' => mark_not hf3 (m2 q' hq')) (by rw [hdue]; exact fun z => nomatch z) hmay
              refine iteT (st_set (moved_use (i := 10) rfl rfl rfl rfl rfl (t37.up k712) (hbd pl) (by omega) fun S qs H13 k13 pq up tq => ?_))
              have plq := (pl.perm pq).plan up (by have := pq.length_eq; simp at this; omega)
              have lq := plq.len
              refine st_ifs ⟨.ref da, rfl, .ref S, rfl, .ref da, D, .ref S, _, rfl, hdt0.up (k012.trans k13), hD.ok, hD.b, hD.z, tq, (fun ds e => by cases e; rw [List.length_map]; exact lq), hT.kx (k012.trans k13), fun H14 k14 => ⟨_, _, rfl, rfl, _, rfl, ?_⟩⟩
              rw [plq.b]
              exact iteF (out (k13.trans k14))
            refine st_asg (st_andv ⟨_, rfl, f, rfl, ?_⟩)
            cases f with
            | false => exact iteF (st_name (hN3 _ _ ⟨false, rfl, k11, fun z => nomatch z⟩))
            | true =>
              obtain ⟨hf1, hf2⟩ := hf rfl
              refine iteT ⟨_, rfl, _, rfl, len_ok, fun W hW => ?_⟩
              have k12 : Kx [] H11 (upd H11 W (.tup [.int t, .str "craft", .int p0'.craft])) := Kx.new hW
              have e12 : upd H11 W (.tup [.int t, .str "craft", .int p0'.craft]) W = some (.tup [.int t, .str "craft", .int p0'.craft]) := upd_same
              generalize upd H11 W (.tup [.int t, .str "craft", .int p0'.craft]) = H12 at k12 e12 ⊢
              refine ⟨.ref M3, rfl, markD t p0'.craft, _, tr_dp _ _ (tr_mark (B := []) e12 (by simp)) (mark_can _ _), tr_dp _ _ (s3.up (k11.trans k12)) ca, shaped_by (k := 1) (mark_can _ _) (mark_dep _ _), sh, ?_⟩
              refine st_name (hN3 _ _ ⟨_, rfl, k11.trans k12, fun z => ⟨hf1, hf2, by simpa using z⟩⟩)
          have k010 := k07.trans k710
          obtain ⟨xI5, gA, gx, rA, eI5, at1, eg5, at2, er5⟩ := row_ix hD.ok (u3.up k010) (d := (o : Int)) (h := (t : Int)) (by omega) (by omega) (by omega) (by omega)
          refine st_asg (st_andv ⟨.int p0'.craft, rfl, .ref da, rfl, da, _, 2, .ref aI, rfl, rfl, SqT.of (k010.tup (by simp) edx), rfl, .int o, rfl, aI, xI5, o, .ref gA, rfl, rfl, SqL.of eI5, at1, .int t, rfl, gA, gx, t, .ref rA, rfl, rfl, SqL.of eg5, at2, rA, _, rfl, .inl (SqL.of er5), rfl, flat_ints _, ?_⟩)
          rw [if_neg (by decide), inV_ints]
          refine ⟨_, rfl, ?_⟩
          cases c1 : (heardAt D o t).contains p0'.craft with
          | false => exact iteF (st_name (hN2 _ _ ⟨false, rfl, Kx.refl _, fun z => nomatch z⟩))
          | true =>
            refine iteT ⟨_, rfl, _, rfl, len_ok, fun W hW => ?_⟩
            have k11 : Kx [] H10 (upd H10 W (.tup [.int t, .int o])) := Kx.new hW
            have e11 : upd H10 W (.tup [.int t, .int o]) W = some (.tup [.int t, .int o]) := upd_same
            generalize upd H10 W (.tup [.int t, .int o]) = H11 at k11 e11 ⊢
            refine ⟨.ref M3, rfl, pairD t o, _, tr_dp _ _ (tr_pair (B := []) e11 (by simp)) (pair_can _ _), tr_dp _ _ (s3.up k11) ca, shaped_by (k := 1) (pair_can _ _) (pair_dep _ _), sh, ?_⟩
            exact st_name (hN2 _ _ ⟨_, rfl, k11, fun z => ⟨List.contains_iff_mem.mp c1, by simpa using z⟩⟩)
        · subst e
          exact hN _ _ (k6.trans k7) ⟨_, _, _, _, _, rfl⟩
      obtain ⟨xI5, gA, gx, rA, eI5, at1, eg5, at2, er5⟩ := row_ix hD.ok (u3.up k05) (d := (o : Int)) (h := p0'.hour) (by omega) (by omega) (by omega) (by omega)
      refine st_ifs ⟨.int p0'.craft, rfl, .ref da, rfl, da, _, 2, .ref aI, rfl, rfl, SqT.of (k05.tup (by simp) edx), rfl, .int o, rfl, aI, xI5, o, .ref gA, rfl, rfl, SqL.of eI5, at1, .int p0'.hour, rfl, gA, gx, p0'.hour, .ref rA, rfl, rfl, SqL.of eg5, at2, rA, _, rfl, .inl (SqL.of er5), rfl, flat_ints _, ?_⟩
      rw [if_neg (by decide), inV_ints]
      refine ⟨_, rfl, ?_⟩
      cases c1 : (heardAt D o p0'.hour).contains p0'.craft with
      | false => exact iteF (hN' _ _ ⟨rfl, k5⟩)
      | true =>
      refine iteT ⟨_, rfl, _, rfl, len_ok, fun W hW => ?_⟩
      have k6 : Kx [] H5 (upd H5 W (.tup [.int p0'.hour, .int o])) := Kx.new hW
      have e6 : upd H5 W (.tup [.int p0'.hour, .int o]) W = some (.tup [.int p0'.hour, .int o]) := upd_same
      generalize upd H5 W (.tup [.int p0'.hour, .int o]) = H6 at k6 e6 ⊢
      have k46 := k5.trans k6
      have t46 := t4.up k46
      refine ⟨.ref U, rfl, pairD p0'.hour o, _, tr_dp _ _ (tr_pair (B := []) e6 (by simp)) (pair_can _ _), tr_dp _ _ t46 (canAll fun d hd => (cand d hd).1), shaped_by (k := 1) (pair_can _ _) (pair_dep _ _), shaped_by (k := 2) (canAll fun d hd => (cand d hd).1) (depAll fun d hd => (cand d hd).2), _, rfl, ?_⟩
      cases c2 : (ps.map ((fun d => pairD (passOf d).hour (passOf d).dish) ∘ passD)).any (fun z => z.eqv (pairD p0'.hour o)) with
      | true => exact iteF (hN' _ _ ⟨rfl, k46⟩)
      | false =>
      have pl := hx.dish (o := (o : Int)) (by omega) (by omega) (List.contains_iff_mem.mp c1) fun q' hq' => pair_not c2 (List.mem_map.mpr ⟨q', hpm q' hq', rfl⟩)
      have k06 := k04.trans k46
      refine iteT (st_ifs ⟨.ref da, rfl, st_cons (moved_use (i := 3) rfl rfl rfl rfl rfl (t3.up k46) (hbd pl) (by omega) fun S qs H7 k7 pq up tq => ?_)⟩)
      have plq := (pl.perm pq).plan up (by have := pq.length_eq; simp at this; omega)
      have lq := plq.len
      refine ⟨.ref da, D, .ref S, _, rfl, hdt0.up (k06.trans k7), hD.ok, hD.b, hD.z, tq, (fun ds e => by cases e; rw [List.length_map]; exact lq), hT.kx (k06.trans k7), fun H8 k8 => ⟨_, _, rfl, rfl, _, rfl, ?_⟩⟩
      rw [plq.b]
      exact iteF (hN' _ _ ⟨rfl, k46.trans (k7.trans k8)⟩)
    · subst e
      dsimp only
      exact q H5 (k04.trans k5)
end
end Law

set_option Elab.async false
set_option linter.all false
set_option maxRecDepth 100000
set_option maxHeartbeats 8000000
namespace Law
open PySem PySem.Spec PyProof.Rows L2 GxR GX Tree Kit Data Loops Loops2 Loops3 Comps Purse Day SetG SetL Lit Sets Ib Small Obj EndG Enum Wipe
section
variable {P : Program} {w : World} {K : PySem.W.Frag} {mg : Str → Option Value} {base : Heap} {fa : String → Addr} {fd : String → FuncData} {ca ta : String → Addr}
theorem sqL_kx {H H' : Hp} {a : Addr} {xs : List V} (h : SqL K H a xs) (k : Kx [] H H') : SqL K H' a xs := by
  rcases h with (h | ⟨o, h⟩) | h
  · exact .inl (.inl (k.lst (by simp) h))
  · exact .inl (.inr ⟨o, k.at (by simp) h fun _ z => by cases z⟩)
  · exact .inr h
theorem kx_drop {p : Addr} {H H' H0 : Hp} (k0 : Kx [] H0 H) (hp : H0 p = none) (k : Kx [p] H H') : Kx [] H0 H' := Kx.weak (k0.of.trans k) fun b hb => .inr (by rw [List.mem_singleton.mp hb]; exact hp)
def isIn (qs : List Pass) (x : Pass) : Bool := qs.any fun z => samePass z x
theorem isIn_not {qs : List Pass} {x : Pass} (h : x ∉ qs) : isIn qs x = false := List.any_eq_false.mpr fun z hz e => h (same_iff.mp e ▸ hz)
theorem gain_split {D : Dy} : ∀ {qs ps : List Pass}, List.Sublist qs ps → ps.Nodup → gainL D qs + gainL D (ps.filter fun x => !isIn qs x) = gainL D ps
  | _, _, .slnil, _ => rfl
  | qs, _, .cons (l₂ := ps) a s, n => by
    have na : a ∉ ps := (List.nodup_cons.mp n).1
    have ih := gain_split (D := D) s (List.nodup_cons.mp n).2
    rw [List.filter_cons, if_pos (by rw [isIn_not fun z => na (s.subset z)]; rfl)]
    unfold gainL at ih ⊢
    rw [List.map_cons, List.map_cons, List.sum_cons, List.sum_cons]
    omega
  | _, _, .cons₂ (l₁ := qs) (l₂ := ps) a s, n => by
    have na : a ∉ ps := (List.nodup_cons.mp n).1
    have ih := gain_split (D := D) s (List.nodup_cons.mp n).2
    have e0 : isIn (a :: qs) a = true := List.any_eq_true.mpr ⟨a, by simp, same_self a⟩
    have e : ps.filter (fun x => !isIn (a :: qs) x) = ps.filter (fun x => !isIn qs x) := List.filter_congr fun x hx => by
      have : samePass a x = false := by
        rw [Bool.eq_false_iff]
        exact fun z => na (same_iff.mp z ▸ hx)
      show (!(samePass a x || isIn qs x)) = _
      rw [this, Bool.false_or]
    rw [List.filter_cons, if_neg (by rw [e0]; decide), e]
    unfold gainL at ih ⊢
    rw [List.map_cons, List.map_cons, List.sum_cons, List.sum_cons]
    omega
theorem Dr.nodup {D : Dy} {ps : List Pass} {h d : Int} (x : Dr D h d ps) : ps.Nodup := (List.pairwise_map.mp x.bk).imp fun n e => n (by rw [e])
def sp_law (K : PySem.W.Frag) (ta : String → Addr) : Sp := fun vs H Q _ => ∃ (a : Addr) (ns : List Int), vs = [.ref a] ∧ SqL K H a (ns.map V.int) ∧ ns.length ≤ 63 ∧ Tb (Ts ta) H ∧ ∀ H', Q (.bl true) H'
theorem ok_law (Y : Facts K mg base fa fd ca ta) {f : Addr} {fl : FuncData} (F : FunD K "law" "law" (defArgs s_law) (defBody s_law) (defScope s_law) [] [] f fl) (hm : ∃ o, base.get? sysModules = some o) : FnG P w K mg base 14 f fl ["script"] (sp_law K ta) := by
  refine fnG F sc_law (fun vs H Q E h => ?_) (fun cdv A outer s H vs Q E hg hcd hr h => ?_)
  · obtain ⟨a, ns, rfl, _⟩ := h; rfl
  · obtain ⟨a, ns, rfl, ha, hl, hT, q⟩ := h
    refine ⟨_, (pss_cons (ps_for PassesOwn.never rfl (pi_range1 (by rfl) Y.b.range (pa_cons (pe_callB (call_max2 rfl) (by rfl) Y.b.max (by decide +kernel) (pa_cons pe_int (pa_cons (pe_callB (call_min2 rfl) (by rfl) Y.b.min (by decide +kernel) (pa_cons pe_int (pa_cons (pe_callB (call_lenK K rfl) (by rfl) Y.b.len (by decide +kernel) (pa_cons (pv 0) pa_nil)) pa_nil))) pa_nil))) pa_nil)) (pg_name (i := 1) sc_law.nd rfl (by first | exact Or.inl rfl | exact Or.inr rfl)) (pss_cons (ps_set (i := 2) sc_law.nd rfl (by first | exact Or.inl rfl | exact Or.inr rfl) (pe_call (ok__law_purse Y) (hr.mono (by decide)) (by rfl) Y.d__law_purse.g Y.d__law_purse.kp Y.d__law_purse.b .nil pass0 (pa_cons (pv 0) (pa_cons (pv 1) pa_nil))))
      (pss_cons (ps_set (i := 3) sc_law.nd rfl (by first | exact Or.inl rfl | exact Or.inr rfl) (pe_call (ok__law_day Y) (hr.mono (by decide)) (by rfl) Y.d__law_day.g Y.d__law_day.kp Y.d__law_day.b .nil pass0 (pa_cons (pv 2) (pa_cons pe_int (pa_cons pe_int pa_nil)))))
      (pss_cons (ps_set (i := 4) sc_law.nd rfl (by first | exact Or.inl rfl | exact Or.inr rfl) (pe_call (ok__law_plan Y) (hr.mono (by decide)) (by rfl) Y.d__law_plan.g Y.d__law_plan.kp Y.d__law_plan.b .nil pass0 (pa_cons (pv 2) (pa_cons (pv 3) pa_nil))))
      (pss_cons (ps_set (i := 5) sc_law.nd rfl (by first | exact Or.inl rfl | exact Or.inr rfl) (pe_call (ok_gain_of Y) (hr.mono (by decide)) (by rfl) Y.d_gain_of.g Y.d_gain_of.kp Y.d_gain_of.b .nil pass0 (pa_cons (pv 3) (pa_cons (pv 4) pa_nil))))
      (pss_cons (ps_set (i := 6) sc_law.nd rfl (by first | exact Or.inl rfl | exact Or.inr rfl) (pe_lc (own := [("one", 13)]) (g := gName 13) rfl sc_law.nd (pi_listK K rfl (pv 4)) (blkOk_by (N := ["script", "k", "purse", "day", "plan", "whole", "some", "rest", "crafts", "dishes", "numbers", "other", "called", "one", "at", "hour", "dish", "craft", "number"]) (sc := defScope s_law) (by decide +kernel)) (fun _ _ _ _ _ => (pg_name (i := 13) sc_law.nd rfl (by first | exact Or.inl rfl | exact Or.inr rfl))) (fun _ _ _ _ _ => (pts_one (pt_cmpR op_eq (pe_call (ok__law_coin Y) (hr.mono (by decide)) (by rfl) Y.d__law_coin.g Y.d__law_coin.kp Y.d__law_coin.b .nil pass0 (pa_cons (pv 2) (pa_cons pe_int pa_nil))) pe_int (nomark _)))) (fun _ _ _ _ _ => (pv 13))))
      (pss_cons (ps_setLc (i := 7) (own := [("one", 13)]) (g := gName 13) rfl sc_law.nd rfl rfl (sw_true rfl rfl rfl (by decide +kernel)) (pi_listK K rfl (pv 4)) (blkOk_by (N := ["script", "k", "purse", "day", "plan", "whole", "some", "rest", "crafts", "dishes", "numbers", "other", "called", "one", "at", "hour", "dish", "craft", "number"]) (sc := defScope s_law) (by decide +kernel)) (fun _ _ _ _ _ => (pg_name (i := 13) sc_law.nd rfl (by first | exact Or.inl rfl | exact Or.inr rfl))) (fun _ _ _ _ _ => (pts_one (pt_cmpR (op_notInDK K rfl (Enum.units1 hr)) (pv 13) (pv 6) (by rfl)))) (fun _ _ _ _ _ => (pv 13)))
      (pss_cons (ps_if (pt_cmpR op_notBl (pe_call (ok_is_plan Y) (hr.mono (by decide)) (by rfl) Y.d_is_plan.g Y.d_is_plan.kp Y.d_is_plan.b .nil pass0 (pa_cons (pv 3) (pa_cons (pv 6) pa_nil))) pe_bl (nomark _)) (pss_one (ps_ret pe_bl)) pss_nil)
      (pss_cons (ps_if (pt_cmpR op_ne (pe_op op_add (pe_call (ok_gain_of Y) (hr.mono (by decide)) (by rfl) Y.d_gain_of.g Y.d_gain_of.kp Y.d_gain_of.b .nil pass0 (pa_cons (pv 3) (pa_cons (pv 6) pa_nil))) (pe_call (ok_gain_of Y) (hr.mono (by decide)) (by rfl) Y.d_gain_of.g Y.d_gain_of.kp Y.d_gain_of.b .nil pass0 (pa_cons (pv 3) (pa_cons (pv 7) pa_nil)))) (pv 5) (nomark _)) (pss_one (ps_ret pe_bl)) pss_nil)
      (pss_cons (ps_set (i := 8) sc_law.nd rfl (by first | exact Or.inl rfl | exact Or.inr rfl) (pe_call (ok__law_turned Y) (hr.mono (by decide)) (by rfl) Y.d__law_turned.g Y.d__law_turned.kp Y.d__law_turned.b .nil pass0 (pa_cons (pv 2) (pa_cons (pe_callB (call_lenK K rfl) (by rfl) Y.b.len (by decide +kernel) (pa_cons (pe_ix (ix_tupK K rfl) (pv 3) pe_int (fun _ _ => rfl)) pa_nil)) pa_nil))))
      (pss_cons (ps_set (i := 9) sc_law.nd rfl (by first | exact Or.inl rfl | exact Or.inr rfl) (pe_call (ok__law_turned Y) (hr.mono (by decide)) (by rfl) Y.d__law_turned.g Y.d__law_turned.kp Y.d__law_turned.b .nil pass0 (pa_cons (pv 2) (pa_cons (pe_callB (call_lenK K rfl) (by rfl) Y.b.len (by decide +kernel) (pa_cons (pe_ix (ix_tupK K rfl) (pv 3) pe_int (fun _ _ => rfl)) pa_nil)) pa_nil))))
      (pss_cons (ps_set (i := 10) sc_law.nd rfl (by first | exact Or.inl rfl | exact Or.inr rfl) (pe_call (ok__law_turned Y) (hr.mono (by decide)) (by rfl) Y.d__law_turned.g Y.d__law_turned.kp Y.d__law_turned.b .nil pass0 (pa_cons (pv 2) (pa_cons (pe_callB (call_lenK K rfl) (by rfl) Y.b.len (by decide +kernel) (pa_cons (pe_ix (ix_tupK K rfl) (pv 3) pe_int (fun _ _ => rfl)) pa_nil)) pa_nil))))
      (pss_cons (ps_set (i := 11) sc_law.nd rfl (by first | exact Or.inl rfl | exact Or.inr rfl) (pe_call (ok__law_named Y) (hr.mono (by decide)) (by rfl) Y.d__law_named.g Y.d__law_named.kp Y.d__law_named.b .nil pass0 (pa_cons (pv 3) (pa_cons (pv 8) (pa_cons (pv 9) (pa_cons (pv 10) pa_nil))))))
      (pss_cons (ps_setLc (i := 12) (own := [("hour", 15), ("dish", 16), ("craft", 17), ("number", 18)]) (tt := tYes) rfl sc_law.nd rfl rfl (sw_true rfl rfl rfl (by decide +kernel)) (pi_listK K rfl (pv 4)) (blkOk_by (N := ["script", "k", "purse", "day", "plan", "whole", "some", "rest", "crafts", "dishes", "numbers", "other", "called", "one", "at", "hour", "dish", "craft", "number"]) (sc := defScope s_law) (by decide +kernel)) (fun _ _ _ _ _ => (pg_tupK (n := 4) K rfl rfl (pgs_cons (pg_name (i := 15) sc_law.nd rfl (by first | exact Or.inl rfl | exact Or.inr rfl)) (pgs_cons (pg_name (i := 16) sc_law.nd rfl (by first | exact Or.inl rfl | exact Or.inr rfl)) (pgs_cons (pg_name (i := 17) sc_law.nd rfl (by first | exact Or.inl rfl | exact Or.inr rfl)) (pgs_cons (pg_name (i := 18) sc_law.nd rfl (by first | exact Or.inl rfl | exact Or.inr rfl)) pgs_nil)))))) (fun _ _ _ _ _ => pts_nil) (fun _ _ _ _ _ => (pe_tup (pa_cons (pv 15) (pa_cons (pe_ix (ix_listK K rfl) (pv 9) (pv 16) (fun _ _ => rfl)) (pa_cons (pe_ix (ix_listK K rfl) (pv 8) (pv 17) (fun _ _ => rfl)) (pa_cons (pe_ix (ix_listK K rfl) (pv 10) (pv 18) (fun _ _ => rfl)) pa_nil)))))))
      (pss_cons (ps_set (i := 12) sc_law.nd rfl (by first | exact Or.inl rfl | exact Or.inr rfl) (pe_callB (cr_sortTK K rfl) (by rfl) Y.b.sorted (by decide +kernel) (pa_cons (pv 12) pa_nil)))
      (pss_cons (ps_if ((pw_or (pt_cmpR op_notBl (pe_call (ok_is_plan Y) (hr.mono (by decide)) (by rfl) Y.d_is_plan.g Y.d_is_plan.kp Y.d_is_plan.b .nil pass0 (pa_cons (pv 11) (pa_cons (pv 12) pa_nil))) pe_bl (nomark _)) (pw_or1 (pt_cmpR op_ne (pe_call (ok_gain_of Y) (hr.mono (by decide)) (by rfl) Y.d_gain_of.g Y.d_gain_of.kp Y.d_gain_of.b .nil pass0 (pa_cons (pv 11) (pa_cons (pv 12) pa_nil))) (pv 5) (nomark _))))).pt (pss_one (ps_ret pe_bl)) pss_nil)
      (pss_cons (ps_for PassesOwn.never rfl (pi_listK K rfl (pe_call (ok__law_wider Y) (hr.mono (by decide)) (by rfl) Y.d__law_wider.g Y.d__law_wider.kp Y.d__law_wider.b .nil pass0 (pa_cons (pv 2) (pa_cons (pv 3) pa_nil)))) (pg_name (i := 13) sc_law.nd rfl (by first | exact Or.inl rfl | exact Or.inr rfl)) (pss_one (ps_if ((pw_or (pt_cmpR op_notBl (pe_call (ok_is_plan Y) (hr.mono (by decide)) (by rfl) Y.d_is_plan.g Y.d_is_plan.kp Y.d_is_plan.b .nil pass0 (pa_cons (pv 13) (pa_cons (pv 4) pa_nil))) pe_bl (nomark _)) (pw_or1 (pt_cmpR op_ne (pe_call (ok_gain_of Y) (hr.mono (by decide)) (by rfl) Y.d_gain_of.g Y.d_gain_of.kp Y.d_gain_of.b .nil pass0 (pa_cons (pv 13) (pa_cons (pv 4) pa_nil))) (pv 5) (nomark _))))).pt (pss_one (ps_ret pe_bl)) pss_nil)))
      (pss_cons (ps_set (i := 14) sc_law.nd rfl (by first | exact Or.inl rfl | exact Or.inr rfl) (pe_call (ok__law_coin Y) (hr.mono (by decide)) (by rfl) Y.d__law_coin.g Y.d__law_coin.kp Y.d__law_coin.b .nil pass0 (pa_cons (pv 2) (pa_cons (pe_callB (call_max2 rfl) (by rfl) Y.b.max (by decide +kernel) (pa_cons pe_int (pa_cons (pe_callB (call_lenK K rfl) (by rfl) Y.b.len (by decide +kernel) (pa_cons (pv 4) pa_nil)) pa_nil))) pa_nil))))
      (pss_one (ps_if ((pw_and (pt_cmpR (op_neNil hr.units0) (pv 4) (pe_lst pa_nil) (nomark _)) (pw_and1 (pt_not (pt_val (pe_call (ok__law_moved_right Y) (hr.mono (by decide)) (by rfl) Y.d__law_moved_right.g Y.d__law_moved_right.kp Y.d__law_moved_right.b .nil pass0 (pa_cons (pv 3) (pa_cons (pv 4) (pa_cons (pv 14) pa_nil))))))))).pt (pss_one (ps_ret pe_bl)) pss_nil))))))))))))))))))))
      (pss_one (ps_ret pe_bl))), ?_⟩
    refine st_seq (st_for ?_)
    refine ⟨.ref a, rfl, a, _, rfl, .inl ha, _, _, rfl, _, _, rfl, _, rfl, ?_, ?_, ?_⟩
    · split <;> omega
    · rw [List.length_map]
      split <;> (try split) <;> omega
    have hN : ∀ i : Nat, i < (if (if (((ns.map V.int).length : Nat) : Int) < 4 then (((ns.map V.int).length : Nat) : Int) else 4) > 1 then (if (((ns.map V.int).length : Nat) : Int) < 4 then (((ns.map V.int).length : Nat) : Int) else 4) else 1 : Int).toNat → i < 4 := fun i hi => by
      split at hi <;> (try split at hi) <;> omega
    generalize (if (if (((ns.map V.int).length : Nat) : Int) < 4 then (((ns.map V.int).length : Nat) : Int) else 4) > 1 then (if (((ns.map V.int).length : Nat) : Int) < 4 then (((ns.map V.int).length : Nat) : Int) else 4) else 1 : Int) = N0 at hN ⊢
    refine for_gen (itr_at N0.toNat) (B := []) (Iv := fun i σ' H' => ∃ y1 y2 y3 y4 y5 y6 y7 y8 y9 y10 y11 y12 y13 y14, σ' = [some (.ref a), y1, y2, y3, y4, y5, y6, y7, y8, y9, y10, y11, y12, y13, y14, none, none, none, none]) ⟨_, _, _, _, _, _, _, _, _, _, _, _, _, _, rfl⟩ (fun i σ' H1 hi k1 ⟨y1, y2, y3, y4, y5, y6, y7, y8, y9, y10, y11, y12, y13, y14, e⟩ Nn hNn => ?_) fun σ' H1 k1 ⟨y1, y2, y3, y4, y5, y6, y7, y8, y9, y10, y11, y12, y13, y14, e⟩ => ?_
    · subst e
      have hi4 := hN i hi
      refine st_name (st_seq ?_)
      refine ⟨.ref a, rfl, .int i, rfl, a, ns, i, rfl, sqL_kx ha k1, by omega, hl, fun p H2 k2 hp pu => ?_⟩
      have k12 := k1.trans k2
      have A2 : At (Ts ta) [p] p 0 H2 := ⟨fun c hc => by rw [List.mem_singleton.mp hc]; exact pu.ne, by simp, pu, hT.kx k12⟩
      refine ⟨.ref p, rfl, p, 0, [p], 10, 14, rfl, by decide, by decide, by decide, by decide, by decide, A2, fun v d H3 k3 A3 t3 g3 => ?_⟩
      obtain ⟨D, rfl, hD, dsm⟩ := day_typed (by decide) (by decide) g3
      obtain ⟨ad, xd, rfl, ed, td⟩ := t3.tupV
      refine st_name ?_
      dsimp only
      refine st_set ⟨.ref p, rfl, .ref ad, rfl, p, _, [p], .ref ad, D, rfl, by omega, A3, t3, hD.ok, fun Fp ps H4 k4 A4 t4 dr pl => ?_⟩
      have d4 := A3.tr t3 k4
      have l14 := dr.len
      have b14 := hD.ok.bl
      have hx := dr.plx pl
      refine st_set ⟨.ref ad, rfl, .ref Fp, rfl, .ref ad, D, Fp, ps, rfl, d4.nil, hD, t4.nil, pl, A4.tb, fun H5 k5 => ?_⟩
      have A5 := A4.kx k5
      have d5 := d4.up k5
      have p5 := t4.up k5
      -- some of them
      obtain ⟨xF, eF, tF⟩ := p5.items
      have lF := tF.length
      rw [List.length_map] at lF
      refine st_set (lc_use ?_)
      refine ⟨.ref Fp, rfl, Fp, rfl, ⟨xF, SqL.of eF⟩, ?_⟩
      refine lc_puX (C := [p]) (itl_at eF (A5.nepT p5)) (by omega) 1 (fun j d => d = passD (ps.getD j p0)) A5 (fun E' j H' hE hj kj Aj R R0 hR hR0 => ?_) fun Pa js es H6 k6 A6 t6 hm' hjs => ?_
      · obtain ⟨pv, epv, tpv⟩ := tF.get' (i := j) (d := passD (ps.getD j p0)) (by rw [List.getElem?_map, List.getElem?_eq_getElem (by omega), getD_at ps p0 (by omega)]; rfl)
        have exj : xF.getD j .non = pv := by rw [List.getD_eq_getElem?_getD, epv]; rfl
        rw [exj]
        refine ⟨rfl, .ref p, rfl, p, _, 2, _, rfl, by decide, by decide, by omega, Aj, fun r H'' r0 r1 k A => ⟨rfl, _, rfl, ite2 (fun _ => ?_) fun _ => hR0 H'' k (A.mono (by omega))⟩⟩
        exact ⟨_, rfl, hR _ _ H'' k (A.mono (by omega)) (Tr.kx (kj.trans k) (fun b hb => by rw [List.mem_singleton.mp hb]; simp) _ _ (avoid hE _ _ tpv)) rfl⟩
      have hes : es = (js.map fun j => ps.getD j p0).map passD := by rw [hm'.eq, List.map_map]; rfl
      have sub : List.Sublist (js.map fun j => ps.getD j p0) ps := part_sub ps p0 js hm'.rising (fun j hj => by have := hjs j hj; omega)
      subst hes
      generalize (js.map fun j => ps.getD j p0) = qs at sub t6 hm'
      clear hm' hjs
      have plq := dr.plan pl sub
      have drq := dr.sub sub
      have lqs := plq.len
      have d6 := A5.tr d5 k6
      have p6 := A5.tr p5 k6
      -- the others
      obtain ⟨xp6, ep6, tp6⟩ := p6.items
      refine st_set (lc_use ?_)
      refine ⟨.ref Fp, rfl, Fp, rfl, ⟨xp6, SqL.of ep6⟩, ?_⟩
      refine lc_filtC (C := [p]) (fun d => !isIn qs (passOf d)) A6.al ep6 tp6 (by rw [List.length_map]; unfold sizeLine; omega) (fun x d H7 hd t k7 R R0 hR hR0 => ?_) fun Re H7 k7 hRe t7 => ?_
      · obtain ⟨q', hq', rfl⟩ := List.mem_map.mp hd
        rw [passOf_D] at hR hR0
        refine ⟨rfl, x, rfl, .ref Pa, rfl, passD q', qs.map passD, tr_dp _ _ t rfl, tr_dp _ _ (t6.up k7) (canAll fun d hd => by obtain ⟨z, _, rfl⟩ := List.mem_map.mp hd; rfl), shaped_pass _, shaped_by (k := 2) (canAll fun d hd => by obtain ⟨z, _, rfl⟩ := List.mem_map.mp hd; rfl) (depAll fun d hd => by obtain ⟨z, _, rfl⟩ := List.mem_map.mp hd; exact Nat.le_refl _), _, rfl, ?_⟩
        rw [List.any_map]
        exact ite2 (fun c => ⟨x, rfl, hR c H7 (Kx.refl _)⟩) (fun c => hR0 (notE' c) H7 (Kx.refl _))
      rw [filter_passes ps fun x => !isIn qs x] at t7
      have subr : List.Sublist (ps.filter fun x => !isIn qs x) ps := List.filter_sublist
      have hsum := gain_split (D := D) sub dr.nodup
      generalize (ps.filter fun x => !isIn qs x) = rs at t7 subr hsum
      have plr := dr.plan pl subr
      have A7 := A6.kx k7
      have d7 := d6.up k7
      have p7 := p6.up k7
      have q7 := t6.up k7
      refine st_lit [some (.ref a), some (.int i), some (.ref p), some (.ref ad), some (.ref Fp), some (.int (gainL D ps)), some (.ref Pa), some (.ref Re), y8, y9, y10, y11, y12, y13, y14, none, none, none, none] rfl ?_
      refine st_seq (st_ifs ⟨.ref ad, rfl, .ref Pa, rfl, .ref ad, D, .ref Pa, _, rfl, d7.nil, hD.ok, hD.b, hD.z, q7.nil, (fun ds e => by cases e; rw [List.length_map]; exact lqs), A7.tb, fun H8 k8 => ⟨_, _, rfl, rfl, _, rfl, ?_⟩⟩)
      rw [plq.b]
      refine iteF (st_next ?_)
      dsimp only
      have A8 := A7.kx k8
      refine st_seq (st_ifs ⟨.ref ad, rfl, .ref Pa, rfl, .ref ad, D, Pa, qs, rfl, (d7.up k8).nil, hD, (q7.up k8).nil, plq, A8.tb, fun H9 k9 => ?_⟩)
      have A9 := A8.kx k9
      have k79 := k8.trans k9
      refine ⟨.ref ad, rfl, .ref Re, rfl, .ref ad, D, Re, rs, rfl, (d7.up k79).nil, hD, (t7.up k79).nil, plr, A9.tb, fun H10 k10 => ⟨_, _, rfl, rfl, _, rfl, rfl, _, rfl, ?_⟩⟩
      dsimp only
      rw [decide_eq_true (congrArg V.int hsum)]
      refine iteF (st_next ?_)
      dsimp only
      have A10 := A9.kx k10
      have d10 := (d7.up k79).up k10
      have p10 := (p7.up k79).up k10
      clear d7 q7 p7 t7 d6 t6 p6 tp6 d5 tF
      -- the numbers
      obtain ⟨_, dx, e, edx, tdx⟩ := d10.tupV
      cases e
      obtain ⟨w1, w2, w3, w4, w5, rfl, u1, u2, u3, u4, u5⟩ := TrAll.five tdx
      obtain ⟨aS, xS, rfl, eS, tS⟩ := u2.listV
      obtain ⟨aI, xI, rfl, eI, tI⟩ := u3.listV
      obtain ⟨aB, xB, rfl, eB, tB⟩ := u5.listV
      have lS := tS.length
      have lI := tI.length
      have lB := tB.length
      rw [List.length_map] at lS lI lB
      have s1 := hD.ok.s1
      have g1 := hD.ok.g1
      have npd : ad ∉ [p] := A10.nepT d10
      refine st_set ⟨.ref p, rfl, .ref ad, rfl, ad, _, 1, .ref aS, rfl, rfl, SqT.of edx, rfl, aS, xS, rfl, .inl (SqL.of eS), p, _, [p], D.stores.length, by rw [lS]; rfl, by omega, by omega, A10, fun C1 cs H11 k11 A11 n11 e11 m11 => ?_⟩
      have hc : Pm cs D.stores.length := ⟨m11⟩
      have B11 : At (Ts ta) [C1, p] p _ H11 := A11.cons (by rw [e11]; simp)
      have np1 : C1 ≠ p := fun z => A10.not n11 (by rw [z]; simp)
      dsimp only
      have d11 := A10.tr d10 k11
      have p11 := A10.tr p10 k11
      have edx11 := k11.tup npd edx
      have eI11 := k11.lst (A10.nepT u3) eI
      refine st_set ⟨.ref p, rfl, .ref ad, rfl, ad, _, 2, .ref aI, rfl, rfl, SqT.of edx11, rfl, aI, xI, rfl, .inl (SqL.of eI11), p, _, [p], D.sights.length, by rw [lI]; rfl, by omega, by omega, A11, fun C2 ds H12 k12' A12 n12 e12 m12 => ?_⟩
      have hd : Pm ds D.sights.length := ⟨m12⟩
      have np2 : C2 ≠ p := fun z => A11.not n12 (by rw [z]; simp)
      dsimp only
      have d12 := A11.tr d11 k12'
      have p12 := A11.tr p11 k12'
      have edx12 := k12'.tup npd edx11
      have eB12 := k12'.lst (A10.nepT u5) (k11.lst (A10.nepT u5) eB)
      have e11 := k12'.lst (by simpa using np1) e11
      refine st_set ⟨.ref p, rfl, .ref ad, rfl, ad, _, 4, .ref aB, rfl, rfl, SqT.of edx12, rfl, aB, xB, rfl, .inl (SqL.of eB12), p, _, [p], D.blocks.length, by rw [lB]; rfl, by omega, by omega, A12, fun C3 bs H13 k13 A13 n13 e13 m13 => ?_⟩
      have hb : Pm bs D.blocks.length := ⟨m13⟩
      have np3 : C3 ≠ p := fun z => A12.not n13 (by rw [z]; simp)
      dsimp only
      have d13 := A12.tr d12 k13
      have p13 := A12.tr p12 k13
      have e11 := k13.lst (by simpa using np1) e11
      have e12 := k13.lst (by simpa using np2) e12
      refine st_lit [some (.ref a), some (.int i), some (.ref p), some (.ref ad), some (.ref Fp), some (.int (gainL D ps)), some (.ref Pa), some (.ref Re), some (.ref C1), some (.ref C2), some (.ref C3), y11, y12, y13, y14, none, none, none, none] rfl ?_
      refine st_set ⟨.ref ad, rfl, .ref C1, rfl, .ref C2, rfl, .ref C3, rfl, [p], .ref ad, D, C1, C2, C3, cs, ds, bs, rfl, A13.al, d13, hD.ok, hc, hd, hb, e11, e12, e13, fun T H14 k14 t14 => ?_⟩
      have A14 := A13.kx k14
      have d14 := d13.up k14
      have p14 := p13.up k14
      have e11 := k14.lst (by simp) e11
      have e12 := k14.lst (by simp) e12
      have e13 := k14.lst (by simp) e13
      -- the passes, called otherwise
      obtain ⟨xp, ep, tp⟩ := p14.items
      refine st_set (lc_use ?_)
      refine ⟨.ref Fp, rfl, Fp, rfl, ⟨xp, SqL.of ep⟩, ?_⟩
      refine lc_mapC (C := [p]) (fun d => passD (ren cs ds bs (passOf d))) A14.al ep tp.nilB (by rw [List.length_map]; unfold sizeLine; omega) (fun D1 x d H15 hD1 al15 hd' tx k15 R hR => ?_) fun Cl H15 k15 hCl t15 => ?_
      · obtain ⟨q', hq', rfl⟩ := List.mem_map.mp hd'
        obtain ⟨ax, rfl, eax⟩ := pass_tr tx
        obtain ⟨a1, a2, a3, a4, -⟩ := passT_of (hx.ok q' hq')
        refine ⟨ax, _, rfl, SqT.of eax, rfl, _, _, rfl, _, _, rfl, _, _, rfl, _, _, rfl, rfl, wipe4 (by decide) (by decide) (by decide) (by decide), ?_⟩
        refine ⟨_, rfl, .ref C2, rfl, _, rfl, C2, _, q'.dish, _, rfl, rfl, SqL.of (k15.lst (by simp) e12), at_cs hd a2.1 (by omega), .ref C1, rfl, _, rfl, C1, _, q'.craft, _, rfl, rfl, SqL.of (k15.lst (by simp) e11), at_cs hc a3.1 (by omega), .ref C3, rfl, _, rfl, C3, _, q'.block, _, rfl, rfl, SqL.of (k15.lst (by simp) e13), at_cs hb a4.1 (by omega), len_ok, fun T' hT' => ?_⟩
        obtain ⟨m1, f1, g1⟩ := mk_tup al15 (ds := [.int q'.hour, .int (cAt ds q'.dish), .int (cAt cs q'.craft), .int (cAt bs q'.block)]) (.cons (.int _) (.cons (.int _) (.cons (.int _) (.cons (.int _) .nil)))) hT'
        exact hR _ _ m1 g1
      rw [List.map_map] at t15
      have t15 : Tr [p] H15 (.ref Cl) (.list ((ps.map (ren cs ds bs)).map passD)) := by rw [List.map_map]; exact t15
      have nok := named_ok hD.ok hc hd hb
      have nV := dayV_ok nok
      have nx := ren_plx hD.ok hc hd hb hx
      have A15 := A14.kx k15
      refine st_set (st_cb (st_cons (st_var rfl (st_nil (sort_use (C := [p]) A15.al t15 (fun z hz => pass_bd nok (nx.ok z hz)) (by rw [List.length_map]; omega) fun S cq H16 k16 hS pq up tq => ?_)))))
      have A16 := A15.kx k16
      have pn := (nx.perm pq).plan up (by rw [pq.length_eq, List.length_map]; omega)
      have lcq := pn.len
      have gn : gainL (nameD D cs ds bs) cq = gainL D ps := (gainL_perm pq).trans (ren_gain hD.ok hd hb hx.ok)
      have t16 := (t14.up k15).up k16
      refine st_lit [some (.ref a), some (.int i), some (.ref p), some (.ref ad), some (.ref Fp), some (.int (gainL D ps)), some (.ref Pa), some (.ref Re), some (.ref C1), some (.ref C2), some (.ref C3), some (.ref T), some (.ref S), y13, y14, none, none, none, none] rfl ?_
      refine st_seq (st_ifs ⟨.ref T, rfl, .ref S, rfl, .ref T, _, .ref S, _, rfl, t16.nil, nV.ok, nV.b, nV.z, tq.nil, (fun ds e => by cases e; rw [List.length_map]; exact lcq), A16.tb, fun H17 k17 => ⟨_, _, rfl, rfl, _, rfl, ?_⟩⟩)
      rw [pn.b]
      refine iteF ⟨.ref T, rfl, .ref S, rfl, .ref T, _, S, cq, rfl, (t16.up k17).nil, nV, (tq.up k17).nil, pn, (A16.kx k17).tb, fun H18 k18 => ⟨_, rfl, rfl, _, rfl, ?_⟩⟩
      rw [decide_eq_true (congrArg V.int gn)]
      refine iteF (st_next ?_)
      dsimp only
      have k1418 := k15.trans (k16.trans (k17.trans k18))
      have A18 := A14.kx k1418
      have d18 := d14.up k1418
      have p18 := p14.up k1418
      -- wider days
      refine st_seq (st_for ⟨.ref p, rfl, .ref ad, rfl, p, _, [p], .ref ad, D, rfl, by omega, A18, d18, hD.ok, fun Fw Ws H19 k19 A19 t19 hWs lWs => ?_⟩)
      obtain ⟨xw, ew, tw⟩ := t19.items
      have lw := tw.length
      rw [List.length_map] at lw
      have d19 := A18.tr d18 k19
      have p19 := A18.tr p18 k19
      refine ⟨Fw, rfl, ⟨xw, SqL.of ew⟩, ?_⟩
      refine for_gen (itl_at ew (by simp)) (B := []) (Iv := fun j σ' H' => ∃ z13, σ' = [some (.ref a), some (.int i), some (.ref p), some (.ref ad), some (.ref Fp), some (.int (gainL D ps)), some (.ref Pa), some (.ref Re), some (.ref C1), some (.ref C2), some (.ref C3), some (.ref T), some (.ref S), z13, y14, none, none, none, none])
        ⟨_, rfl⟩ (fun j σ' H20 hj k20 ⟨z13, e⟩ Nm hNm => ?_) fun σ' H20 k20 ⟨z13, e⟩ => ?_
      · subst e
        have hj' : j < Ws.length := by omega
        obtain ⟨wv, ewv, twv⟩ := tw.get' (i := j) (d := dayD Ws[j]) (by rw [List.getElem?_map, List.getElem?_eq_getElem hj']; rfl)
        rw [show xw.getD j .non = wv by rw [List.getD_eq_getElem?_getD, ewv]; rfl]
        have wd := hWs Ws[j] (List.getElem_mem hj')
        generalize Ws[j] = W at twv wd
        have wV := dayV_ok wd.ok
        have wp := wd.pl ps pl
        have A20 := A19.kx k20
        have l64 := pl.len
        refine st_name ?_
        dsimp only
        refine st_ifs ⟨wv, rfl, .ref Fp, rfl, wv, W, .ref Fp, _, rfl, (twv.up k20).nil, wV.ok, wV.b, wV.z, (p19.up k20).nil, (fun ds e => by cases e; rw [List.length_map]; exact l64), A20.tb, fun H21 k21 => ⟨_, _, rfl, rfl, _, rfl, ?_⟩⟩
        rw [wp.b]
        refine iteF ⟨wv, rfl, .ref Fp, rfl, wv, W, Fp, ps, rfl, (twv.up (k20.trans k21)).nil, wV, (p19.up (k20.trans k21)).nil, wp, (A20.kx k21).tb, fun H22 k22 => ⟨_, rfl, rfl, _, rfl, ?_⟩⟩
        rw [decide_eq_true (congrArg V.int (wd.ga ps pl))]
        exact iteF (hNm _ _ (k20.trans (k21.trans k22)) ⟨_, rfl⟩)
      subst e
      dsimp only
      have A20 := A19.kx k20
      have d20 := d19.up k20
      have p20 := p19.up k20
      obtain ⟨xq, eq, tq20⟩ := p20.items
      have lq := tq20.length
      rw [List.length_map] at lq
      -- a pass moved
      refine st_set ⟨.ref p, rfl, .ref Fp, rfl, Fp, xq, rfl, .inl (SqL.of eq), 1, _, rfl, p, _, (if (xq.length : Int) > 1 then (xq.length : Int) else 1), [p], rfl, by split <;> omega, by split <;> omega, by omega, A20, fun r H21 r0 r1 k21 A21 => ?_⟩
      have d21 := A20.tr d20 k21
      have p21 := A20.tr p20 k21
      have eq21 := k21.lst (A20.nepT p20) eq
      dsimp only
      refine st_lit [some (.ref a), some (.int i), some (.ref p), some (.ref ad), some (.ref Fp), some (.int (gainL D ps)), some (.ref Pa), some (.ref Re), some (.ref C1), some (.ref C2), some (.ref C3), some (.ref T), some (.ref S), z13, some (.int r), none, none, none, none] rfl ?_
      have kall : ∀ {H' : Hp}, Kx [] H21 H' → Kx [] H H' := fun k => by
        have e1 : Kx [p] H2 H7 := k3.trans (k4.trans (k5.of.trans (k6.trans k7.of)))
        have e2 : Kx [p] H7 H13 := (k8.trans (k9.trans k10)).of.trans (k11.trans (k12'.trans k13))
        have e3 : Kx [p] H13 H21 := (k14.trans k1418).of.trans (k19.trans (k20.of.trans k21))
        exact k1.trans (kx_drop k2 hp (e1.trans (e2.trans (e3.trans k.of))))
      have done : ∀ {H' : Hp} {z15 : Option V}, Kx [] H21 H' → Nn [some (.ref a), some (.int i), some (.ref p), some (.ref ad), some (.ref Fp), some (.int (gainL D ps)), some (.ref Pa), some (.ref Re), some (.ref C1), some (.ref C2), some (.ref C3), some (.ref T), some (.ref S), z13, some (.int r), none, none, none, none] H' := fun k => hNn _ _ (kall k) ⟨_, _, _, _, _, _, _, _, _, _, _, _, _, _, rfl⟩
      refine st_ifs ⟨.ref Fp, rfl, len_ok, fun N hN' => ?_⟩
      have k22 : Kx [] H21 (upd H21 N (.lst [])) := Kx.new hN'
      have eN : upd H21 N (.lst []) N = some (.lst []) := upd_same
      generalize upd H21 N (.lst []) = H22 at k22 eN ⊢
      refine ⟨Fp, N, xq, rfl, rfl, k22.lst (by simp) eq21, eN, _, rfl, ?_⟩
      cases hemp : xq.isEmpty with
      | true => exact iteF (iteF (done (z15 := none) k22))
      | false =>
        have hne : 0 < ps.length := by
          cases xq with
          | nil => cases hemp
          | cons _ _ => simp at lq; omega
        obtain ⟨m, rfl⟩ : ∃ m : Nat, r = (m : Int) := ⟨r.toNat, by omega⟩
        have hm : m < ps.length := by
          split at r1 <;> omega
        refine iteT ⟨.ref ad, rfl, .ref Fp, rfl, .int m, rfl, .ref ad, D, Fp, ps, m, rfl, (d21.up k22).nil, hD, (p21.up k22).nil, hx, hm, by omega, (A21.kx k22).tb, fun H23 k23 => ⟨_, rfl, ?_⟩⟩
        exact iteF (done (z15 := none) (k22.trans k23))
    · subst e
      dsimp only
      exact q H1
end
end Law

set_option Elab.async false
set_option linter.all false
set_option maxRecDepth 100000
set_option maxHeartbeats 0
namespace Law
open PySem PySem.Spec PyProof.Rows L2 GxR GX Tree Kit EndG
/-! ### the head -/
def dd_is_number : He.DefD := ⟨("is_number", none), "is_number", "is_number", defArgs s_is_number, defBody s_is_number, defScope s_is_number, [], []⟩
def dd_is_whole : He.DefD := ⟨("is_whole", none), "is_whole", "is_whole", defArgs s_is_whole, defBody s_is_whole, defScope s_is_whole, [], []⟩
def dd_is_list : He.DefD := ⟨("is_list", none), "is_list", "is_list", defArgs s_is_list, defBody s_is_list, defScope s_is_list, [], []⟩
def dd_is_tuple : He.DefD := ⟨("is_tuple", none), "is_tuple", "is_tuple", defArgs s_is_tuple, defBody s_is_tuple, defScope s_is_tuple, [], []⟩
def dd_rises : He.DefD := ⟨("rises", none), "rises", "rises", defArgs s_rises, defBody s_rises, defScope s_rises, [], []⟩
def dd_is_day : He.DefD := ⟨("is_day", none), "is_day", "is_day", defArgs s_is_day, defBody s_is_day, defScope s_is_day, [], []⟩
def dd__are_stores : He.DefD := ⟨("_are_stores", none), "_are_stores", "_are_stores", defArgs s__are_stores, defBody s__are_stores, defScope s__are_stores, [], []⟩
def dd__are_sights : He.DefD := ⟨("_are_sights", none), "_are_sights", "_are_sights", defArgs s__are_sights, defBody s__are_sights, defScope s__are_sights, [], []⟩
def dd__is_sight : He.DefD := ⟨("_is_sight", none), "_is_sight", "_is_sight", defArgs s__is_sight, defBody s__is_sight, defScope s__is_sight, [], []⟩
def dd__are_heard : He.DefD := ⟨("_are_heard", none), "_are_heard", "_are_heard", defArgs s__are_heard, defBody s__are_heard, defScope s__are_heard, [], []⟩
def dd__are_asks : He.DefD := ⟨("_are_asks", none), "_are_asks", "_are_asks", defArgs s__are_asks, defBody s__are_asks, defScope s__are_asks, [], []⟩
def dd__are_blocks : He.DefD := ⟨("_are_blocks", none), "_are_blocks", "_are_blocks", defArgs s__are_blocks, defBody s__are_blocks, defScope s__are_blocks, [], []⟩
def dd_is_block : He.DefD := ⟨("is_block", none), "is_block", "is_block", defArgs s_is_block, defBody s_is_block, defScope s_is_block, [], []⟩
def dd_need_day : He.DefD := ⟨("need_day", none), "need_day", "need_day", defArgs s_need_day, defBody s_need_day, defScope s_need_day, [], []⟩
def dd_is_plan : He.DefD := ⟨("is_plan", none), "is_plan", "is_plan", defArgs s_is_plan, defBody s_is_plan, defScope s_is_plan, [], []⟩
def dd__is_pass : He.DefD := ⟨("_is_pass", none), "_is_pass", "_is_pass", defArgs s__is_pass, defBody s__is_pass, defScope s__is_pass, [], []⟩
def dd_may_be_sent : He.DefD := ⟨("may_be_sent", none), "may_be_sent", "may_be_sent", defArgs s_may_be_sent, defBody s_may_be_sent, defScope s_may_be_sent, [], []⟩
def dd__clash_nowhere : He.DefD := ⟨("_clash_nowhere", none), "_clash_nowhere", "_clash_nowhere", defArgs s__clash_nowhere, defBody s__clash_nowhere, defScope s__clash_nowhere, [], []⟩
def dd__fit_stores : He.DefD := ⟨("_fit_stores", none), "_fit_stores", "_fit_stores", defArgs s__fit_stores, defBody s__fit_stores, defScope s__fit_stores, [], []⟩
def dd_kept_over : He.DefD := ⟨("kept_over", none), "kept_over", "kept_over", defArgs s_kept_over, defBody s_kept_over, defScope s_kept_over, [], []⟩
def dd_need_plan : He.DefD := ⟨("need_plan", none), "need_plan", "need_plan", defArgs s_need_plan, defBody s_need_plan, defScope s_need_plan, [], []⟩
def dd_gain_of : He.DefD := ⟨("gain_of", none), "gain_of", "gain_of", defArgs s_gain_of, defBody s_gain_of, defScope s_gain_of, [], []⟩
def dd_gain_of_passes : He.DefD := ⟨("gain_of_passes", none), "gain_of_passes", "gain_of_passes", defArgs s_gain_of_passes, defBody s_gain_of_passes, defScope s_gain_of_passes, [], []⟩
def dd__law_purse : He.DefD := ⟨("_law_purse", none), "_law_purse", "_law_purse", defArgs s__law_purse, defBody s__law_purse, defScope s__law_purse, [], []⟩
def dd__law_coin : He.DefD := ⟨("_law_coin", none), "_law_coin", "_law_coin", defArgs s__law_coin, defBody s__law_coin, defScope s__law_coin, [], []⟩
def dd__law_sight : He.DefD := ⟨("_law_sight", none), "_law_sight", "_law_sight", defArgs s__law_sight, defBody s__law_sight, defScope s__law_sight, [], []⟩
def dd__law_block : He.DefD := ⟨("_law_block", none), "_law_block", "_law_block", defArgs s__law_block, defBody s__law_block, defScope s__law_block, [], []⟩
def dd__law_day : He.DefD := ⟨("_law_day", none), "_law_day", "_law_day", defArgs s__law_day, defBody s__law_day, defScope s__law_day, [], []⟩
def dd__law_may : He.DefD := ⟨("_law_may", none), "_law_may", "_law_may", defArgs s__law_may, defBody s__law_may, defScope s__law_may, [], []⟩
def dd__law_passes : He.DefD := ⟨("_law_passes", none), "_law_passes", "_law_passes", defArgs s__law_passes, defBody s__law_passes, defScope s__law_passes, [], []⟩
def dd__law_over : He.DefD := ⟨("_law_over", none), "_law_over", "_law_over", defArgs s__law_over, defBody s__law_over, defScope s__law_over, [], []⟩
def dd__law_plan : He.DefD := ⟨("_law_plan", none), "_law_plan", "_law_plan", defArgs s__law_plan, defBody s__law_plan, defScope s__law_plan, [], []⟩
def dd__law_copy : He.DefD := ⟨("_law_copy", none), "_law_copy", "_law_copy", defArgs s__law_copy, defBody s__law_copy, defScope s__law_copy, [], []⟩
def dd__law_turned : He.DefD := ⟨("_law_turned", none), "_law_turned", "_law_turned", defArgs s__law_turned, defBody s__law_turned, defScope s__law_turned, [], []⟩
def dd__law_named : He.DefD := ⟨("_law_named", none), "_law_named", "_law_named", defArgs s__law_named, defBody s__law_named, defScope s__law_named, [], []⟩
def dd__law_wider : He.DefD := ⟨("_law_wider", none), "_law_wider", "_law_wider", defArgs s__law_wider, defBody s__law_wider, defScope s__law_wider, [], []⟩
def dd__law_moved_right : He.DefD := ⟨("_law_moved_right", none), "_law_moved_right", "_law_moved_right", defArgs s__law_moved_right, defBody s__law_moved_right, defScope s__law_moved_right, [], []⟩
def dd_law : He.DefD := ⟨("law", none), "law", "law", defArgs s_law, defBody s_law, defScope s_law, [], []⟩
def fns : List He.DefD := [dd_is_number, dd_is_whole, dd_is_list, dd_is_tuple, dd_rises, dd_is_day, dd__are_stores, dd__are_sights, dd__is_sight, dd__are_heard, dd__are_asks, dd__are_blocks, dd_is_block, dd_need_day, dd_is_plan, dd__is_pass, dd_may_be_sent, dd__clash_nowhere, dd__fit_stores, dd_kept_over, dd_need_plan, dd_gain_of, dd_gain_of_passes, dd__law_purse, dd__law_coin, dd__law_sight, dd__law_block, dd__law_day, dd__law_may, dd__law_passes, dd__law_over, dd__law_plan, dd__law_copy, dd__law_turned, dd__law_named, dd__law_wider, dd__law_moved_right, dd_law]
def fas : List He.Fa := [.glo "is_number", .glo "is_whole", .glo "is_list", .glo "is_tuple", .glo "rises", .glo "is_day", .glo "_are_stores", .glo "_are_sights", .glo "_is_sight", .glo "_are_heard", .glo "_are_asks", .glo "_are_blocks", .glo "is_block", .glo "need_day", .glo "is_plan", .glo "_is_pass", .glo "may_be_sent", .glo "_clash_nowhere", .glo "_fit_stores", .glo "kept_over", .glo "need_plan", .glo "gain_of", .glo "gain_of_passes", .glo "_law_purse", .glo "_law_coin", .glo "_law_sight", .glo "_law_block", .glo "_law_day", .glo "_law_may", .glo "_law_passes", .glo "_law_over", .glo "_law_plan", .glo "_law_copy", .glo "_law_turned", .glo "_law_named", .glo "_law_wider", .glo "_law_moved_right", .glo "law", .int "MOST_HOURS" 10, .int "MOST_CRAFT" 4, .int "MOST_STORE" 5, .int "MOST_DISHES" 3, .int "MOST_ASK" 999, .int "MOST_BLOCKS" 14, .int "MOST_HOUSE" 5, .int "MOST_WORTH" 9999, .free "len", .free "range", .free "isinstance", .free "int", .free "bool", .free "str", .free "list", .free "tuple", .free "set", .free "dict", .free "sorted", .free "repr", .free "max", .free "min", .free "sum", .free "all", .free "any"]
def tfs : List He.Defn := [("rises", none), ("_are_stores", none), ("_are_sights", none), ("_is_sight", none), ("_are_heard", none), ("_are_asks", none), ("_are_blocks", none), ("is_plan", none), ("_fit_stores", none)]
def looseN : List Str := (["SkyError", "NoDay", "NoPlan", "MOST_HOURS", "MOST_CRAFT", "MOST_STORE", "MOST_DISHES", "MOST_ASK", "MOST_BLOCKS", "MOST_HOUSE", "MOST_WORTH", "is_number", "is_whole", "is_list", "is_tuple", "rises", "is_day", "_are_stores", "_are_sights", "_is_sight", "_are_heard", "_are_asks", "_are_blocks", "is_block", "need_day", "is_plan", "_is_pass", "may_be_sent", "_clash_nowhere", "_fit_stores"] : List Str) ++ (["kept_over", "need_plan", "gain_of", "gain_of_passes", "_law_purse", "_law_coin", "_law_sight", "_law_block", "_law_day", "_law_may", "_law_passes", "_law_over", "_law_plan", "_law_copy", "_law_turned", "_law_named", "_law_wider", "_law_moved_right"] : List Str)
abbrev R : PySem.W.OpenRow := PySem.W.OpenLaw.row PySem.Challenge.rw_skyprices_k05_whole_plans_and_parts
def lawAt : Nat := 51
/-- sys.modules is a dict -/
def smB (g : Addr → Option Obj) : Bool := match g sysModules with
  | some o => decide (o.cls = .type "dict")
  | none => false
theorem smB_ok {h : Heap} (e : smB h.get? = true) : ∃ o, h.get? sysModules = some o ∧ o.cls = .type "dict" := by
  unfold smB at e
  cases q : h.get? sysModules with
  | none => rw [q] at e; cases e
  | some o => rw [q] at e; exact ⟨o, rfl, of_decide_eq_true e⟩
abbrev exT : PySem.W.Frag → Bool := fun K => true
def hookS (n : Nat) (fa : List He.Fa) (fn : List He.DefD) (tf : List He.Defn) : PySem.W.Hook where
  α := He.AlX × Bool
  obs := fun s => (He.obsX n fa fn [] tf exT s.heap.get?, smB s.heap.get?)
  val := fun w => (He.valX fn [] w, true)
  says := fun w h => (∃ K : PySem.W.Frag, K.In h ∧ He.SaysX fa fn [] tf exT w h K) ∧ ∃ o, h.get? sysModules = some o ∧ o.cls = .type "dict"
  of := fun _ _ e => ⟨⟨_, He.frT_in, He.saysX_of (congrArg (fun z : He.AlX × Bool => z.1) e)⟩, smB_ok (congrArg (fun z : He.AlX × Bool => z.2) e)⟩
  keeps := fun _ _ _ ⟨⟨K, hK, c⟩, o, e, c2⟩ k => ⟨⟨K, PySem.W.Frag.In.keeps hK k, ⟨c.t, c.more, c.hd, c.out, fun p hp => k _ _ (c.empty p hp)⟩⟩, o, k _ _ e, c2⟩
abbrev hk : PySem.W.Hook := hookS 4 fas fns tfs
def ob (s : PySem.W.SharedT) : He.AlX × Bool := (He.obsX 4 fas fns [] tfs exT (HandSHeadRun.getT s), smB (HandSHeadRun.getT s))
theorem ob_eq (s : PySem.W.SharedT) : ob s = hk.obs s.abs := by
  have e : HandSHeadRun.getT s = s.abs.heap.get? := funext (HandSHeadRun.getT_eq s)
  unfold ob
  rw [e]
  rfl
theorem run (w : World) : HandSHeadRun.RunEq R (PySem.W.view R.prog [lawAt]) hk ob 2000 looseN w := by
  intro os
  kernel_rfl
def fdOf (K : PySem.W.Frag) (d0 : FuncData) (x : String) : FuncData := match K.lookup (He.ga K x) with
  | some ⟨_, _, .func fd, _⟩ => fd
  | _ => d0
theorem fdOf_eq {K : PySem.W.Frag} {d0 : FuncData} {x : String} {q : Str} {pa : Arguments} {b : List Stmt} {sc : Scope} {fd : FuncData} (F : FunD K x q pa b sc [] [] (He.ga K x) fd) : fdOf K d0 x = fd := by
  obtain ⟨oc, od, dV, kV, doc, pm, an, cdv, ct, osl, rfl, lk, hcd, _, _⟩ := F.ex
  unfold fdOf
  rw [lk]
theorem code_at {K : PySem.W.Frag} {x : String} {q : Str} {pa : Arguments} {b : List Stmt} {sc : Scope} {fd : FuncData} (F : FunD K x q pa b sc [] [] (He.ga K x) fd) : fd.code = .ref (He.codeOf K (x, none)) := by
  obtain ⟨oc, od, dV, kV, doc, pm, an, cdv, ct, osl, rfl, lk, hcd, _, _⟩ := F.ex
  obtain ⟨c, rfl⟩ := He.codeIn_ref hcd
  rw [He.codeOf_eq (p := (x, none)) lk rfl]
theorem facts {w : World} {K : PySem.W.Frag} {h : Heap} {mg : Str → Option Value} (X : K.In h) (G : h.Ns mainGlobals mg) (c : He.SaysX fas fns [] tfs exT w h K) (d0 : FuncData) (base : Heap) (hB : ∀ p ∈ tfs.map (He.cT K), LamX.TabB base mg p.1 p.2) :
    Facts K mg base (fun x => He.ga K x) (fdOf K d0) (fun x => He.codeOf K (x, none)) (fun x => He.tabOf K (He.codeOf K (x, none))) := by
  have d := c.t.d
  obtain ⟨f_is_number, F_is_number⟩ := d.def_ 0 (d := dd_is_number) rfl
  obtain ⟨f_is_whole, F_is_whole⟩ := d.def_ 1 (d := dd_is_whole) rfl
  obtain ⟨f_is_list, F_is_list⟩ := d.def_ 2 (d := dd_is_list) rfl
  obtain ⟨f_is_tuple, F_is_tuple⟩ := d.def_ 3 (d := dd_is_tuple) rfl
  obtain ⟨f_rises, F_rises⟩ := d.def_ 4 (d := dd_rises) rfl
  obtain ⟨f_is_day, F_is_day⟩ := d.def_ 5 (d := dd_is_day) rfl
  obtain ⟨f__are_stores, F__are_stores⟩ := d.def_ 6 (d := dd__are_stores) rfl
  obtain ⟨f__are_sights, F__are_sights⟩ := d.def_ 7 (d := dd__are_sights) rfl
  obtain ⟨f__is_sight, F__is_sight⟩ := d.def_ 8 (d := dd__is_sight) rfl
  obtain ⟨f__are_heard, F__are_heard⟩ := d.def_ 9 (d := dd__are_heard) rfl
  obtain ⟨f__are_asks, F__are_asks⟩ := d.def_ 10 (d := dd__are_asks) rfl
  obtain ⟨f__are_blocks, F__are_blocks⟩ := d.def_ 11 (d := dd__are_blocks) rfl
  obtain ⟨f_is_block, F_is_block⟩ := d.def_ 12 (d := dd_is_block) rfl
  obtain ⟨f_need_day, F_need_day⟩ := d.def_ 13 (d := dd_need_day) rfl
  obtain ⟨f_is_plan, F_is_plan⟩ := d.def_ 14 (d := dd_is_plan) rfl
  obtain ⟨f__is_pass, F__is_pass⟩ := d.def_ 15 (d := dd__is_pass) rfl
  obtain ⟨f_may_be_sent, F_may_be_sent⟩ := d.def_ 16 (d := dd_may_be_sent) rfl
  obtain ⟨f__clash_nowhere, F__clash_nowhere⟩ := d.def_ 17 (d := dd__clash_nowhere) rfl
  obtain ⟨f__fit_stores, F__fit_stores⟩ := d.def_ 18 (d := dd__fit_stores) rfl
  obtain ⟨f_kept_over, F_kept_over⟩ := d.def_ 19 (d := dd_kept_over) rfl
  obtain ⟨f_need_plan, F_need_plan⟩ := d.def_ 20 (d := dd_need_plan) rfl
  obtain ⟨f_gain_of, F_gain_of⟩ := d.def_ 21 (d := dd_gain_of) rfl
  obtain ⟨f_gain_of_passes, F_gain_of_passes⟩ := d.def_ 22 (d := dd_gain_of_passes) rfl
  obtain ⟨f__law_purse, F__law_purse⟩ := d.def_ 23 (d := dd__law_purse) rfl
  obtain ⟨f__law_coin, F__law_coin⟩ := d.def_ 24 (d := dd__law_coin) rfl
  obtain ⟨f__law_sight, F__law_sight⟩ := d.def_ 25 (d := dd__law_sight) rfl
  obtain ⟨f__law_block, F__law_block⟩ := d.def_ 26 (d := dd__law_block) rfl
  obtain ⟨f__law_day, F__law_day⟩ := d.def_ 27 (d := dd__law_day) rfl
  obtain ⟨f__law_may, F__law_may⟩ := d.def_ 28 (d := dd__law_may) rfl
  obtain ⟨f__law_passes, F__law_passes⟩ := d.def_ 29 (d := dd__law_passes) rfl
  obtain ⟨f__law_over, F__law_over⟩ := d.def_ 30 (d := dd__law_over) rfl
  obtain ⟨f__law_plan, F__law_plan⟩ := d.def_ 31 (d := dd__law_plan) rfl
  obtain ⟨f__law_copy, F__law_copy⟩ := d.def_ 32 (d := dd__law_copy) rfl
  obtain ⟨f__law_turned, F__law_turned⟩ := d.def_ 33 (d := dd__law_turned) rfl
  obtain ⟨f__law_named, F__law_named⟩ := d.def_ 34 (d := dd__law_named) rfl
  obtain ⟨f__law_wider, F__law_wider⟩ := d.def_ 35 (d := dd__law_wider) rfl
  obtain ⟨f__law_moved_right, F__law_moved_right⟩ := d.def_ 36 (d := dd__law_moved_right) rfl
  obtain ⟨f_law, F_law⟩ := d.def_ 37 (d := dd_law) rfl
  refine ⟨?_,
    ?_,
    ?_,
    ?_,
    ?_,
    ?_,
    ?_,
    ?_,
    ?_,
    ?_,
    ?_,
    ?_,
    ?_,
    ?_,
    ?_,
    ?_,
    ?_,
    ?_,
    ?_,
    ?_,
    ?_,
    ?_,
    ?_,
    ?_,
    ?_,
    ?_,
    ?_,
    ?_,
    ?_,
    ?_,
    ?_,
    ?_,
    ?_,
    ?_,
    ?_,
    ?_,
    ?_,
    ?_,
    ?_,
    ?_,
    ?_,
    ?_,
    ?_,
    ?_,
    ?_,
    ?_,
    ?_,
    ?_,
    ?_,
    ?_,
    ?_,
    ?_,
    ?_,
    ?_,
    ?_⟩
  · exact ⟨He.free_ok X G (d.fact 46 (f := .free "len") rfl), He.free_ok X G (d.fact 47 (f := .free "range") rfl), He.free_ok X G (d.fact 48 (f := .free "isinstance") rfl), He.free_ok X G (d.fact 49 (f := .free "int") rfl), He.free_ok X G (d.fact 50 (f := .free "bool") rfl), He.free_ok X G (d.fact 51 (f := .free "str") rfl), He.free_ok X G (d.fact 52 (f := .free "list") rfl), He.free_ok X G (d.fact 53 (f := .free "tuple") rfl), He.free_ok X G (d.fact 54 (f := .free "set") rfl), He.free_ok X G (d.fact 55 (f := .free "dict") rfl), He.free_ok X G (d.fact 56 (f := .free "sorted") rfl), He.free_ok X G (d.fact 57 (f := .free "repr") rfl), He.free_ok X G (d.fact 58 (f := .free "max") rfl), He.free_ok X G (d.fact 59 (f := .free "min") rfl), He.free_ok X G (d.fact 60 (f := .free "sum") rfl), He.free_ok X G (d.fact 61 (f := .free "all") rfl), He.free_ok X G (d.fact 62 (f := .free "any") rfl)⟩
  · exact He.int_ok X G (d.fact 38 (f := .int "MOST_HOURS" 10) rfl)
  · exact He.int_ok X G (d.fact 39 (f := .int "MOST_CRAFT" 4) rfl)
  · exact He.int_ok X G (d.fact 40 (f := .int "MOST_STORE" 5) rfl)
  · exact He.int_ok X G (d.fact 41 (f := .int "MOST_DISHES" 3) rfl)
  · exact He.int_ok X G (d.fact 42 (f := .int "MOST_ASK" 999) rfl)
  · exact He.int_ok X G (d.fact 43 (f := .int "MOST_BLOCKS" 14) rfl)
  · exact He.int_ok X G (d.fact 44 (f := .int "MOST_HOUSE" 5) rfl)
  · exact He.int_ok X G (d.fact 45 (f := .int "MOST_WORTH" 9999) rfl)
  · rw [fdOf_eq F_is_number]
    exact ⟨F_is_number, He.glo_ok X G (d.fact 0 (f := .glo "is_number") rfl), FunD.bindsN F_is_number fun _ _ _ _ _ _ us hl => match us, hl with | [_], _ => rfl⟩
  · rw [fdOf_eq F_is_whole]
    exact ⟨F_is_whole, He.glo_ok X G (d.fact 1 (f := .glo "is_whole") rfl), FunD.bindsN F_is_whole fun _ _ _ _ _ _ us hl => match us, hl with | [_, _, _], _ => rfl⟩
  · rw [fdOf_eq F_is_list]
    exact ⟨F_is_list, He.glo_ok X G (d.fact 2 (f := .glo "is_list") rfl), FunD.bindsN F_is_list fun _ _ _ _ _ _ us hl => match us, hl with | [_, _, _], _ => rfl⟩
  · rw [fdOf_eq F_is_tuple]
    exact ⟨F_is_tuple, He.glo_ok X G (d.fact 3 (f := .glo "is_tuple") rfl), FunD.bindsN F_is_tuple fun _ _ _ _ _ _ us hl => match us, hl with | [_, _], _ => rfl⟩
  · rw [fdOf_eq F_rises]
    exact ⟨F_rises, He.glo_ok X G (d.fact 4 (f := .glo "rises") rfl), FunD.bindsN F_rises fun _ _ _ _ _ _ us hl => match us, hl with | [_], _ => rfl⟩
  · rw [fdOf_eq F_is_day]
    exact ⟨F_is_day, He.glo_ok X G (d.fact 5 (f := .glo "is_day") rfl), FunD.bindsN F_is_day fun _ _ _ _ _ _ us hl => match us, hl with | [_], _ => rfl⟩
  · rw [fdOf_eq F__are_stores]
    exact ⟨F__are_stores, He.glo_ok X G (d.fact 6 (f := .glo "_are_stores") rfl), FunD.bindsN F__are_stores fun _ _ _ _ _ _ us hl => match us, hl with | [_], _ => rfl⟩
  · rw [fdOf_eq F__are_sights]
    exact ⟨F__are_sights, He.glo_ok X G (d.fact 7 (f := .glo "_are_sights") rfl), FunD.bindsN F__are_sights fun _ _ _ _ _ _ us hl => match us, hl with | [_, _, _], _ => rfl⟩
  · rw [fdOf_eq F__is_sight]
    exact ⟨F__is_sight, He.glo_ok X G (d.fact 8 (f := .glo "_is_sight") rfl), FunD.bindsN F__is_sight fun _ _ _ _ _ _ us hl => match us, hl with | [_, _, _], _ => rfl⟩
  · rw [fdOf_eq F__are_heard]
    exact ⟨F__are_heard, He.glo_ok X G (d.fact 9 (f := .glo "_are_heard") rfl), FunD.bindsN F__are_heard fun _ _ _ _ _ _ us hl => match us, hl with | [_, _], _ => rfl⟩
  · rw [fdOf_eq F__are_asks]
    exact ⟨F__are_asks, He.glo_ok X G (d.fact 10 (f := .glo "_are_asks") rfl), FunD.bindsN F__are_asks fun _ _ _ _ _ _ us hl => match us, hl with | [_, _], _ => rfl⟩
  · rw [fdOf_eq F__are_blocks]
    exact ⟨F__are_blocks, He.glo_ok X G (d.fact 11 (f := .glo "_are_blocks") rfl), FunD.bindsN F__are_blocks fun _ _ _ _ _ _ us hl => match us, hl with | [_, _, _], _ => rfl⟩
  · rw [fdOf_eq F_is_block]
    exact ⟨F_is_block, He.glo_ok X G (d.fact 12 (f := .glo "is_block") rfl), FunD.bindsN F_is_block fun _ _ _ _ _ _ us hl => match us, hl with | [_, _, _], _ => rfl⟩
  · rw [fdOf_eq F_need_day]
    exact ⟨F_need_day, He.glo_ok X G (d.fact 13 (f := .glo "need_day") rfl), FunD.bindsN F_need_day fun _ _ _ _ _ _ us hl => match us, hl with | [_], _ => rfl⟩
  · rw [fdOf_eq F_is_plan]
    exact ⟨F_is_plan, He.glo_ok X G (d.fact 14 (f := .glo "is_plan") rfl), FunD.bindsN F_is_plan fun _ _ _ _ _ _ us hl => match us, hl with | [_, _], _ => rfl⟩
  · rw [fdOf_eq F__is_pass]
    exact ⟨F__is_pass, He.glo_ok X G (d.fact 15 (f := .glo "_is_pass") rfl), FunD.bindsN F__is_pass fun _ _ _ _ _ _ us hl => match us, hl with | [_, _], _ => rfl⟩
  · rw [fdOf_eq F_may_be_sent]
    exact ⟨F_may_be_sent, He.glo_ok X G (d.fact 16 (f := .glo "may_be_sent") rfl), FunD.bindsN F_may_be_sent fun _ _ _ _ _ _ us hl => match us, hl with | [_, _], _ => rfl⟩
  · rw [fdOf_eq F__clash_nowhere]
    exact ⟨F__clash_nowhere, He.glo_ok X G (d.fact 17 (f := .glo "_clash_nowhere") rfl), FunD.bindsN F__clash_nowhere fun _ _ _ _ _ _ us hl => match us, hl with | [_], _ => rfl⟩
  · rw [fdOf_eq F__fit_stores]
    exact ⟨F__fit_stores, He.glo_ok X G (d.fact 18 (f := .glo "_fit_stores") rfl), FunD.bindsN F__fit_stores fun _ _ _ _ _ _ us hl => match us, hl with | [_, _], _ => rfl⟩
  · rw [fdOf_eq F_kept_over]
    exact ⟨F_kept_over, He.glo_ok X G (d.fact 19 (f := .glo "kept_over") rfl), FunD.bindsN F_kept_over fun _ _ _ _ _ _ us hl => match us, hl with | [_, _, _, _], _ => rfl⟩
  · rw [fdOf_eq F_need_plan]
    exact ⟨F_need_plan, He.glo_ok X G (d.fact 20 (f := .glo "need_plan") rfl), FunD.bindsN F_need_plan fun _ _ _ _ _ _ us hl => match us, hl with | [_, _], _ => rfl⟩
  · rw [fdOf_eq F_gain_of]
    exact ⟨F_gain_of, He.glo_ok X G (d.fact 21 (f := .glo "gain_of") rfl), FunD.bindsN F_gain_of fun _ _ _ _ _ _ us hl => match us, hl with | [_, _], _ => rfl⟩
  · rw [fdOf_eq F_gain_of_passes]
    exact ⟨F_gain_of_passes, He.glo_ok X G (d.fact 22 (f := .glo "gain_of_passes") rfl), FunD.bindsN F_gain_of_passes fun _ _ _ _ _ _ us hl => match us, hl with | [_, _], _ => rfl⟩
  · rw [fdOf_eq F__law_purse]
    exact ⟨F__law_purse, He.glo_ok X G (d.fact 23 (f := .glo "_law_purse") rfl), FunD.bindsN F__law_purse fun _ _ _ _ _ _ us hl => match us, hl with | [_, _], _ => rfl⟩
  · rw [fdOf_eq F__law_coin]
    exact ⟨F__law_coin, He.glo_ok X G (d.fact 24 (f := .glo "_law_coin") rfl), FunD.bindsN F__law_coin fun _ _ _ _ _ _ us hl => match us, hl with | [_, _], _ => rfl⟩
  · rw [fdOf_eq F__law_sight]
    exact ⟨F__law_sight, He.glo_ok X G (d.fact 25 (f := .glo "_law_sight") rfl), FunD.bindsN F__law_sight fun _ _ _ _ _ _ us hl => match us, hl with | [_, _, _], _ => rfl⟩
  · rw [fdOf_eq F__law_block]
    exact ⟨F__law_block, He.glo_ok X G (d.fact 26 (f := .glo "_law_block") rfl), FunD.bindsN F__law_block fun _ _ _ _ _ _ us hl => match us, hl with | [_, _, _], _ => rfl⟩
  · rw [fdOf_eq F__law_day]
    exact ⟨F__law_day, He.glo_ok X G (d.fact 27 (f := .glo "_law_day") rfl), FunD.bindsN F__law_day fun _ _ _ _ _ _ us hl => match us, hl with | [_, _, _], _ => rfl⟩
  · rw [fdOf_eq F__law_may]
    exact ⟨F__law_may, He.glo_ok X G (d.fact 28 (f := .glo "_law_may") rfl), FunD.bindsN F__law_may fun _ _ _ _ _ _ us hl => match us, hl with | [_, _], _ => rfl⟩
  · rw [fdOf_eq F__law_passes]
    exact ⟨F__law_passes, He.glo_ok X G (d.fact 29 (f := .glo "_law_passes") rfl), FunD.bindsN F__law_passes fun _ _ _ _ _ _ us hl => match us, hl with | [_, _], _ => rfl⟩
  · rw [fdOf_eq F__law_over]
    exact ⟨F__law_over, He.glo_ok X G (d.fact 30 (f := .glo "_law_over") rfl), FunD.bindsN F__law_over fun _ _ _ _ _ _ us hl => match us, hl with | [_, _], _ => rfl⟩
  · rw [fdOf_eq F__law_plan]
    exact ⟨F__law_plan, He.glo_ok X G (d.fact 31 (f := .glo "_law_plan") rfl), FunD.bindsN F__law_plan fun _ _ _ _ _ _ us hl => match us, hl with | [_, _], _ => rfl⟩
  · rw [fdOf_eq F__law_copy]
    exact ⟨F__law_copy, He.glo_ok X G (d.fact 32 (f := .glo "_law_copy") rfl), FunD.bindsN F__law_copy fun _ _ _ _ _ _ us hl => match us, hl with | [_], _ => rfl⟩
  · rw [fdOf_eq F__law_turned]
    exact ⟨F__law_turned, He.glo_ok X G (d.fact 33 (f := .glo "_law_turned") rfl), FunD.bindsN F__law_turned fun _ _ _ _ _ _ us hl => match us, hl with | [_, _], _ => rfl⟩
  · rw [fdOf_eq F__law_named]
    exact ⟨F__law_named, He.glo_ok X G (d.fact 34 (f := .glo "_law_named") rfl), FunD.bindsN F__law_named fun _ _ _ _ _ _ us hl => match us, hl with | [_, _, _, _], _ => rfl⟩
  · rw [fdOf_eq F__law_wider]
    exact ⟨F__law_wider, He.glo_ok X G (d.fact 35 (f := .glo "_law_wider") rfl), FunD.bindsN F__law_wider fun _ _ _ _ _ _ us hl => match us, hl with | [_, _], _ => rfl⟩
  · rw [fdOf_eq F__law_moved_right]
    exact ⟨F__law_moved_right, He.glo_ok X G (d.fact 36 (f := .glo "_law_moved_right") rfl), FunD.bindsN F__law_moved_right fun _ _ _ _ _ _ us hl => match us, hl with | [_, _, _], _ => rfl⟩
  · rw [fdOf_eq F_rises]
    exact ⟨code_at F_rises, hB _ (List.mem_map.mpr ⟨("rises", none), by simp [tfs], rfl⟩)⟩
  · rw [fdOf_eq F__are_stores]
    exact ⟨code_at F__are_stores, hB _ (List.mem_map.mpr ⟨("_are_stores", none), by simp [tfs], rfl⟩)⟩
  · rw [fdOf_eq F__are_sights]
    exact ⟨code_at F__are_sights, hB _ (List.mem_map.mpr ⟨("_are_sights", none), by simp [tfs], rfl⟩)⟩
  · rw [fdOf_eq F__is_sight]
    exact ⟨code_at F__is_sight, hB _ (List.mem_map.mpr ⟨("_is_sight", none), by simp [tfs], rfl⟩)⟩
  · rw [fdOf_eq F__are_heard]
    exact ⟨code_at F__are_heard, hB _ (List.mem_map.mpr ⟨("_are_heard", none), by simp [tfs], rfl⟩)⟩
  · rw [fdOf_eq F__are_asks]
    exact ⟨code_at F__are_asks, hB _ (List.mem_map.mpr ⟨("_are_asks", none), by simp [tfs], rfl⟩)⟩
  · rw [fdOf_eq F__are_blocks]
    exact ⟨code_at F__are_blocks, hB _ (List.mem_map.mpr ⟨("_are_blocks", none), by simp [tfs], rfl⟩)⟩
  · rw [fdOf_eq F_is_plan]
    exact ⟨code_at F_is_plan, hB _ (List.mem_map.mpr ⟨("is_plan", none), by simp [tfs], rfl⟩)⟩
  · rw [fdOf_eq F__fit_stores]
    exact ⟨code_at F__fit_stores, hB _ (List.mem_map.mpr ⟨("_fit_stores", none), by simp [tfs], rfl⟩)⟩
theorem lawAtG_ok {w : World} {K : PySem.W.Frag} {h : Heap} {mg : Str → Option Value} {f : Addr} (X : K.In h) (G : h.Ns mainGlobals mg) (hf : mg ("law" : Str) = some (.ref f)) (c : He.SaysX fas fns [] tfs exT w h K) (hsm : ∃ o, h.get? sysModules = some o ∧ o.cls = .type "dict") :
    LawAtG PySem.Challenge.rw_skyprices_k05_whole_plans_and_parts w K 14 63 ("script" : Str) mg f h := by
  have d := c.t.d
  obtain ⟨fl, FL⟩ := d.def_ 37 (d := dd_law) rfl
  have e := hf.symm.trans (He.glo_ok X G (d.fact 37 (f := .glo "law") rfl))
  cases e
  refine ⟨fl, tfs.map (He.cT K), sp_law K (fun x => He.tabOf K (He.codeOf K (x, none))), fun p hp => ?_, fun p hp => ?_, fun p hp => ?_, hsm, fun s u => ?_, fun H a ns hn _ hH hS => ?_, fun base hB hN hT hs => ?_⟩
  · obtain ⟨q, hq, rfl⟩ := List.mem_map.mp hp
    exact c.empty q hq
  · obtain ⟨q, hq, rfl⟩ := List.mem_map.mp hp
    exact c.out q hq
  · obtain ⟨q, hq, rfl⟩ := List.mem_map.mp hp
    exact PySem.W.codeHd_of_K X (c.hd q hq)
  · exact FunD.bindsA (ps := ["script"]) FL (fun _ _ _ _ _ _ us hl => match us, hl with | [_], _ => rfl) s [u] rfl
  · refine ⟨a, ns, rfl, hS, hn, fun P hP => ?_, fun _ => rfl⟩
    have key : ∀ x : String, ((x : Str), (none : Option Str)) ∈ tfs → TabG H (He.tabOf K (He.codeOf K (x, none))) := fun x hx => ⟨#[], hH _ (List.mem_map.mpr ⟨_, hx, rfl⟩), by simp [TriplesOk]⟩
    simp only [Ts, List.mem_cons, List.not_mem_nil, or_false] at hP
    rcases hP with rfl | rfl | rfl | rfl | rfl | rfl | rfl | rfl | rfl
    · exact key "rises" (by simp [tfs])
    · exact key "_are_stores" (by simp [tfs])
    · exact key "_are_sights" (by simp [tfs])
    · exact key "_is_sight" (by simp [tfs])
    · exact key "_are_heard" (by simp [tfs])
    · exact key "_are_asks" (by simp [tfs])
    · exact key "_are_blocks" (by simp [tfs])
    · exact key "is_plan" (by simp [tfs])
    · exact key "_fit_stores" (by simp [tfs])
  · exact ok_law (facts X G c fl base hT) FL hs
end Law

set_option Elab.async false
open PySem PySem.W PySem.Calls PyProof.Rows
set_option maxRecDepth 100000 in
set_option maxHeartbeats 0 in
theorem PySem.Challenge.cw_skyprices_k05_whole_plans_and_parts_holds : PySem.Challenge.rw_skyprices_k05_whole_plans_and_parts.Holds := by
  w_on; o_law
  refine HandSHeadRun.head_any (r := OpenLaw.row PySem.Challenge.rw_skyprices_k05_whole_plans_and_parts) (q := view (OpenLaw.row PySem.Challenge.rw_skyprices_k05_whole_plans_and_parts).prog [Law.lawAt]) (H := Law.hk) (ob := Law.ob) (M := 2000) (loose := Law.looseN) (d := HandSHeadRun.topDef (OpenLaw.row PySem.Challenge.rw_skyprices_k05_whole_plans_and_parts).prog Law.lawAt) (kwd := []) Law.ob_eq
    (by kernel_rfl) (fun s => by kernel_rfl) Law.run (by kernel_rfl) (by kernel_rfl) (by kernel_rfl) (by rfl) (by first | assumption | decide +kernel) (by decide +kernel) ⟨rfl, rfl, rfl, rfl, rfl, by decide +kernel⟩ ?hw ?hc
  case hw => w_witness2
  case hc =>
    refine EndG.walk_ofG (l := PySem.Challenge.rw_skyprices_k05_whole_plans_and_parts) (n := 63) (k := 14) (x := "script") rfl (by decide) (by kernel_rfl) ⟨rfl, by decide, by decide⟩ ?F
    intro w mg fa h Y G hmg0
    obtain ⟨⟨K, KX, c⟩, hsm⟩ := Y
    have hmg : mg ("law" : PySem.Str) = some (.ref fa) := by
      have e : (HandSHeadRun.topDef (OpenLaw.row PySem.Challenge.rw_skyprices_k05_whole_plans_and_parts).prog Law.lawAt).name = ("law" : PySem.Str) := by kernel_rfl
      rw [← e]
      exact hmg0
    exact ⟨K, KX, Law.lawAtG_ok KX G hmg c hsm⟩
