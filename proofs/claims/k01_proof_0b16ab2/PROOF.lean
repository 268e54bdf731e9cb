import PyProof.Rows.All
import Wide.All
import OpenK.AllK
import Wide.FinOn
import PyProof.EqAt
import PyProof.EqKinds
import PyProof.TupleCall
import KE.KNest
import HandS.Base
import HandS.Call
import HandS.List
import HandS.Comp
import HandS.AnyAll
import HandS.Lambda
import HandS.GenList
import PyProof.ReprRoads
import HandS.ForMost
import HandS.Wide
import HandS.IsInst
import HandS.Words
import HandS.EndBits
import HandS.EndTab
import HandS.Defaults
import HandS.Style
import HandS.Conv
import HandS.TupAny
import HandS.Sort
import HandS.Strs
import HandS.SetFor
import PyProof.NeData
import PyProof.Rows.IntBool
import PyProof.CallStr
import PyProof.FitsInt
import PyProof.ReprLen
import PySem.Challenge.RW_skyprices_k01_what_is_a_day
import KE.KStateDown
import HandS.Head0
import HandS.Head1
import HandS.Head2
import HandS.HeadEnd
import HandS.HeadHook1
import HandS.HeadHook2
import HandS.HeadHook3
import HandS.HeadHook4
import HandS.HeadWalk
set_option Elab.async false
set_option linter.all false
set_option maxRecDepth 100000
set_option maxHeartbeats 2000000
/-! Gx: a generator expression over anything that PI serves, its element any expression of the layer (own calls too), drawn by all and any. -/
namespace GX
open PySem PySem.Spec PyProof.Rows L2 GxR GenW

/-- where the element runs -/
abbrev gA (A : Around) (cenv : Env) : Around := A.in1.in1.deeper cenv
abbrev gX (X : Cx) (s : Shared) (H : Hp) (cenv : Env) (fp : List Addr) (pn : List (Addr × Obj)) : Cx :=
  { X with A := gA X.A cenv, s_0 := s, H_0 := H, env := cenv, outer := X.stack, stack := cenv :: X.stack, ex := fp, fn := fun _ => false, pn := pn, xe := fun _ _ => False }
theorem over_loop0 {A : Around} {elt : Expr} {gs : List Comprehension} {scope : Scope} {pos : Pos} {it acc : Value} {cenv : Env} :
    A.over (.compLoop (.GeneratorExp elt gs scope pos) 0 it acc cenv) [] = A.deeper cenv := by
  first
    | rfl
    | (obtain ⟨hd, d, fr, gs, u⟩ := A; simp [Around.over, Around.deeper, marksOver, frameCount, unitsOf, envsOf, guardsOf, pushEnvs, pushGuards, Code.envs, Code.env?, Code.isFrame, Code.guards, Code.isGuard, Code.weight, Code.frames, Code.isCreation, Code.isCaller, Code.cUnits])
theorem over_start0 {A : Around} {elt : Expr} {gs : List Comprehension} {scope : Scope} {pos : Pos} {it acc : Value} {cenv : Env} :
    A.over (.compStart (.GeneratorExp elt gs scope pos) 0 it acc cenv) [] = A.deeper cenv := by
  first
    | rfl
    | (obtain ⟨hd, d, fr, gs, u⟩ := A; simp [Around.over, Around.deeper, marksOver, frameCount, unitsOf, envsOf, guardsOf, pushEnvs, pushGuards, Code.envs, Code.env?, Code.isFrame, Code.guards, Code.isGuard, Code.weight, Code.frames, Code.isCreation, Code.isCaller, Code.cUnits])
theorem room_gen {k : Nat} {A : Around} (r : Room (k + 1) A) (env : Env) : Room k (gA A env) :=
  ⟨r.hd, by have := r.dp; show A.depth + 1 + 3 * k + 5 < _; omega, by have := r.un; show A.units + 1 + 1 + 3 + 16 * k + 200 < _; omega⟩

/-- the generator expression's own scope, over the def's -/
structure GOk (N : List Str) (sc scope : Scope) (own : List (Str × Nat)) : Prop where
  blk : BlkOk N sc scope own
  co : scope.isCoroutine = false
  cell : ∀ y ∈ scope.names, y.2 ≠ .cell
  dot : scope.names.lookup (".0" : Str) = some NameKind.local
def gokC (N : List Str) (sc scope : Scope) (own : List (Str × Nat)) : Bool :=
  blkC N sc scope own && (!scope.isCoroutine && (scope.names.all (fun y => match y.2 with | .cell => false | _ => true) && (match scope.names.lookup (".0" : Str) with | some .local => true | _ => false)))
theorem gok_by {N : List Str} {sc scope : Scope} {own : List (Str × Nat)} (h : gokC N sc scope own = true) : GOk N sc scope own := by
  unfold gokC at h
  obtain ⟨h1, h2⟩ := Bool.and_eq_true_iff.mp h
  obtain ⟨h3, h4⟩ := Bool.and_eq_true_iff.mp h2
  obtain ⟨h5, h6⟩ := Bool.and_eq_true_iff.mp h4
  refine ⟨blkOk_by h1, by simpa using h3, fun y hy e => ?_, ?_⟩
  · have q := List.all_eq_true.mp h5 y hy
    rw [e] at q
    cases q
  · revert h6
    cases e : scope.names.lookup (".0" : Str) with
    | none => intro h6; cases h6
    | some k => cases k <;> intro h6 <;> first | rfl | cases h6

theorem cenv_cells {scope : Scope} {cl : List (Str × Addr)} {C : Addr} {code : Value} {bi : Addr} {env : Env} : (genEnv scope cl C code bi env).cells = cl := rfl

section
variable {X : Cx} {pins : List (Addr × Obj)} {σ : L2.St} {H : Hp} {s : Shared}
theorem Inv.keepS {s' : Shared} (I : Inv X pins σ H s) (os : s'.os = s.os) (k : ∀ b o, s.heap.get? b = some o → s'.heap.get? b = some o) (hg : AllBare s'.gens) : Inv X pins σ H s' :=
  I.call' (ch := []) os (Un.kept k) (I.hok.kept k) hg fun b hb => absurd hb (by simp)

/-- the generator's frame as it begins -/
theorem gx_start {scope : Scope} {own : List (Str × Nat)} {fp : List Addr} {code : Value} {a : Addr} {go : Obj} {s5 : Shared} (I : Inv X pins σ H s) (ok : GOk X.N X.env.scope scope own) (hN : X.N.Nodup) (hh : X.A.handled = none)
    (hfp : ∀ b ∈ fp, FpOk X pins H b ∧ b < s.heap.objs.size) (os : s5.os = s.os) (hb : AllBare s5.gens) (k : ∀ b o, s.heap.get? b = some o → s5.heap.get? b = some o)
    (hn : ∃ m, s5.heap.Ns s.heap.objs.size m) (ha : s.heap.objs.size < a) (hga : s5.heap.get? a = some go) (hgd : ∀ v, go.data ≠ .cell v) :
    Inv (gX X s H (genEnv scope (cloFrom X.env.cells scope.names []) s.heap.objs.size code builtinsNs X.env) fp [(a, go)]) [] (wipe σ (own.map (·.2))) H s5 := by
  have hfree : ∀ y ∈ scope.names, y.2 = .free → ∃ c, X.env.cells.lookup y.1 = some c := fun y hy e => by
    rcases ok.blk.free y hy e with k | k
    · exact I.ok.has _ (.inl k)
    · exact I.ok.has _ (.inr k)
  have cm : ∀ {y c}, (cloFrom X.env.cells scope.names []).lookup y = some c → X.env.cells.lookup y = some c ∧ c < s.heap.objs.size := fun {y c} e => by
    rcases cloFrom_mem (PySem.mem_of_lookup e) with hm | ⟨h1, rfl⟩
    · cases hm
    · obtain ⟨c, hc⟩ := hfree _ h1 rfl
      rw [hc]
      obtain ⟨w, z⟩ := I.cell _ _ hc
      exact ⟨rfl, z.lt⟩
  have look : ∀ {y}, scope.names.lookup y = some .free → ∃ c, (cloFrom X.env.cells scope.names []).lookup y = some c ∧ X.env.cells.lookup y = some c := fun {y} hl => by
    have hy : (y, NameKind.free) ∈ scope.names := PySem.mem_of_lookup hl
    obtain ⟨c', e'⟩ := mem_lookup (cloFrom_has (cells := X.env.cells) (acc := []) hy)
    exact ⟨c', e', (cm e').1⟩
  refine ⟨⟨I.ok.mod, ok.blk.kind, I.ok.glob, rfl, Nat.le_refl _, fun y z c e1 e2 => I.ok.inj y z c (cm e1).1 (cm e2).1, fun y hy => ?_, fun y c z _ => (by cases z), fun _ => hh, ?_, .inr ⟨rfl, rfl⟩, fun b hb => ⟨Nat.ne_of_lt (hfp b hb).2, fun y c e z => ?_⟩, I.bs, Nat.le_trans I.ok.bsz I.sz, fun b o e hb => ?_, fun b hb z => ?_, I.stack, I.stkFree⟩,
    os, hb, Un.kept k, ?_, fun y c e => ?_, ?_, fun y c e => ?_, fun p hp => ?_, I.hok.kept k, by rw [wipe_length]; exact I.len⟩
  · show ∃ c, (cloFrom X.env.cells scope.names []).lookup y = some c
    have hy : scope.names.lookup y = some .cell ∨ scope.names.lookup y = some .free := hy
    rcases hy with hy | hy
    · exact absurd rfl (ok.cell _ (PySem.mem_of_lookup hy))
    · obtain ⟨c, h1, _⟩ := look hy
      exact ⟨c, h1⟩
  · exact Around.frames_deeper I.ok.frames
  · have e : (cloFrom X.env.cells scope.names []).lookup y = some c := e
    exact (hfp b hb).1.2.2.2.2.1 y c (cm e).1 z
  · rcases (hfp b hb).1.2.2.2.1 with z | z
    · exact I.ok.noex b o e z
    · exact absurd (Nat.lt_of_lt_of_le (Heap.lt_size e) (Nat.le_trans I.ok.bsz z)) (Nat.lt_irrefl _)
  · rcases List.mem_cons.mp (I.stkSub b z) with z | z
    · exact (hfp b hb).1.2.1 z
    · exact (hfp b hb).1.2.2.1 z
  · obtain ⟨m, hn⟩ := hn
    refine ⟨m, hn, fun i y av e1 e2 e3 => ?_⟩
    obtain ⟨e2, hne⟩ := wipe_some e2
    have no : ¬ (scope.names.lookup y = some .local) := fun hh => by
      rcases ok.blk.own _ (PySem.mem_of_lookup hh) (.inl rfl) with e' | e'
      · obtain ⟨p, hp, hpy⟩ := List.mem_map.mp e'
        have e3 := ok.blk.ix p hp
        have : p.1 = y := hpy
        rw [this] at e3
        exact hne (List.mem_map.mpr ⟨p, hp, nodup_ix hN e3 e1⟩)
      · exact e' (List.mem_of_getElem? e1)
    have e3 : Vis scope y := e3
    have hfr : scope.names.lookup y = some .free := by
      rcases e3 with e3 | e3 | e3
      · exact absurd e3 no
      · exact absurd rfl (ok.cell _ (PySem.mem_of_lookup e3))
      · exact e3
    obtain ⟨m, hn, hl⟩ := I.loc
    have hvis : Vis X.env.scope y := (ok.blk.free _ (PySem.mem_of_lookup hfr) rfl).elim (fun k => .inr (.inl k)) (fun k => .inr (.inr k))
    obtain ⟨w, r, q⟩ := hl i y av e1 e2 hvis
    refine ⟨w, r, .inr ⟨.inr hfr, ?_⟩⟩
    obtain ⟨c, h1, h2⟩ := look hfr
    rcases q with ⟨k, _⟩ | ⟨_, c', e', z⟩
    · have k : X.env.scope.names.lookup y = some .local := k
      rcases ok.blk.free _ (PySem.mem_of_lookup hfr) rfl with k' | k' <;> rw [show X.env.scope.names.lookup y = _ from k'] at k <;> cases k
    · rw [h2] at e'; cases e'
      exact ⟨c, h1, z.keeps (by assumption)⟩
  · have e : (cloFrom X.env.cells scope.names []).lookup y = some c := e
    obtain ⟨w, z⟩ := I.cell y c (cm e).1
    exact ⟨w, z.keeps k⟩
  · exact I.hok.fresh (Nat.le_refl _)
  · have e : (cloFrom X.env.cells scope.names []).lookup y = some c := e
    exact I.freeC y c (cm e).1
  · have e : p = (a, go) := by simpa using hp
    subst e
    refine ⟨hga, I.hok.fresh (Nat.le_of_lt ha), Nat.ne_of_gt ha, fun z => ?_, hgd⟩
    rcases List.mem_cons.mp (I.stkSub a z) with z | z
    · have h1 := I.lt
      rw [← z] at h1
      exact absurd (Nat.lt_trans h1 ha) (Nat.lt_irrefl _)
    · exact I.nofs (Nat.le_of_lt ha) z
end

/-! ### the turns -/
section
variable {X : Cx} {s4 : Shared} {H4 : Hp} {cenv : Env} {fp : List Addr} {pn : List (Addr × Obj)} {σw : L2.St} {tg : Expr}
/-- the end: nothing more comes -/
def GRe (Xg : Cx) (σw : L2.St) (fp : List Addr) (Qe : Hp → Prop) : Shared → Prop := fun s => ∃ H, Inv Xg [] σw H s ∧ (∀ b ∈ fp, H b = none) ∧ Qe H
/-- y is handed out; N: what is to hold for the next draw -/
def GYe (Xg : Cx) (cons : V → Hp → Prop → Prop) : Protocol := fun _ _ v s kap => ∃ pins' σ' y H N, Inv Xg pins' σ' H s ∧ RelV y v ∧ cons y H N ∧
  ∀ s' : Shared, (∀ b o, s.heap.get? b = some o → s'.heap.get? b = some o) → s'.os = s.os → AllBare s'.gens → N → kap (.send .none) s'
/-- what is to be shown of the turns: W by the turn and a measure -/
def GTurns (J : It) (g : TG) (tt : TT) (te : TE) (vs : List Nat) (σ : L2.St) (W : Nat → Nat → Hp → Prop) (Qe : Hp → Prop) (cons : V → Hp → Prop → Prop) : Prop := ∀ i m H, W i m H →
  (J.stop i H ∧ Qe H) ∨ (J.go i H ∧ ∃ Nx : Hp → Prop, (∀ H', Nx H' → ∃ m', m' < m ∧ W (i + 1) m' H') ∧ ∀ x H', J.yld i H x H' → g x (wipe σ vs) H' fun σ2 H2 => wipe σ2 vs = wipe σ vs ∧ tt σ2 H2 fun b H3 =>
    if b = true then te σ2 H3 fun y H4 => cons y H4 (Nx H4) else Nx H3)
theorem gx_loop {elt iter : Expr} {ifs : List Expr} {scope : Scope} {pos : Pos} {it : Addr} {J : It} {tn : Nat → Heap → Prop} {g : TG} {tt : TT} {te : TE} {vs : List Nat} {σ : L2.St} {W : Nat → Nat → Hp → Prop} {Qe : Hp → Prop} {cons : V → Hp → Prop → Prop}
    (hc : X.calm = true) (hco : cenv.scope.isCoroutine = false) (T : Turn X.prog X.w X.K tg J fp it tn) (hg : PG (gX X s4 H4 cenv fp pn) tg g) (ht : PTs (gX X s4 H4 cenv fp pn) ifs tt) (he : PE (gX X s4 H4 cenv fp pn) elt te)
    (turn : GTurns J g tt te vs σ W Qe cons) (hpf : ∀ b ∈ fp, ∀ p ∈ pn, p.1 ≠ b) :
    ∀ (n m i : Nat) (s₀ s : Shared) (H : Hp), m < n → Inv (gX X s4 H4 cenv fp pn) [] (wipe σ vs) H s → tn i s.heap → (∀ b ∈ fp, H b = none) → W i m H →
      Seg (model X.prog X.w) X.A.in1.in1 (fun _ _ r s1 => r = .ok .next ∧ GRe (gX X s4 H4 cenv fp pn) (wipe σ vs) fp Qe s1) (GYe (gX X s4 H4 cenv fp pn) cons) n s₀
        (.compLoop (.GeneratorExp elt [⟨tg, iter, ifs, 0⟩] scope pos) 0 (.ref it) .none cenv)
        ((model X.prog X.w).den (.compLoop (.GeneratorExp elt [⟨tg, iter, ifs, 0⟩] scope pos) 0 (.ref it) .none cenv)) [] s := by
  have ov : X.A.in1.in1.over (.compLoop (.GeneratorExp elt [⟨tg, iter, ifs, 0⟩] scope pos) 0 (.ref it) .none cenv) [] = gA X.A cenv := over_loop0
  have stat : ∀ {σ' : L2.St} {H' : Hp} {s' : Shared}, Inv (gX X s4 H4 cenv fp pn) [] σ' H' s' → (∀ b ∈ fp, H' b = none) → ∀ b ∈ fp, FpOk (gX X s4 H4 cenv fp pn) [] H' b := fun {σ' H' s'} I' hn b hb =>
    ⟨hn b hb, (I'.ok.exf b hb).1, I'.ok.exfs b hb, .inl hb, fun x c e => (I'.ok.exf b hb).2 x c e, fun p hp' => hpf b hb p (by simpa using hp')⟩
  intro n
  induction n with
  | zero => intro m i s₀ s H hm; exact absurd hm (Nat.not_lt_zero _)
  | succ n ihn =>
    intro m
    induction m using Nat.strongRecOn with
    | ind m ihm =>
      intro i s₀ s H hm I st nf w
      show Seg _ X.A.in1.in1 _ _ _ s₀ _ ((compTurn (.GeneratorExp elt [⟨tg, iter, ifs, 0⟩] scope pos) 0 (.ref it) .none cenv).onRaise (leaving cenv)) [] s
      rw [compTurn_gen, Sem.onRaise_eq_wrap]
      refine seg_bind_wrap (wpAny_standAt ?_)
      refine seg_bind_wrap ?_
      rw [ov]
      rcases turn i m H w with ⟨stop, qe⟩ | ⟨go, Nx, hNx, step⟩
      · have td := T.done (gX X s4 H4 cenv fp pn) rfl rfl rfl hc i [] s _ H (fun _ _ => False) I (stat I nf) st stop
        refine thnF td fun r s6 ⟨hr, I6⟩ => ?_
        subst hr
        exact seg_end (.ok .next) ⟨rfl, H, I6, nf, qe⟩
      · have ti := T.item (gX X s4 H4 cenv fp pn) rfl rfl rfl hc i [] s _ H (fun _ _ => False) I (stat I nf) st go
        refine thnF ti fun r s6 ⟨u, hr, h6⟩ => ?_
        subst hr
        refine seg_bind_wrap ?_
        rw [ov]
        refine thnF h6 fun _ s7 ⟨x, H7, I7, r7, y7, st7, n7⟩ => ?_
        have I7' := I7.pinned (stat I7 n7) (T.obj _ _ st7)
        refine seg_bind_wrap ?_
        rw [ov]
        refine thnF (hg.run _ s7 _ H7 x u _ I7' r7 (step x H7 y7)) fun _ s8 ⟨σ8, H8, I8, hw8, q8⟩ => ?_
        refine seg_bind_wrap ?_
        rw [ov]
        refine thnF (ht.run _ s8 σ8 H8 _ I8 q8) fun b s9 ⟨H9, I9, q9⟩ => ?_
        -- the turn's end
        have fin : ∀ {s' : Shared} {H' : Hp}, Inv (gX X s4 H4 cenv fp pn) ([] ++ pinsAt fp s7.heap) σ8 H' s' → Nx H' → ∃ m', m' < m ∧ Inv (gX X s4 H4 cenv fp pn) [] (wipe σ vs) H' s' ∧ tn (i + 1) s'.heap ∧ (∀ b ∈ fp, H' b = none) ∧ W (i + 1) m' H' := fun {s' H'} I' nx => by
          obtain ⟨m', hm, w'⟩ := hNx H' nx
          have pin' : ∀ b ∈ fp, ∀ o, s7.heap.get? b = some o → s'.heap.get? b = some o ∧ H' b = none := fun b hb o e =>
            let z := I'.pin (b, o) (List.mem_append_right _ (List.mem_append_right _ (mem_pinsAt hb e)))
            ⟨z.1, z.2.1⟩
          have hl : (wipe σ vs).length = σ8.length := by rw [← hw8, wipe_length]
          refine ⟨m', hm, (I'.unpinned (pins := [])).weak hl (fun j v e => ?_), T.keep _ _ _ st7 fun b hb o e => (pin' b hb o e).1, fun b hb => ?_, w'⟩
          · rw [← hw8] at e
            exact (wipe_some e).1
          · obtain ⟨o, e, _⟩ := T.obj _ _ st7 b hb
            exact (pin' b hb o e).2
        cases b with
        | false =>
          simp only [Bool.false_eq_true, if_false] at q9 ⊢
          obtain ⟨m', hm', I', st', nf', w'⟩ := fin I9 q9
          exact seg_again rfl (ihm m' hm' (i + 1) s₀ s9 H9 (by omega) I' st' nf' w')
        | true =>
          simp only [if_true] at q9 ⊢
          have hy : ∀ v, yieldOut cenv v = yieldValue v := fun v => by simp only [yieldOut, hco, Bool.false_eq_true, if_false]
          simp only [hy]
          rw [Sem.bind_eq_wrap', Sem.bind_eq_wrap', Sem.wrap_wrap, Sem.wrap_wrap]
          refine seg_wrap ?_
          rw [ov]
          refine thnF (he.run _ s9 σ8 H9 _ I9 q9) fun z s10 ⟨yv, H10, I10, r10, c10⟩ => ?_
          refine seg_at (seg_yield rfl rfl rfl ⟨_, σ8, yv, H10, Nx H10, I10, r10, c10, fun s' k os hb nx => ?_⟩)
          obtain ⟨m', hm', I', st', nf', w'⟩ := fin (Inv.keepS I10 os k hb) nx
          exact seg_again rfl (ihn m' (i + 1) s' s' H10 (by omega) I' st' nf' w')
theorem gx_begin {elt iter : Expr} {ifs : List Expr} {scope : Scope} {pos : Pos} {it : Addr} {J : It} {tn : Nat → Heap → Prop} {g : TG} {tt : TT} {te : TE} {vs : List Nat} {σ : L2.St} {W : Nat → Nat → Hp → Prop} {Qe : Hp → Prop} {cons : V → Hp → Prop → Prop}
    (hc : X.calm = true) (hco : cenv.scope.isCoroutine = false) (T : Turn X.prog X.w X.K tg J fp it tn) (hg : PG (gX X s4 H4 cenv fp pn) tg g) (ht : PTs (gX X s4 H4 cenv fp pn) ifs tt) (he : PE (gX X s4 H4 cenv fp pn) elt te)
    (turn : GTurns J g tt te vs σ W Qe cons) (hpf : ∀ b ∈ fp, ∀ p ∈ pn, p.1 ≠ b) (n m : Nat) (s₀ s : Shared) (H : Hp) (hm : m < n) (I : Inv (gX X s4 H4 cenv fp pn) [] (wipe σ vs) H s) (st : tn 0 s.heap) (nf : ∀ b ∈ fp, H b = none) (w : W 0 m H) :
      Seg (model X.prog X.w) X.A.in1.in1 (fun _ _ r s1 => r = .ok .next ∧ GRe (gX X s4 H4 cenv fp pn) (wipe σ vs) fp Qe s1) (GYe (gX X s4 H4 cenv fp pn) cons) n s₀
        (.compStart (.GeneratorExp elt [⟨tg, iter, ifs, 0⟩] scope pos) 0 (.ref it) .none cenv)
        ((model X.prog X.w).den (.compStart (.GeneratorExp elt [⟨tg, iter, ifs, 0⟩] scope pos) 0 (.ref it) .none cenv)) [] s := by
  have loop := gx_loop (iter := iter) (scope := scope) (pos := pos) hc hco T hg ht he turn hpf n m 0 s₀ s H hm I st nf w
  show Seg _ X.A.in1.in1 _ _ _ s₀ _ ((compStart (.GeneratorExp elt [⟨tg, iter, ifs, 0⟩] scope pos) 0 (.ref it) .none cenv).onRaise (leaving cenv)) [] s
  unfold compStart
  rw [Sem.onRaise_eq_wrap]
  show Seg _ X.A.in1.in1 _ _ _ s₀ _ ((ask >>= _).wrap _ _ _ _) [] s
  refine seg_bind_wrap (wpAny_askSetting ?_)
  split
  · exact seg_again rfl loop
  · first
      | exact seg_bind_wrap (wpAny_rule (seg_bind_wrap (wpAny_standAt (seg_bind_wrap (T.self _ 0 s _ _ st (seg_again rfl loop))))))
      | (refine seg_bind_wrap (wpAny_rule ?_); show Seg _ X.A.in1.in1 _ _ _ s₀ _ ((standAt iter.pos >>= _).wrap _ _ _ _) [] s; exact seg_bind_wrap (wpAny_standAt (seg_bind_wrap (T.self _ 0 s _ _ st (seg_again rfl loop)))))

/-- the generator stands ready: drawn at X.A's third level -/
def GReady (X : Cx) (Xg : Cx) (σw : L2.St) (fp : List Addr) (Qe : Hp → Prop) (cons : V → Hp → Prop → Prop) (a : Addr) (g n : Nat) (s : Shared) : Prop :=
  s.heap.IsGen a g ∧ s.heap.NoLimit ∧ ∃ gs, s.gens[g]? = some gs ∧ gs.Goes (model X.prog X.w) X.A.in1.in1 (fun _ _ r s1 => r = .ok .next ∧ GRe Xg σw fp Qe s1) (GYe Xg cons) n (.send .none) (s.setGen g .running)
/-- the generator's own object is pinned -/
def GPin (Xg : Cx) (a : Addr) (g : Nat) : Prop := ∃ (go : Obj) (nm qn : Value), (a, go) ∈ Xg.pn ∧ go.cls = .type "generator" ∧ go.data = .fields #[.int g 0, nm, qn] ∧ go.slots = #[]
theorem GPin.is {Xg : Cx} {a : Addr} {g : Nat} (h : GPin Xg a g) {pins : List (Addr × Obj)} {σ : L2.St} {H : Hp} {s : Shared} (I : Inv Xg pins σ H s) : s.heap.IsGen a g := by
  obtain ⟨go, nm, qn, hm, h1, h2, h3⟩ := h
  exact ⟨go, nm, qn, (I.pin (a, go) (List.mem_append_left _ hm)).1, h1, h2, h3⟩
/-- one draw -/
theorem gx_next {Xg : Cx} {fp : List Addr} {Qe : Hp → Prop} {cons : V → Hp → Prop → Prop} {a : Addr} {g n : Nat} {s : Shared} {Q : Option Value → Shared → Prop} {E : Value → Shared → Prop} (hr : Room 1 X.A) (hp : GPin Xg a g)
    (h : GReady X Xg σw fp Qe cons a g n s)
    (hend : ∀ H s', Inv Xg [] σw H s' → (∀ b ∈ fp, H b = none) → Qe H → Q none s')
    (hitem : ∀ (pins' : List (Addr × Obj)) (σ' : L2.St) (y : V) (H : Hp) (N : Prop) (v : Value) (s' : Shared), Inv Xg pins' σ' H s' → RelV y v → cons y H N → (N → ∃ k, n = k + 1 ∧ GReady X Xg σw fp Qe cons a g k s') → Q (some v) s') :
    wpAny (model X.prog X.w) X.A.in1 (pyNext (.ref a)) Q E s := by
  obtain ⟨hg, hl, gs, hgs, hgo⟩ := h
  have hgl : g < s.gens.size := (Array.getElem?_eq_some_iff.mp hgs).1
  refine wpAny_gsz (n := g + 1) hgl (wpAny_pyNext_genexpQ (A := X.A.in1) (P := fun _ _ s1 => GRe Xg σw fp Qe s1) hr.hd hl hr.depth hg hgs hgo (fun v s₁ gs' hb hv => ?_) (fun s₁ hpe h' hk => ?_))
  · intro hsz
    obtain ⟨pins', σ', y, H, N, I, ry, c, kap⟩ := hv
    have hsz1 : g < s₁.gens.size := by
      have q : (s₁.setGen g gs').gens.size = s₁.gens.size := setGen_size _ _ _
      have hsz' : g + 1 ≤ (s₁.setGen g gs').gens.size := hsz
      omega
    have hbare : AllBare (s₁.setGen g gs').gens := allBare_setGen I.bare hb
    have I2 : Inv Xg pins' σ' H (s₁.setGen g gs') := Inv.keepS I rfl (fun _ _ e => e) hbare
    refine hitem pins' σ' y H N v _ I2 ry c fun hN => ?_
    cases n with
    | zero => exact False.elim (kap s₁ (fun _ _ e => e) rfl I.bare hN)
    | succ k =>
      refine ⟨k, rfl, hp.is I2, I2.nolimit, gs', setGen_at hsz1, ?_⟩
      exact kap _ (fun _ _ e => e) rfl (allBare_setGen hbare rfl) hN
  · intro _
    obtain ⟨H, I, nf, qe⟩ := hpe
    exact hend H _ (Inv.keepS I rfl hk (allBare_setGen I.bare rfl)) nf qe
end

/-! ### all, any -/
section
variable {X : Cx}
def consAll (Q : Bool → Hp → Prop) : V → Hp → Prop → Prop := fun y H N => ∃ b, y = .bl b ∧ if b = true then N else Q false H
def consAny (Q : Bool → Hp → Prop) : V → Hp → Prop → Prop := fun y H N => ∃ b, y = .bl b ∧ if b = true then Q true H else N
theorem all_loop {Xg : Cx} {fp : List Addr} {Q : Bool → Hp → Prop} {a : Addr} {g : Nat} {σw : L2.St} {R : Result → Shared → Prop} (hr : Room 1 X.A) (hp : GPin Xg a g)
    (hR : ∀ b pins' σ' H s', Inv Xg pins' σ' H s' → Q b H → R (.ok (.ret (.bool b))) s') :
    ∀ (n : Nat) (s : Shared), GReady X Xg σw fp (Q true) (consAll Q) a g n s → codeAny (model X.prog X.w) X.A (.builtin "all.loop" ⟨[.ref a], []⟩) R s := by
  intro n
  induction n with
  | zero =>
    intro s h
    refine codeAny_builtin F.entry_all_loop ?_
    rw [Around.under_plainId F.plain_all_loop _]
    show wpAny _ X.A.in1 (pyNext (.ref a) >>= _) _ _ s
    refine wpAny_bind (gx_next hr hp h (fun H s' I nf qe => ?_) fun pins' σ' y H N v s' I ry c nx => ?_)
    · exact wpAny_bind (wpAny_rule (wpAny_pure (hR true _ _ H _ I qe)))
    · obtain ⟨b, rfl, c⟩ := c
      obtain rfl : v = Value.bool b := ry
      refine wpAny_bind (wpAny_holding (wpAny_truthy_bool ?_))
      refine wpAny_bind (wpAny_letGo ?_)
      cases b with
      | true =>
        simp only [if_true] at c ⊢
        obtain ⟨k, e, _⟩ := nx c
        cases e
      | false =>
        simp only [Bool.false_eq_true, if_false] at c ⊢
        exact wpAny_bind (wpAny_rule (wpAny_pure (hR false _ _ H _ I c)))
  | succ n ih =>
    intro s h
    refine codeAny_builtin F.entry_all_loop ?_
    rw [Around.under_plainId F.plain_all_loop _]
    show wpAny _ X.A.in1 (pyNext (.ref a) >>= _) _ _ s
    refine wpAny_bind (gx_next hr hp h (fun H s' I nf qe => ?_) fun pins' σ' y H N v s' I ry c nx => ?_)
    · exact wpAny_bind (wpAny_rule (wpAny_pure (hR true _ _ H _ I qe)))
    · obtain ⟨b, rfl, c⟩ := c
      obtain rfl : v = Value.bool b := ry
      refine wpAny_bind (wpAny_holding (wpAny_truthy_bool ?_))
      refine wpAny_bind (wpAny_letGo ?_)
      cases b with
      | true =>
        simp only [if_true] at c ⊢
        obtain ⟨k, e, h'⟩ := nx c
        cases e
        exact wpAny_pure ⟨plainId_quiet F.plain_all_loop _, ih s' h'⟩
      | false =>
        simp only [Bool.false_eq_true, if_false] at c ⊢
        exact wpAny_bind (wpAny_rule (wpAny_pure (hR false _ _ H _ I c)))
theorem any_loop {Xg : Cx} {fp : List Addr} {Q : Bool → Hp → Prop} {a : Addr} {g : Nat} {σw : L2.St} {R : Result → Shared → Prop} (hr : Room 1 X.A) (hp : GPin Xg a g)
    (hR : ∀ b pins' σ' H s', Inv Xg pins' σ' H s' → Q b H → R (.ok (.ret (.bool b))) s') :
    ∀ (n : Nat) (s : Shared), GReady X Xg σw fp (Q false) (consAny Q) a g n s → codeAny (model X.prog X.w) X.A (.builtin "any.loop" ⟨[.ref a], []⟩) R s := by
  intro n
  induction n with
  | zero =>
    intro s h
    refine codeAny_builtin F.entry_any_loop ?_
    rw [Around.under_plainId F.plain_any_loop _]
    show wpAny _ X.A.in1 (pyNext (.ref a) >>= _) _ _ s
    refine wpAny_bind (gx_next hr hp h (fun H s' I nf qe => ?_) fun pins' σ' y H N v s' I ry c nx => ?_)
    · exact wpAny_bind (wpAny_rule (wpAny_pure (hR false _ _ H _ I qe)))
    · obtain ⟨b, rfl, c⟩ := c
      obtain rfl : v = Value.bool b := ry
      refine wpAny_bind (wpAny_holding (wpAny_truthy_bool ?_))
      refine wpAny_bind (wpAny_letGo ?_)
      cases b with
      | false =>
        simp only [Bool.false_eq_true, if_false] at c ⊢
        obtain ⟨k, e, _⟩ := nx c
        cases e
      | true =>
        simp only [if_true] at c ⊢
        exact wpAny_bind (wpAny_rule (wpAny_pure (hR true _ _ H _ I c)))
  | succ n ih =>
    intro s h
    refine codeAny_builtin F.entry_any_loop ?_
    rw [Around.under_plainId F.plain_any_loop _]
    show wpAny _ X.A.in1 (pyNext (.ref a) >>= _) _ _ s
    refine wpAny_bind (gx_next hr hp h (fun H s' I nf qe => ?_) fun pins' σ' y H N v s' I ry c nx => ?_)
    · exact wpAny_bind (wpAny_rule (wpAny_pure (hR false _ _ H _ I qe)))
    · obtain ⟨b, rfl, c⟩ := c
      obtain rfl : v = Value.bool b := ry
      refine wpAny_bind (wpAny_holding (wpAny_truthy_bool ?_))
      refine wpAny_bind (wpAny_letGo ?_)
      cases b with
      | false =>
        simp only [Bool.false_eq_true, if_false] at c ⊢
        obtain ⟨k, e, h'⟩ := nx c
        cases e
        exact wpAny_pure ⟨plainId_quiet F.plain_any_loop _, ih s' h'⟩
      | true =>
        simp only [if_true] at c ⊢
        exact wpAny_bind (wpAny_rule (wpAny_pure (hR true _ _ H _ I c)))
end

/-! ### the making -/
section
variable {X : Cx} {pins : List (Addr × Obj)} {σ : L2.St} {H : Hp} {s : Shared}
/-- the generator expression's frame, whatever it captures -/
abbrev gE (X : Cx) (scope : Scope) (cl : List (Str × Addr)) (C : Addr) (code : Value) : Env := genEnv scope cl C code builtinsNs X.env
theorem gx_make {c P : Addr} {elt tg iter : Expr} {ifs : List Expr} {scope : Scope} {own : List (Str × Nat)} {gpos : Pos} {wi : TI} {g : TG} {tt : TT} {te : TE} {Qe : Hp → Prop} {cons : V → Hp → Prop → Prop} {Q' : Value → Shared → Prop}
    (hr : Room 1 X.A) (hc : X.calm = true) (hN : X.N.Nodup) (TB : LamX.TabB X.base X.mg c P) (hcode : X.env.code = .ref c) (ok : GOk X.N X.env.scope scope own) (hi : PI X tg iter wi)
    (hg : ∀ (s : Shared) (H : Hp) (C : Addr) (cl : List (Str × Addr)) (code : Value) (fp : List Addr) (pn : List (Addr × Obj)), PG (gX X s H (gE X scope cl C code) fp pn) tg g)
    (ht : ∀ (s : Shared) (H : Hp) (C : Addr) (cl : List (Str × Addr)) (code : Value) (fp : List Addr) (pn : List (Addr × Obj)), PTs (gX X s H (gE X scope cl C code) fp pn) ifs tt)
    (he : ∀ (s : Shared) (H : Hp) (C : Addr) (cl : List (Str × Addr)) (code : Value) (fp : List Addr) (pn : List (Addr × Obj)), PE (gX X s H (gE X scope cl C code) fp pn) elt te)
    (hs : ∀ v, genFold iter X.env v = pure v) (I : Inv X pins σ H s)
    (h : wi σ H fun J H1 => TabG H1 P ∧ ∀ H2, Tabbed P H1 H2 → ∃ W : Nat → Nat → Hp → Prop, (∃ m, W 0 m H2) ∧ GTurns J g tt te (own.map (·.2)) σ W Qe cons)
    (hQ : ∀ Xg fp a g n s5, GPin Xg a g → GReady X Xg (wipe σ (own.map (·.2))) fp Qe cons a g n s5 → (∀ pins' σ' H' s', Inv Xg pins' σ' H' s' → Inv X pins σ H' s') → Q' (.ref a) s5) :
    wpAny (model X.prog X.w) X.A (eval (.GeneratorExp elt [⟨tg, iter, ifs, 0⟩] scope gpos) X.env) Q' X.xe s := by
  have hfree : ∀ y ∈ scope.names, y.2 = .free → ∃ c, X.env.cells.lookup y.1 = some c := fun y hy e => by
    rcases ok.blk.free y hy e with k | k
    · exact I.ok.has _ (.inl k)
    · exact I.ok.has _ (.inr k)
  refine wpAny_GeneratorExp_make ok.co (closure_ok hfree) ok.cell ok.dot ok.blk.kind hr.depth ?_ hs
  refine thn (hi.run pins s σ H _ I h) fun xv s1 hx => thn hx fun itv s2 h2 => ?_
  obtain ⟨it, fp, tn, J, H2, rfl, I2, T, st2, f2, ⟨ps, hP, htr⟩, q2⟩ := h2
  have hPs : s2.heap.get? P = some { cls := .none, data := .fields ps } := I2.hok P _ hP
  have hPlt : P < s2.heap.objs.size := Heap.lt_size hPs
  have cd : PySem.W.CodeHd s2.heap c P := TB.code.keeps fun b u e => I2.bk b u e
  have lim2 : s2.heap.NoLimit := I2.nolimit
  have sz : ∀ b ∈ fp, b < s2.heap.objs.size := fun b hb => by
    obtain ⟨o, e, _⟩ := T.obj _ _ st2 b hb
    exact Heap.lt_size e
  have Pfp : ∀ b ∈ fp, b ≠ P := fun b hb e => by
    have z := (f2 b hb).1
    rw [e, hP] at z
    cases z
  have cont : ∀ (code : Value) (h3 : Heap) (tk : Nat) (ps' : Array Value), Heap.ExtBut P s2.heap h3 → s2.heap.objs.size ≤ h3.objs.size → h3.get? P = some { cls := .none, data := .fields ps' } → (∃ more, ps' = ps ++ more) → TriplesOk ps'.toList →
      wpAny (model X.prog X.w) X.A (builtinsFor X.env.globals X.env.builtins) (fun bi s₄ =>
        ∀ h', h'.Ns s₄.heap.objs.size (fun y => if y = ".0" then some (Value.ref it) else none) → Heap.SameBut s₄.heap.objs.size (s₄.heap.push { cls := .type "frame", data := .dict #[] }) h' →
          Q' (.ref h'.objs.size) { s₄ with
            gens := s₄.gens.push (.fresh (.compStart (.GeneratorExp elt [⟨tg, iter, ifs, 0⟩] scope gpos) 0 (.ref it) .none (genEnv scope (cloFrom X.env.cells scope.names []) s₄.heap.objs.size code bi X.env))),
            toks := s₄.toks + 1 + 1 + 1,
            heap := h'.push { cls := .type "generator", data := .fields #[.int s₄.gens.size 0, .str "<genexpr>" (s₄.toks + 1), .str (X.env.qual ++ "<genexpr>") (s₄.toks + 1 + 1)] } }) X.xe { s2 with heap := h3, toks := tk } := by
    intro code h3 tk ps' hx hsz hP3 hmore ht3
    obtain ⟨more, rfl⟩ := hmore
    obtain ⟨bm, ob, e1, e2, e3, e4, e5, e6, e7, e8⟩ := TB.bm
    refine wpAny_builtinsFor (m := X.mg) (by rw [I2.ok.glob]; exact (I2.mod.glob.keeps I2.bk).extBut hx TB.gP) e1 e2 (hx _ _ e4 (I2.bk _ _ e5)) e6 e7 e8 ?_
    intro h' hn' hs'
    -- the def's state behind the code
    have I4 : Inv X pins σ (upd H2 P (.tbl (ps ++ more))) { s2 with heap := h3, toks := tk } := inv_tab (g' := s2.gens) (d' := s2.drawn) I2 hP hx hP3 I2.bare
    obtain ⟨W, ⟨m0, w0⟩, turn⟩ := q2 _ (⟨⟨ps ++ more, upd_same, ht3⟩, fun b hb => upd_ne hb⟩ : Tabbed P H2 (upd H2 P (.tbl (ps ++ more))))
    generalize hH4 : upd H2 P (.tbl (ps ++ more)) = H4 at I4 w0
    have nf4 : ∀ b ∈ fp, H4 b = none := fun b hb => by rw [← hH4, upd_ne (Pfp b hb)]; exact (f2 b hb).1
    have f4 : ∀ b ∈ fp, FpOk X pins H4 b ∧ b < ({ s2 with heap := h3, toks := tk } : Shared).heap.objs.size := fun b hb => ⟨⟨nf4 b hb, (f2 b hb).2⟩, Nat.lt_of_lt_of_le (sz b hb) hsz⟩
    have st4 : tn 0 h3 := T.keep _ _ _ st2 fun b hb o e => hx b o (Pfp b hb) e
    have hsz' : h'.objs.size = h3.objs.size + 1 := by rw [hs'.1, Heap.size_push]
    have keep' : ∀ b o, h3.get? b = some o → h'.get? b = some o := fun b o e => hs'.extBut b o (Nat.ne_of_lt (Heap.lt_size e)) (Heap.get?_push_of_some _ e)
    generalize hgo : ({ cls := .type "generator", data := .fields #[.int ({ s2 with heap := h3, toks := tk } : Shared).gens.size 0, .str "<genexpr>" (({ s2 with heap := h3, toks := tk } : Shared).toks + 1), .str (X.env.qual ++ "<genexpr>") (({ s2 with heap := h3, toks := tk } : Shared).toks + 1 + 1)] } : Obj) = go
    have keep5 : ∀ b o, h3.get? b = some o → (h'.push go).get? b = some o := fun b o e => Heap.get?_push_of_some _ (keep' b o e)
    have hga : (h'.push go).get? h'.objs.size = some go := Heap.get?_push_size _ (by rw [← hgo]; rfl)
    have hgd : ∀ v, go.data ≠ .cell v := fun v z => by rw [← hgo] at z; cases z
    have apart : ∀ b ∈ fp, h'.objs.size ≠ b := fun b hb e => by
      have h1 : b < h3.objs.size := (f4 b hb).2
      have h2 : b < h'.objs.size := by rw [hsz']; exact Nat.lt_succ_of_lt h1
      rw [e] at h2
      exact Nat.lt_irrefl _ h2
    have start : ∀ s5 : Shared, s5.os = s2.os → AllBare s5.gens → (∀ b o, (h'.push go).get? b = some o → s5.heap.get? b = some o) →
        Inv (gX X { s2 with heap := h3, toks := tk } H4 (gE X scope (cloFrom X.env.cells scope.names []) h3.objs.size code) fp [(h'.objs.size, go)]) [] (wipe σ (own.map (·.2))) H4 s5 := fun s5 os hb k =>
      gx_start I4 ok hN hr.hd f4 os hb (fun b o e => k b o (keep5 b o e)) ⟨_, (hn'.push go).keeps k⟩ (by show h3.objs.size < h'.objs.size; omega) (k _ _ hga) hgd
    refine hQ (gX X { s2 with heap := h3, toks := tk } H4 (gE X scope (cloFrom X.env.cells scope.names []) h3.objs.size code) fp [(h'.objs.size, go)]) fp h'.objs.size s2.gens.size (m0 + 1) _ ⟨go, _, _, by simp, by rw [← hgo], by rw [← hgo], by rw [← hgo]⟩ ?_ fun pins' σ' H' s' I' => ?_
    · refine ⟨⟨go, _, _, hga, by rw [← hgo], by rw [← hgo], by rw [← hgo]⟩, ?_, _, Array.getElem?_push_size .., rfl, ?_⟩
      · exact (lim2.extBut hx (fun e => by
          obtain ⟨_, hns, _⟩ := lim2
          obtain ⟨o', es, ep, ho, hd, _⟩ := hns
          rw [e, hPs] at ho
          cases ho
          cases hd)).keeps keep5
      · refine gx_begin hc ok.co T (hg _ _ _ _ _ _ _) (ht _ _ _ _ _ _ _) (he _ _ _ _ _ _ _) turn (fun b hb p hp => ?_) (m0 + 1) m0 _ _ H4 (Nat.lt_succ_self _) (start _ rfl (allBare_setGen (AllBare.push I2.bare rfl) rfl) fun _ _ e => e) ?_ nf4 w0
        · have e : p = (h'.objs.size, go) := by simpa using hp
          subst e
          exact apart b hb
        · exact T.keep _ _ _ st4 fun b _ o e => keep5 b o e
    · exact I4.call' (ch := fp) I'.os I'.base I'.hok I'.bare fun b hb => ⟨(f4 b hb).1.2.2.2.1, (f4 b hb).1.2.1, (f4 b hb).1.2.2.2.2.1, (f4 b hb).1.2.2.2.2.2⟩
  refine ⟨lim2, ?_⟩
  cases hf : codeAmong gpos ps.toList with
  | none =>
    refine wpAny_genexprCodeX hcode (cd.code hPs htr) (cd.tab hPs) hf fun c' h' tk hx hge hlt hco' _ htab' _ => ?_
    obtain ⟨o1, vs, f1, tf, fl, tg, inF, tx, tt, op, _, _, _, _, _, _, _, _, _, htr, _⟩ := hco'
    exact cont _ h' tk _ hx (Nat.le_trans hge (Nat.le_of_lt hlt)) htab'.2 ⟨_, rfl⟩ htr
  | some cv =>
    refine wpAny_genexprCode_hit hcode (cd.code hPs htr) hf ?_
    exact cont cv s2.heap s2.toks ps (Heap.ExtBut.refl _ _) (Nat.le_refl _) hPs ⟨#[], by simp⟩ htr

/-- all(elt for tg in iter if ..): W by the turn and a measure -/
def tAllG (P : Addr) (wi : TI) (g : TG) (tt : TT) (te : TE) (vs : List Nat) : TE := fun σ H Q => wi σ H fun J H1 => TabG H1 P ∧ ∀ H2, Tabbed P H1 H2 → ∃ W : Nat → Nat → Hp → Prop, (∃ m, W 0 m H2) ∧ GTurns J g tt te vs σ W (fun H => Q (.bl true) H) (consAll fun b H => Q (.bl b) H)
def tAnyG (P : Addr) (wi : TI) (g : TG) (tt : TT) (te : TE) (vs : List Nat) : TE := fun σ H Q => wi σ H fun J H1 => TabG H1 P ∧ ∀ H2, Tabbed P H1 H2 → ∃ W : Nat → Nat → Hp → Prop, (∃ m, W 0 m H2) ∧ GTurns J g tt te vs σ W (fun H => Q (.bl false) H) (consAny fun b H => Q (.bl b) H)
theorem boot_all : bootBuiltins "all" = some (.builtin "all") := by decide +kernel
theorem pe_allG {c P : Addr} {elt tg iter : Expr} {ifs : List Expr} {scope : Scope} {own : List (Str × Nat)} {p pos gpos : Pos} {wi : TI} {g : TG} {tt : TT} {te : TE}
    (hr : Room 1 X.A) (hc : X.calm = true) (hN : X.N.Nodup) (hgl : Gl X "all") (hm : X.mg "all" = none) (TB : LamX.TabB X.base X.mg c P) (hcode : X.env.code = .ref c) (ok : GOk X.N X.env.scope scope own) (hi : PI X tg iter wi)
    (hg : ∀ (s : Shared) (H : Hp) (C : Addr) (cl : List (Str × Addr)) (code : Value) (fp : List Addr) (pn : List (Addr × Obj)), PG (gX X s H (gE X scope cl C code) fp pn) tg g)
    (ht : ∀ (s : Shared) (H : Hp) (C : Addr) (cl : List (Str × Addr)) (code : Value) (fp : List Addr) (pn : List (Addr × Obj)), PTs (gX X s H (gE X scope cl C code) fp pn) ifs tt)
    (he : ∀ (s : Shared) (H : Hp) (C : Addr) (cl : List (Str × Addr)) (code : Value) (fp : List Addr) (pn : List (Addr × Obj)), PE (gX X s H (gE X scope cl C code) fp pn) elt te)
    (hs : ∀ v, genFold iter X.env v = pure v := by intro _; rfl)
    (hst : starEach [.GeneratorExp elt [⟨tg, iter, ifs, 0⟩] scope gpos] X.env = (false, eval (.GeneratorExp elt [⟨tg, iter, ifs, 0⟩] scope gpos) X.env) :: starEach [] X.env := by rfl) :
    PE X (.Call (.Name "all" p) [.GeneratorExp elt [⟨tg, iter, ifs, 0⟩] scope gpos] [] pos) (tAllG P wi g tt te (own.map (·.2))) := by
  refine ⟨fun pins s σ H Q I h => ?_⟩
  refine wpAny_Call_Name_kw (ld_blt I hgl hm boot_all ?_)
  refine PyProof.Rows.callWith_builtin1 ?_ hst (by rfl)
  rw [hst]
  show wpAny _ _ (spliced ((false, eval (.GeneratorExp elt [⟨tg, iter, ifs, 0⟩] scope gpos) X.env) :: backTo pos (starEach [] X.env))) _ _ s
  refine Calls.spliced_cons (gx_make (Qe := fun H => Q (.bl true) H) (cons := consAll fun b H => Q (.bl b) H) hr hc hN TB hcode ok hi hg ht he hs I h fun Xg fp a gg n s5 hp hG back => ?_)
  refine Calls.spliced_nil ?_
  refine call_function_tree F.kind_all F.plain_all F.entry_all (F.args_all1 _) ?_
  unfold Builtin.«all»
  refine wpAny_bind (m := oneArg "all" _) (wpAny_pure ?_)
  refine wpAny_bind (wpAny_pyIter_gen hG.1 ?_)
  refine wpAny_pure ⟨plainId_quiet F.plain_all_loop _, all_loop (Q := fun b H => Q (.bl b) H) hr hp (fun b pins' σ' H' s' I' q => ?_) n s5 hG⟩
  exact ⟨.bl b, H', back _ _ _ _ I', rfl, q⟩
theorem pe_anyG {c P : Addr} {elt tg iter : Expr} {ifs : List Expr} {scope : Scope} {own : List (Str × Nat)} {p pos gpos : Pos} {wi : TI} {g : TG} {tt : TT} {te : TE}
    (hr : Room 1 X.A) (hc : X.calm = true) (hN : X.N.Nodup) (hgl : Gl X "any") (hm : X.mg "any" = none) (TB : LamX.TabB X.base X.mg c P) (hcode : X.env.code = .ref c) (ok : GOk X.N X.env.scope scope own) (hi : PI X tg iter wi)
    (hg : ∀ (s : Shared) (H : Hp) (C : Addr) (cl : List (Str × Addr)) (code : Value) (fp : List Addr) (pn : List (Addr × Obj)), PG (gX X s H (gE X scope cl C code) fp pn) tg g)
    (ht : ∀ (s : Shared) (H : Hp) (C : Addr) (cl : List (Str × Addr)) (code : Value) (fp : List Addr) (pn : List (Addr × Obj)), PTs (gX X s H (gE X scope cl C code) fp pn) ifs tt)
    (he : ∀ (s : Shared) (H : Hp) (C : Addr) (cl : List (Str × Addr)) (code : Value) (fp : List Addr) (pn : List (Addr × Obj)), PE (gX X s H (gE X scope cl C code) fp pn) elt te)
    (hs : ∀ v, genFold iter X.env v = pure v := by intro _; rfl)
    (hst : starEach [.GeneratorExp elt [⟨tg, iter, ifs, 0⟩] scope gpos] X.env = (false, eval (.GeneratorExp elt [⟨tg, iter, ifs, 0⟩] scope gpos) X.env) :: starEach [] X.env := by rfl) :
    PE X (.Call (.Name "any" p) [.GeneratorExp elt [⟨tg, iter, ifs, 0⟩] scope gpos] [] pos) (tAnyG P wi g tt te (own.map (·.2))) := by
  refine ⟨fun pins s σ H Q I h => ?_⟩
  refine wpAny_Call_Name_kw (ld_blt I hgl hm boot_any ?_)
  refine PyProof.Rows.callWith_builtin1 ?_ hst (by rfl)
  rw [hst]
  show wpAny _ _ (spliced ((false, eval (.GeneratorExp elt [⟨tg, iter, ifs, 0⟩] scope gpos) X.env) :: backTo pos (starEach [] X.env))) _ _ s
  refine Calls.spliced_cons (gx_make (Qe := fun H => Q (.bl false) H) (cons := consAny fun b H => Q (.bl b) H) hr hc hN TB hcode ok hi hg ht he hs I h fun Xg fp a gg n s5 hp hG back => ?_)
  refine Calls.spliced_nil ?_
  refine call_function_tree F.kind_any F.plain_any F.entry_any (F.args_any1 _) ?_
  unfold Builtin.«any»
  refine wpAny_bind (m := oneArg "any" _) (wpAny_pure ?_)
  refine wpAny_bind (wpAny_pyIter_gen hG.1 ?_)
  refine wpAny_pure ⟨plainId_quiet F.plain_any_loop _, any_loop (Q := fun b H => Q (.bl b) H) hr hp (fun b pins' σ' H' s' I' q => ?_) n s5 hG⟩
  exact ⟨.bl b, H', back _ _ _ _ I', rfl, q⟩
end
end GX

set_option Elab.async false
set_option linter.all false
set_option maxRecDepth 100000
set_option maxHeartbeats 2000000
/-! Tree: data as trees over the abstract heap, what stays of a heap (tables of code objects may grow, what is named may change), repr. -/
namespace Tree
open PySem PySem.Spec PyProof.Rows L2 GxR

/-! ### what stays -/
/-- all that is tracked is as it was, but what B names; a table of a code object may have grown -/
def Kx (B : List Addr) (H H' : Hp) : Prop := ∀ b o, b ∉ B → H b = some o → H' b = some o ∨ ∃ ps qs, o = .tbl ps ∧ H' b = some (.tbl qs) ∧ (TriplesOk ps.toList → TriplesOk qs.toList)
theorem Kx.refl {B : List Addr} (H : Hp) : Kx B H H := fun _ _ _ h => .inl h
theorem Kx.trans {B : List Addr} {H H1 H2 : Hp} (a : Kx B H H1) (b : Kx B H1 H2) : Kx B H H2 := fun c o n h => by
  rcases a c o n h with h1 | ⟨ps, qs, rfl, h1, f⟩
  · exact b c o n h1
  · rcases b c _ n h1 with h2 | ⟨ps', qs', e, h2, f'⟩
    · exact .inr ⟨ps, qs, rfl, h2, f⟩
    · cases e
      exact .inr ⟨ps, qs', rfl, h2, fun z => f' (f z)⟩
theorem Kx.of {B : List Addr} {H H' : Hp} (k : Kx [] H H') : Kx B H H' := fun b o _ h => k b o (by simp) h
theorem Kx.sub {B C : List Addr} {H H' : Hp} (k : Kx B H H') (h : ∀ b ∈ B, b ∈ C) : Kx C H H' := fun b o n e => k b o (fun z => n (h b z)) e
/-- a new object -/
theorem Kx.new {B : List Addr} {H : Hp} {p : Addr} {o : HO} (h : H p = none) : Kx B H (upd H p o) := fun b u _ e => .inl (by rw [upd_ne (ne_of_none e h)]; exact e)
/-- a named object is written -/
theorem Kx.put {B : List Addr} {H : Hp} {p : Addr} {o : HO} (h : p ∈ B) : Kx B H (upd H p o) := fun b u n e => .inl (by rw [upd_ne (fun z => n (by rw [z]; exact h))]; exact e)
/-- an object younger than H may change -/
theorem Kx.mut {B : List Addr} {H H' : Hp} {p : Addr} {o : HO} (k : Kx B H H') (h : H p = none) : Kx B H (upd H' p o) := fun b u n e => by
  have hb : b ≠ p := ne_of_none e h
  rw [upd_ne hb]
  exact k b u n e
theorem Kx.at {B : List Addr} {H H' : Hp} (k : Kx B H H') {b : Addr} {o : HO} (n : b ∉ B) (h : H b = some o) (ht : ∀ ps, o ≠ .tbl ps) : H' b = some o := by
  rcases k b o n h with h1 | ⟨ps, _, e, _⟩
  · exact h1
  · exact absurd e (ht ps)
theorem Kx.lst {B : List Addr} {H H' : Hp} (k : Kx B H H') {b : Addr} {xs : List V} (n : b ∉ B) (h : H b = some (.lst xs)) : H' b = some (.lst xs) := k.at n h fun _ z => by cases z
theorem Kx.tup {B : List Addr} {H H' : Hp} (k : Kx B H H') {b : Addr} {xs : List V} (n : b ∉ B) (h : H b = some (.tup xs)) : H' b = some (.tup xs) := k.at n h fun _ z => by cases z
theorem Kx.free {B : List Addr} {H H' : Hp} (k : Kx B H H') {b : Addr} (n : b ∉ B) (h : H' b = none) : H b = none := by
  cases e : H b with
  | none => rfl
  | some o =>
    rcases k b o n e with h1 | ⟨_, _, _, h1, _⟩ <;> rw [h] at h1 <;> cases h1
/-- what Tabbed says -/
theorem Kx.tabbed {B : List Addr} {H H' : Hp} {P : Addr} (h0 : TabG H P) (h : Tabbed P H H') : Kx B H H' := fun b o _ e => by
  by_cases hb : b = P
  · subst hb
    obtain ⟨ps, e1, t1⟩ := h0
    obtain ⟨⟨qs, e2, t2⟩, _⟩ := h
    rw [e] at e1; cases e1
    exact .inr ⟨ps, qs, rfl, e2, fun _ => t2⟩
  · exact .inl (by rw [h.2 b hb]; exact e)
theorem Kx.tab {B : List Addr} {H H' : Hp} {P : Addr} (k : Kx B H H') (n : P ∉ B) (h : TabG H P) : TabG H' P := by
  obtain ⟨ps, e, t⟩ := h
  rcases k P _ n e with h1 | ⟨_, qs, e2, h1, f⟩
  · exact ⟨ps, h1, t⟩
  · cases e2
    exact ⟨qs, h1, f t⟩
/-- the tables stand -/
def Tb (Ps : List Addr) (H : Hp) : Prop := ∀ P ∈ Ps, TabG H P
theorem Tb.kx {B : List Addr} {H H' : Hp} {Ps : List Addr} (h : Tb Ps H) (k : Kx B H H') (n : ∀ P ∈ Ps, P ∉ B := by intro P _; simp) : Tb Ps H' := fun P hP => k.tab (n P hP) (h P hP)
theorem Tb.sub {H : Hp} {Ps Qs : List Addr} (h : Tb Ps H) (s : ∀ P ∈ Qs, P ∈ Ps) : Tb Qs H := fun P hP => h P (s P hP)

/-! ### trees -/
mutual
/-- v is the tree d over H, no part of it at an address of B -/
inductive Tr (B : List Addr) (H : Hp) : V → PyData → Prop
  | non : Tr B H .non .none
  | bl (b : Bool) : Tr B H (.bl b) (.bool b)
  | int (i : Int) : Tr B H (.int i) (.int i)
  | str (x : Str) : Tr B H (.str x) (.str x)
  | lst {a : Addr} {xs : List V} {ds : List PyData} : a ∉ B → H a = some (.lst xs) → TrAll B H xs ds → Tr B H (.ref a) (.list ds)
  | tup {a : Addr} {xs : List V} {ds : List PyData} : a ∉ B → H a = some (.tup xs) → TrAll B H xs ds → Tr B H (.ref a) (.tuple ds)
  | dic {a : Addr} : a ∉ B → H a = some (.dK []) → Tr B H (.ref a) (.dict [])
inductive TrAll (B : List Addr) (H : Hp) : List V → List PyData → Prop
  | nil : TrAll B H [] []
  | cons {v : V} {vs : List V} {d : PyData} {ds : List PyData} : Tr B H v d → TrAll B H vs ds → TrAll B H (v :: vs) (d :: ds)
end
mutual
theorem Tr.kx {B C : List Addr} {H H' : Hp} (k : Kx C H H') (hs : ∀ b ∈ C, b ∈ B) : ∀ (d : PyData) (v : V), Tr B H v d → Tr B H' v d
  | _, _, .non => .non
  | _, _, .bl b => .bl b
  | _, _, .int i => .int i
  | _, _, .str x => .str x
  | .list ds, _, .lst n h l => .lst n (k.lst (fun z => n (hs _ z)) h) (TrAll.kx k hs ds _ l)
  | .tuple ds, _, .tup n h l => .tup n (k.tup (fun z => n (hs _ z)) h) (TrAll.kx k hs ds _ l)
  | _, _, .dic n h => .dic n (k.at (fun z => n (hs _ z)) h fun _ z => by cases z)
theorem TrAll.kx {B C : List Addr} {H H' : Hp} (k : Kx C H H') (hs : ∀ b ∈ C, b ∈ B) : ∀ (ds : List PyData) (vs : List V), TrAll B H vs ds → TrAll B H' vs ds
  | _, _, .nil => .nil
  | d :: ds, _, .cons h t => .cons (Tr.kx k hs d _ h) (TrAll.kx k hs ds _ t)
end
mutual
/-- fewer addresses are forbidden -/
theorem Tr.less {B C : List Addr} {H : Hp} (hs : ∀ b ∈ C, b ∈ B) : ∀ (d : PyData) (v : V), Tr B H v d → Tr C H v d
  | _, _, .non => .non
  | _, _, .bl b => .bl b
  | _, _, .int i => .int i
  | _, _, .str x => .str x
  | .list ds, _, .lst n h l => .lst (fun z => n (hs _ z)) h (TrAll.less hs ds _ l)
  | .tuple ds, _, .tup n h l => .tup (fun z => n (hs _ z)) h (TrAll.less hs ds _ l)
  | _, _, .dic n h => .dic (fun z => n (hs _ z)) h
theorem TrAll.less {B C : List Addr} {H : Hp} (hs : ∀ b ∈ C, b ∈ B) : ∀ (ds : List PyData) (vs : List V), TrAll B H vs ds → TrAll C H vs ds
  | _, _, .nil => .nil
  | d :: ds, _, .cons h t => .cons (Tr.less hs d _ h) (TrAll.less hs ds _ t)
end
section
variable {B : List Addr} {H H' : Hp} {v : V} {d : PyData} {vs : List V} {ds : List PyData}
theorem Tr.up (h : Tr B H v d) (k : Kx [] H H') : Tr B H' v d := Tr.kx k (by simp) d v h
theorem Tr.upB (h : Tr B H v d) (k : Kx B H H') : Tr B H' v d := Tr.kx k (fun _ z => z) d v h
theorem TrAll.up (h : TrAll B H vs ds) (k : Kx [] H H') : TrAll B H' vs ds := TrAll.kx k (by simp) ds vs h
theorem TrAll.upB (h : TrAll B H vs ds) (k : Kx B H H') : TrAll B H' vs ds := TrAll.kx k (fun _ z => z) ds vs h
theorem Tr.nil (h : Tr B H v d) : Tr [] H v d := Tr.less (by simp) d v h
theorem TrAll.nilB (h : TrAll B H vs ds) : TrAll [] H vs ds := TrAll.less (by simp) ds vs h
theorem TrAll.length : ∀ {vs : List V} {ds : List PyData}, TrAll B H vs ds → vs.length = ds.length
  | _, _, .nil => rfl
  | _, _, .cons _ t => congrArg (· + 1) t.length
theorem TrAll.get : ∀ {vs : List V} {ds : List PyData} {i : Nat} {v : V}, TrAll B H vs ds → vs[i]? = some v → ∃ d, ds[i]? = some d ∧ Tr B H v d
  | _, _, _, _, .nil, e => by simp at e
  | _, _, 0, _, .cons h _, e => by simp at e; subst e; exact ⟨_, rfl, h⟩
  | _, _, i + 1, _, .cons _ t, e => by
    obtain ⟨d, h1, h2⟩ := TrAll.get (i := i) t (by simpa using e)
    exact ⟨d, by simpa using h1, h2⟩
theorem TrAll.get' : ∀ {vs : List V} {ds : List PyData} {i : Nat} {d : PyData}, TrAll B H vs ds → ds[i]? = some d → ∃ v, vs[i]? = some v ∧ Tr B H v d
  | _, _, _, _, .nil, e => by simp at e
  | _, _, 0, _, .cons h _, e => by simp at e; subst e; exact ⟨_, rfl, h⟩
  | _, _, i + 1, _, .cons _ t, e => by
    obtain ⟨d, h1, h2⟩ := TrAll.get' (i := i) t (by simpa using e)
    exact ⟨d, by simpa using h1, h2⟩
theorem TrAll.append : ∀ {vs ws : List V} {ds es : List PyData}, TrAll B H vs ds → TrAll B H ws es → TrAll B H (vs ++ ws) (ds ++ es)
  | _, _, _, _, .nil, s => s
  | _, _, _, _, .cons r t, s => .cons r (TrAll.append t s)
theorem TrAll.take : ∀ {vs : List V} {ds : List PyData} (n : Nat), TrAll B H vs ds → TrAll B H (vs.take n) (ds.take n)
  | _, _, 0, _ => .nil
  | _, _, _ + 1, .nil => .nil
  | _, _, n + 1, .cons r t => .cons r (TrAll.take n t)
theorem TrAll.drop : ∀ {vs : List V} {ds : List PyData} (n : Nat), TrAll B H vs ds → TrAll B H (vs.drop n) (ds.drop n)
  | _, _, 0, r => r
  | _, _, _ + 1, .nil => .nil
  | _, _, n + 1, .cons _ t => TrAll.drop n t
theorem TrAll.reverse : ∀ {vs : List V} {ds : List PyData}, TrAll B H vs ds → TrAll B H vs.reverse ds.reverse
  | _, _, .nil => .nil
  | _, _, .cons r t => by
    rw [List.reverse_cons, List.reverse_cons]
    exact TrAll.append (TrAll.reverse t) (.cons r .nil)
theorem TrAll.snoc (h : TrAll B H vs ds) (r : Tr B H v d) : TrAll B H (vs ++ [v]) (ds ++ [d]) := h.append (.cons r .nil)
theorem TrAll.ints : ∀ ns : List Int, TrAll B H (ns.map V.int) (ns.map PyData.int)
  | [] => .nil
  | n :: ns => .cons (.int n) (TrAll.ints ns)
end

/-! ### kinds -/
def tyD : PyData → String
  | .none => "NoneType"
  | .bool _ => "bool"
  | .int _ => "int"
  | .str _ => "str"
  | .list _ => "list"
  | .tuple _ => "tuple"
  | .dict _ => "dict"
theorem Tr.ty {K : PySem.W.Frag} {B : List Addr} {H : Hp} {v : V} {d : PyData} (h : Tr B H v d) : TyX K H v (.type (tyD d)) := by
  cases h with
  | non => exact .base .non
  | bl b => exact .base (.bl b)
  | int i => exact .base (.int i)
  | str x => exact .base (.str x)
  | lst _ h _ => exact .base (.lst h)
  | tup _ h _ => exact .base (.tup h)
  | dic _ h => exact .base (.dK h)

/-! ### to the library's Reads -/
theorem dic_entries {P : Program} {w : World} {h : Heap} {a : Addr} (x : h.DictOf (mixKind P w) a []) : ∃ o es n, h.get? a = some o ∧ o.cls = .type "dict" ∧ o.data = .dict es n ∧ es.toList = [] := by
  obtain ⟨o, es, n, e, hx, hd, _, hes, _⟩ := x
  refine ⟨o, es, n, e, hx.1, hd, ?_⟩
  cases q : es.toList with
  | nil => rfl
  | cons y r =>
    rw [q] at hes
    exact nomatch hes
section
variable {X : Cx} {pins : List (Addr × Obj)} {σ : L2.St} {s : Shared}
mutual
theorem Tr.reads {B : List Addr} {H : Hp} (I : Inv X pins σ H s) : ∀ (d : PyData) (v : V) (u : Value), Tr B H v d → RelV v u → ∃ as, Reads s.heap u d as ∧ ∀ b ∈ as, H b ≠ none
  | .none, v, u, h, r => by
    cases h
    cases r
    exact ⟨[], .none, by simp⟩
  | .bool b, v, u, h, r => by
    cases h
    cases r
    exact ⟨[], .bool b, by simp⟩
  | .int i, v, u, h, r => by
    cases h
    obtain ⟨t, rfl⟩ := r
    exact ⟨[], .int i t, by simp⟩
  | .str x, v, u, h, r => by
    cases h
    obtain ⟨t, rfl⟩ := r
    exact ⟨[], .str x t, by simp⟩
  | .list ds, v, u, h, r => by
    cases h with
    | lst n e l =>
      rename_i a xs
      obtain rfl : u = Value.ref a := r
      obtain ⟨_, its, k, rv, e2⟩ := I.hok a _ e
      obtain ⟨as, h1, h2⟩ := TrAll.reads I ds xs its l rv
      exact ⟨a :: as, .list e2 rfl rfl (by simpa using h1), fun b hb => by
        rcases List.mem_cons.mp hb with z | z
        · rw [z, e]; simp
        · exact h2 b z⟩
  | .tuple ds, v, u, h, r => by
    cases h with
    | tup n e l =>
      rename_i a xs
      obtain rfl : u = Value.ref a := r
      obtain ⟨_, its, rv, o, e2, c, k, d⟩ := I.hok a _ e
      obtain ⟨as, h1, h2⟩ := TrAll.reads I ds xs its l rv
      exact ⟨as, .tuple e2 c d (by simpa using h1), h2⟩
  | .dict kvs, v, u, h, r => by
    cases h with
    | dic n e =>
      rename_i a
      obtain rfl : u = Value.ref a := r
      obtain ⟨_, _, vs, kv, x⟩ := I.hok a _ e
      cases kv
      obtain ⟨o, es, k, e2, c, hd, hes⟩ := dic_entries x
      refine ⟨a :: [] ++ [], .dict (n := k) e2 c hd (by rw [hes]; exact .nil) (by rw [hes]; exact .nil), fun b hb => ?_⟩
      have z : b = a := by simpa using hb
      rw [z, e]; simp
theorem TrAll.reads {B : List Addr} {H : Hp} (I : Inv X pins σ H s) : ∀ (ds : List PyData) (vs : List V) (us : List Value), TrAll B H vs ds → Vals vs us → ∃ as, ReadsAll s.heap us ds as ∧ ∀ b ∈ as, H b ≠ none
  | [], vs, us, h, r => by
    cases h
    cases r
    exact ⟨[], .nil, by simp⟩
  | d :: ds, vs, us, h, r => by
    cases h with
    | cons h1 h2 =>
      cases r with
      | cons r1 r2 =>
        obtain ⟨as, a1, a2⟩ := Tr.reads I d _ _ h1 r1
        obtain ⟨bs, b1, b2⟩ := TrAll.reads I ds _ _ h2 r2
        exact ⟨as ++ bs, .cons a1 b1, fun b hb => (List.mem_append.mp hb).elim (a2 b) (b2 b)⟩
end
/-- repr of a tree, where no guard is under way -/
def rRepr : List V → Hp → VK → Prop := fun xs H Q => ∃ v d, xs = [v] ∧ Tr [] H v d ∧ d.showable = true ∧ d.depth ≤ 40 ∧ d.shown.length ≤ sizeLine ∧ Q (.str d.shown) H
theorem call_repr_tree (hg : X.A.guards = some []) (hu : X.A.units + 64 < cLine) (hm : ∃ o, X.base.get? sysModules = some o) : CallR X (.builtin "repr") rRepr := by
  intro pins s σ H vs us Q I r h
  obtain ⟨v, d, rfl, ht, hs, hd, hz, q⟩ := h
  cases r with
  | cons r rr =>
    cases rr
    rename_i u
    obtain ⟨as, hr, ha⟩ := Tr.reads I d v u ht r
    have fin : ∀ (h' : Heap) (t tk : Nat), (∀ b o, s.heap.get? b = some o → h'.get? b = some o) → EP X pins σ Q (.str d.shown t) { s with heap := h', toks := tk } := fun h' t tk k => ⟨.str d.shown, H, I.kept (t' := tk) k, ⟨t, rfl⟩, q⟩
    cases hr with
    | none => exact PySem.P.repr_of_none (fin s.heap _ _ fun _ _ e => e)
    | bool b => exact PySem.P.repr_of_bool (fin s.heap _ _ fun _ _ e => e)
    | int i t => exact PySem.P.repr_of_int (by simpa [PyData.showable] using hs) (fin s.heap _ _ fun _ _ e => e)
    | str x t => exact PySem.P.repr_of_str (fin s.heap _ _ fun _ _ e => e) hz
    | list h1 h2 h3 h4 =>
      exact repr_of_reads' (.list h1 h2 h3 h4) hs (fun _ z => by
        obtain ⟨o, e⟩ := hm
        exact ha _ z (I.bs _ _ e).2) hg (by omega) (fun _ _ e => e) (fun h' t tk k => fin h' t tk k) hz
    | tuple h1 h2 h3 h4 =>
      exact repr_of_reads' (.tuple h1 h2 h3 h4) hs (fun _ z => by
        obtain ⟨o, e⟩ := hm
        exact ha _ z (I.bs _ _ e).2) hg (by omega) (fun _ _ e => e) (fun h' t tk k => fin h' t tk k) hz
    | dict h1 h2 h3 h4 h5 =>
      exact repr_of_reads' (.dict h1 h2 h3 h4 h5) hs (fun _ z => by
        obtain ⟨o, e⟩ := hm
        exact ha _ z (I.bs _ _ e).2) hg (by omega) (fun _ _ e => e) (fun h' t tk k => fin h' t tk k) hz
end
end Tree

set_option Elab.async false
set_option linter.all false
set_option maxRecDepth 100000
set_option maxHeartbeats 2000000
/-! EndG: the end of a law row whose own def asks repr: no guard is under way where it is called. -/
namespace EndG
open PySem PySem.Spec PyProof.Rows L2
/-- a def kept where no guard is under way -/
structure FnG (P : Program) (w : World) (K : PySem.W.Frag) (mg : Str → Option Value) (base : Heap) (k : Nat) (f : Addr) (fd : FuncData) (ps : List Str) (sp : Sp) : Prop where
  len : ∀ vs H Q E, sp vs H Q E → vs.length = ps.length
  run : ∀ (A : Around) (outer : List Env) (s : Shared) (H : Hp) (args : Args) (us : List Value) (vs : List V) (Q : VK) (E : XK), A.guards = some [] → Room k A → Env0 P w K mg base A outer s H → BindsTo s fd args (ps.zip us) → Vals vs us → sp vs H Q E →
    codeAny (model P w) A (.call (.ref f) args) (CR CX0 outer P w H s Q E) s
section
variable {P : Program} {w : World} {K : PySem.W.Frag} {mg : Str → Option Value} {base : Heap}
theorem fnG {x qual : Str} {st : Stmt} {f : Addr} {fd : FuncData} {N ps : List Str} {k : Nat} {sp : Sp} (F : FunD K x qual (defArgs st) (defBody st) (defScope st) [] [] f fd) (S : FnScope N ps (defScope st)) (len : ∀ vs H Q E, sp vs H Q E → vs.length = ps.length)
    (hbody : ∀ (cdv : Value) (A : Around) (outer : List Env) (s : Shared) (H : Hp) (vs : List V) (Q : VK) (E : XK), A.guards = some [] → fd.code = cdv → Room k (A.deeper (envOfC qual (defScope st) s.heap.objs.size f cdv)) → sp vs H Q E →
      ∃ t, PSs (cxOf CX0 P w K mg base N qual (defScope st) f cdv A outer s H E).nox (defBody st) t ∧ t { nx := fun _ H' => Q .non H', rt := Q } (start N vs) H) : FnG P w K mg base (k + 1) f fd ps sp := by
  obtain ⟨oc, od, dV, kV, doc, pm, an, cdv, ct, osl, rfl, lk, hcd, _, _⟩ := F.ex
  refine ⟨len, fun A outer s H args us vs Q E hgu hr e0 hb r hsp => ?_⟩
  have KX : K.In s.heap := e0.mod.kin.keeps fun b o e => (e0.bs b o e).1
  have lim := e0.mod.nolimit.keeps fun b o e => (e0.bs b o e).1
  have hkind : ∀ y ∈ ps.zip us, (defScope st).names.lookup y.1 = some .local ∨ ((defScope st).names.lookup y.1 = some .cell ∧ ((cellsFrom (s.heap.objs.size + 1) (defScope st).names []).lookup y.1).isSome = true) := fun y hy =>
    (S.par y.1 (List.of_mem_zip (show (y.1, y.2) ∈ ps.zip us from hy)).1).elim .inl fun q => .inr ⟨q, PySem.W.cellsFrom_some _ _ _ (.inl q)⟩
  refine codeAny_call_function hr.depth (KX _ _ lk) rfl S.co S.gen rfl (PySem.W.codeRec_of KX hcd) (hb _ _ _ _ (wpAny_newFunctionEnv_cells S.kind hkind fun env he s1 x => ?_))
  subst he
  refine ⟨lim.keeps x.toInCall.keep, codeAny_func ?_⟩
  obtain ⟨t, ht, hq⟩ := hbody cdv A outer s H vs Q E hgu rfl (hr.deeper _) hsp
  have I := inv_start (CX := CX0) (E := E) S hr.hd e0 (len _ _ _ _ hsp) r x
  refine wpAny_mono (ht.nox.run [] s1 (start N vs) H _ I hq) (fun fl s' hs => ?_) fun e s' hs => hs
  cases fl with
  | ret u => obtain ⟨v, σ', H', J, rv, q⟩ := hs; exact ⟨v, H', J.os, J.bare, J.base, J.hok, rv, q⟩
  | next => obtain ⟨σ', H', J, q⟩ := hs; exact ⟨V.non, H', J.os, J.bare, J.base, J.hok, rfl, q⟩
  | brk => obtain ⟨_, _, _, q⟩ := hs; exact q.elim
  | cont => obtain ⟨_, _, _, q⟩ := hs; exact q.elim
/-- what is known of the law's promise at the head's heap h; cs: the code objects with their tables -/
def LawAtG (l : PySem.W.OpenLaw) (w : World) (K : PySem.W.Frag) (k n : Nat) (x : Str) (mg : Str → Option Value) (fa : Addr) (h : Heap) : Prop :=
  ∃ (fd : FuncData) (cs : List (Addr × Addr)) (sp : Sp), (∀ p ∈ cs, h.get? p.2 = some { cls := .none, data := .fields #[] }) ∧ (∀ p ∈ cs, K.lookup p.2 = none) ∧ (∀ p ∈ cs, PySem.W.CodeHd h p.1 p.2) ∧ (∃ o, h.get? sysModules = some o ∧ o.cls = .type "dict") ∧ (∀ (s : Shared) (u : Value), BindsTo s fd ⟨[u], []⟩ [(x, u)]) ∧
    (∀ (H : Hp) (a : Addr) (ns : List Int), ns.length ≤ n → (∀ z ∈ ns, Builtin.Int.intBits z ≤ 1048576) → (∀ p ∈ cs, H p.2 = some (.tbl #[])) → SqL K H a (ns.map V.int) → sp [.ref a] H (fun v _ => v = .bl true) fun _ _ _ => False) ∧
    ∀ base : Heap, K.In base → base.Ns mainGlobals mg → (∀ p ∈ cs, LamX.TabB base mg p.1 p.2) → (∃ o, base.get? sysModules = some o) → FnG l.prog w K mg base k fa fd [x] sp

/-- the call of the law's def behind the head; T: the tables' places -/
theorem law_callG {mb : Str → Option Value} {k : Nat} {fa a : Addr} {cs : List (Addr × Addr)} {fd : FuncData} {x : Str} {sp : Sp} {s₁ : Shared} {vs : List Value} {ns : List Int}
    (KX : K.In s₁.heap) (hns : s₁.heap.Ns mainGlobals mg) (hb : s₁.heap.Ns builtinsNs mb) (hbb : ∀ x : Str, x ≠ "__name__" → mb x = bootBuiltins x) (hlim : s₁.heap.NoLimit) (hg : s₁.gens = #[])
    (hT : ∀ p ∈ cs, s₁.heap.get? p.2 = some { cls := .none, data := .fields #[] }) (nT : ∀ p ∈ cs, K.lookup p.2 = none) (C : ∀ p ∈ cs, PySem.W.CodeHd s₁.heap p.1 p.2)
    (hbm : ∃ (bm : Addr) (ob : Obj), mg "__builtins__" = some (.ref bm) ∧ bm ≠ builtinsNs ∧ s₁.heap.get? bm = some ob ∧ ob.cls = .type "module" ∧ ob.dict = some builtinsNs ∧ ob.data = .plain)
    (ha : s₁.heap.get? a = some { cls := .type "list", data := .seq vs.toArray }) (hi : IntsAre vs ns) (hl : ns.length ≤ sizeLine) (hr : Room k callerA)
    (F : ∀ base : Heap, K.In base → base.Ns mainGlobals mg → (∀ p ∈ cs, LamX.TabB base mg p.1 p.2) → (∃ o, base.get? sysModules = some o) → FnG P w K mg base k fa fd [x] sp) (hsm : ∃ o, s₁.heap.get? sysModules = some o ∧ o.cls = .type "dict") (hbind : ∀ (s : Shared) (u : Value), BindsTo s fd ⟨[u], []⟩ [(x, u)])
    (hsp : ∀ H : Hp, (∀ p ∈ cs, H p.2 = some (.tbl #[])) → SqL K H a (ns.map V.int) → sp [.ref a] H (fun v _ => v = .bl true) fun _ _ _ => False) :
    codeAny (model P w) callerA (.call (.ref fa) ⟨[.ref a], []⟩) (fun r s' => r = .ok (.ret (.bool true)) ∧ OldK s₁.heap s'.heap ∧ s'.os = s₁.os ∧ AllBare s'.gens) s₁ := by
  have rv := vals_ints hi
  have lenV := hi.length
  -- the places of the tables
  have isT : ∀ b : Addr, (∃ p ∈ cs, p.2 = b) → s₁.heap.get? b = some { cls := .none, data := .fields #[] } := fun b ⟨p, hp, e⟩ => e ▸ hT p hp
  have aT : ¬ ∃ p ∈ cs, p.2 = a := fun z => by
    have q := (isT a z).symm.trans ha
    cases q
  -- H: nothing but tables and (where it is no object of the module) the script
  have core : ∀ H : Hp, (∀ p ∈ cs, H p.2 = some (.tbl #[])) → (∀ b, H b = none ∨ (∃ p ∈ cs, p.2 = b) ∨ ∃ o xs, H b = some (.frz o (.lst xs))) → SqL K H a (ns.map V.int) → HOk P w H s₁.heap → (∀ b, H b ≠ none → b = a ∨ ∃ p ∈ cs, p.2 = b) → (H a ≠ none → K.lookup a = none) →
      codeAny (model P w) callerA (.call (.ref fa) ⟨[.ref a], []⟩) (fun r s' => r = .ok (.ret (.bool true)) ∧ OldK s₁.heap s'.heap ∧ s'.os = s₁.os ∧ AllBare s'.gens) s₁ := by
    intro H hH hO hS hok hA hK
    have low : ∀ {b : Addr} {o : Obj}, s₁.heap.get? b = some o → H b = none → (hidT s₁.heap H).get? b = some o := fun e n => hidT_get e n
    have untr : ∀ {b : Addr} {o : Obj}, s₁.heap.get? b = some o → (∀ vs n, o.data ≠ .seq vs n) → o.data ≠ .fields #[] → H b = none := fun {b o} e h1 h2 => by
      refine Classical.byContradiction fun q => ?_
      rcases hA b q with e' | e'
      · subst e'; rw [ha] at e; cases e; exact h1 _ _ rfl
      · rw [isT b e'] at e; cases e; exact h2 rfl
    have nsL : ∀ {b : Addr} {m : Str → Option Value}, s₁.heap.Ns b m → (hidT s₁.heap H).Ns b m := fun {b m} ⟨o, es, ep, e, d, r⟩ =>
      ⟨o, es, ep, low e (untr e (fun _ _ z => by rw [d] at z; cases z) fun z => by rw [d] at z; cases z), d, r⟩
    have hKb : K.In (hidT s₁.heap H) := fun b o e => low (KX b o e) (Classical.byContradiction fun q => by
      rcases hA b q with e' | ⟨p, hp, ep⟩
      · subst e'; rw [hK q] at e; cases e
      · rw [← ep, nT p hp] at e; cases e)
    have hM : L2.Mod K mg (hidT s₁.heap H) := ⟨hKb, nsL hns, ⟨mb, nsL hb, hbb⟩, hlim.elim fun mc h => ⟨mc, nsL h.1, h.2⟩⟩
    have gne : ∀ (b : Addr), s₁.heap.get? b = some { cls := .none, data := .fields #[] } → mainGlobals ≠ b := fun b e z => by
      obtain ⟨o, es, ep, e', hd, _⟩ := hns
      rw [z, e] at e'; cases e'; cases hd
    have TB : ∀ p ∈ cs, LamX.TabB (hidT s₁.heap H) mg p.1 p.2 := fun p hp => by
      refine ⟨?_, ?_, gne _ (hT p hp)⟩
      · obtain ⟨o, us, file, tf, flags, tg, inF, text, tt, e1, r0, r1, r2, r⟩ := C p hp
        refine ⟨o, us, file, tf, flags, tg, inF, text, tt, low e1 (untr e1 (fun _ _ z => ?_) fun z => ?_), r0, r1, r2, r⟩
        · rw [r1] at z; cases z
        · rw [r1] at z; cases z; simp at r2
      · obtain ⟨bm, ob, b1, b2, b3, b4, b5, b6⟩ := hbm
        refine ⟨bm, ob, b1, b2, fun q => ?_, fun q => ?_, low b3 (untr b3 (fun _ _ z => ?_) fun z => ?_), b4, b5, b6⟩
        · obtain ⟨o, es, ep, e, hd, _⟩ := hns
          rw [q, e] at b3; cases b3; rw [hd] at b6; cases b6
        · rw [q, hT p hp] at b3; cases b3; cases b6
        · rw [b6] at z; cases z
        · rw [b6] at z; cases z
    have e0 : Env0 P w K mg (hidT s₁.heap H) callerA [] s₁ H := ⟨rfl, hM, fun b o e => of_hidT e, Nat.le_of_eq (hidT_size _ _), trivial, fun b hb => absurd (show b ∈ ([] : List Addr) from hb) (by simp), hok, .of_eq hg⟩
    have sm : ∃ o, (hidT s₁.heap H).get? sysModules = some o := by
      obtain ⟨o, e, c⟩ := hsm
      refine ⟨o, low e (Classical.byContradiction fun q => ?_)⟩
      rcases hA _ q with e' | e'
      · rw [e', ha] at e; cases e; exact absurd (Value.type.inj c) (by decide)
      · rw [isT _ e'] at e; cases e; cases c
    refine codeAny_mono ((F _ hKb (nsL hns) TB sm).run callerA [] s₁ H ⟨[.ref a], []⟩ [.ref a] [.ref a] _ _ rfl hr e0 (hbind s₁ (.ref a)) (.cons rfl .nil) (hsp H hH hS)) fun r s' h => ?_
    match r, h with
    | .error e, h => exact False.elim h
    | .ok .next, h => exact False.elim h
    | .ok .brk, h => exact False.elim h
    | .ok .cont, h => exact False.elim h
    | .ok (.ret u), h =>
      obtain ⟨v, H', os, bare, un, hok', r', q⟩ := h
      have q' : v = .bl true := q
      subst q'
      obtain rfl : u = Value.bool true := r'
      have key : ∀ b o, (¬ ∃ p ∈ cs, p.2 = b) → s₁.heap.get? b = some o → s'.heap.get? b = some o := fun b o nb e => by
        rcases hO b with z | z | ⟨ob, xs, z⟩
        · exact un.keep b o e z (fun hm => absurd (show b ∈ ([] : List Addr) from hm) (by simp)) (by simp)
        · exact absurd z nb
        · have e1 := (hok b _ z).1
          rw [e] at e1; cases e1
          exact (hok' b _ (un.frzs b o _ z)).1
      have grown : ∀ p ∈ cs, ∃ more : Array Value, s'.heap.get? p.2 = some { cls := .none, data := .fields more } := fun p hp => by
        obtain ⟨more, z⟩ := un.tbls p.2 #[] (hH p hp)
        exact ⟨_, hok' p.2 _ z⟩
      refine ⟨rfl, ⟨fun b o e => ?_, fun b o e => ?_⟩, os, bare⟩
      · by_cases hb : ∃ p ∈ cs, p.2 = b
        · obtain ⟨p, hp, rfl⟩ := hb
          obtain ⟨more, hm⟩ := grown p hp
          rw [hT p hp] at e; cases e
          exact .inr (.inl ⟨((C p hp).tab (hT p hp)).isCodeTable, rfl, #[], more, rfl, by rw [Array.empty_append]; exact hm⟩)
        · exact .inl (key b o hb e)
      · by_cases hb : ∃ p ∈ cs, p.2 = b
        · obtain ⟨p, hp, rfl⟩ := hb
          obtain ⟨more, hm⟩ := grown p hp
          exact ⟨_, hm⟩
        · exact ⟨o, key b o hb e⟩
  have dec : ∀ b : Addr, Decidable (∃ p ∈ cs, p.2 = b) := fun b => Classical.propDecidable _
  cases hk : K.lookup a with
  | some o =>
    have e := KX a o hk
    rw [ha] at e; cases e
    refine core (fun b => if ∃ p ∈ cs, p.2 = b then some (.tbl #[]) else none) (fun p hp => if_pos ⟨p, hp, rfl⟩) (fun b => ?_) (.inr ⟨_, vs.toArray, _, hk, rfl, rfl, rfl, by rw [List.size_toArray, lenV]; exact hl, by simpa using rv⟩) (fun b u z => ?_) (fun b z => ?_) fun z => absurd (if_neg aT) z
    · by_cases hb : ∃ p ∈ cs, p.2 = b
      · exact .inr (.inl hb)
      · exact .inl (if_neg hb)
    · by_cases hb : ∃ p ∈ cs, p.2 = b
      · have z' := (if_pos hb).symm.trans z; cases z'; exact isT b hb
      · have z' := (if_neg hb).symm.trans z; cases z'
    · by_cases hb : ∃ p ∈ cs, p.2 = b
      · exact .inr hb
      · exact absurd (if_neg hb) z
  | none =>
    refine core (fun b => if b = a then some (.frz { cls := .type "list", data := .seq vs.toArray } (.lst (ns.map V.int))) else if ∃ p ∈ cs, p.2 = b then some (.tbl #[]) else none) (fun p hp => (if_neg (fun z => aT ⟨p, hp, z⟩)).trans (if_pos ⟨p, hp, rfl⟩)) (fun b => ?_)
      (.inl (.inr ⟨{ cls := .type "list", data := .seq vs.toArray }, if_pos rfl⟩)) (fun b u z => ?_) (fun b z => ?_) fun _ => hk
    · by_cases hb : b = a
      · exact .inr (.inr ⟨_, _, if_pos hb⟩)
      · by_cases hb2 : ∃ p ∈ cs, p.2 = b
        · exact .inr (.inl hb2)
        · exact .inl ((if_neg hb).trans (if_neg hb2))
    · by_cases hb : b = a
      · have z' := (if_pos hb).symm.trans z; cases z'
        rw [hb]
        exact ⟨ha, by rw [List.length_map]; exact hl, vs, _, rv, ha⟩
      · have z1 := (if_neg hb).symm.trans z
        by_cases hb2 : ∃ p ∈ cs, p.2 = b
        · have z' := (if_pos hb2).symm.trans z1; cases z'; exact isT b hb2
        · have z' := (if_neg hb2).symm.trans z1; cases z'
    · by_cases hb : b = a
      · exact .inl hb
      · by_cases hb2 : ∃ p ∈ cs, p.2 = b
        · exact .inr hb2
        · exact absurd ((if_neg hb).trans (if_neg hb2)) z
end
theorem walk_ofG {l : PySem.W.OpenLaw} {n k : Nat} {q : Program} {loose : List Str} {XP : (Str → Option Value) → Heap → Prop} {YP : World → Heap → Prop} {d : DefRec} {x : Str}
    (hn : l.most = some n) (hn2 : n ≤ sizeLine) (hdf : d.params.defaults = []) (hr : Room k callerA)
    (F : ∀ (w : World) (mg : Str → Option Value) (fa : Addr) (h : Heap), YP w h → h.Ns mainGlobals mg → mg d.name = some (.ref fa) → ∃ K : PySem.W.Frag, K.In h ∧ LawAtG l w K k n x mg fa h) :
    PySem.W.WalkO q loose XP YP l.row.toRowW d [] (fun f vs => PySem.call f vs) := by
  refine Att.attach_callB hn hdf fun w s₀ s₁ mg mb fa o pm cd doc a vs ns G Y ho hd hcd hmg hobj hints hlen hbits hg => ?_
  obtain ⟨K, KX, fd, cs, sp, hT, nT, C, hsm, hb, hsp, hF⟩ := F w mg fa _ Y G.T.g hmg
  exact law_callG KX G.T.g G.T.b G.T.builtins G.T.nolimit hg hT nT C G.T.bmain hobj hints (Nat.le_trans hlen hn2) hr hF hsm hb fun H hH hS => hsp H a ns hlen hbits hH hS
end EndG

set_option Elab.async false
set_option linter.all false
set_option maxRecDepth 100000
set_option maxHeartbeats 2000000
/-! Kit: a def of the text with its facts, constants, a few operators. -/
namespace Kit
open PySem PySem.Spec PyProof.Rows L2 GxR Tree

/-- a def without defaults as it stands behind the top -/
structure DefAt (K : PySem.W.Frag) (mg : Str → Option Value) (x : Str) (st : Stmt) (ps : List Str) (f : Addr) (fd : FuncData) : Prop where
  F : FunD K x x (defArgs st) (defBody st) (defScope st) [] [] f fd
  g : mg x = some (.ref f)
  b : Binds K fd ps []
theorem DefAt.kp {K : PySem.W.Frag} {mg : Str → Option Value} {x : Str} {st : Stmt} {ps : List Str} {f : Addr} {fd : FuncData} (D : DefAt K mg x st ps f fd) : PySem.W.keepIn K (.ref f) = true := D.F.kp
/-- the code object of the def and its table -/
structure TabAt (base : Heap) (mg : Str → Option Value) (fd : FuncData) (c P : Addr) : Prop where
  code : fd.code = .ref c
  tb : LamX.TabB base mg c P
section
variable {P : Program} {w : World} {K : PySem.W.Frag} {mg : Str → Option Value} {base : Heap} {x : Str} {st : Stmt} {ps : List Str} {f : Addr} {fd : FuncData}
/-- THE RULE for a def; its code object is told -/
theorem DefAt.ok {N : List Str} {k : Nat} {sp : Sp} (D : DefAt K mg x st ps f fd) (S : FnScope N ps (defScope st)) (len : ∀ vs H Q E, sp vs H Q E → vs.length = ps.length)
    (hbody : ∀ (cdv : Value) (A : Around) (outer : List Env) (s : Shared) (H : Hp) (vs : List V) (Q : VK) (E : XK), fd.code = cdv → Room k (A.deeper (envOfC x (defScope st) s.heap.objs.size f cdv)) → sp vs H Q E →
      ∃ t, PSs (cxOf CX0 P w K mg base N x (defScope st) f cdv A outer s H E).nox (defBody st) t ∧ t { nx := fun _ H' => Q .non H', rt := Q } (start N vs) H) : FnOk P w K mg base CX0 (k + 1) f fd ps sp := by
  obtain ⟨oc, od, dV, kV, doc, pm, an, cdv, ct, osl, rfl, lk, hcd, _, _⟩ := D.F.ex
  exact fn_of lk hcd S len fun A outer s H vs Q E hr hsp => by
    obtain ⟨t, h, q⟩ := hbody cdv A outer s H vs Q E rfl hr hsp
    exact ⟨t, h.nox, q⟩
end
/-- the built-in names that the text does not bind -/
structure Bt (mg : Str → Option Value) : Prop where
  len : mg "len" = none
  range : mg "range" = none
  isinstance : mg "isinstance" = none
  int : mg "int" = none
  bool : mg "bool" = none
  str : mg "str" = none
  list : mg "list" = none
  tuple : mg "tuple" = none
  set : mg "set" = none
  dict : mg "dict" = none
  sorted : mg "sorted" = none
  repr : mg "repr" = none
  max : mg "max" = none
  min : mg "min" = none
  sum : mg "sum" = none
  all : mg "all" = none
  any : mg "any" = none
section
variable {X : Cx}
/-- a constant of the module -/
theorem pe_gint {x : Str} {i : Int} {pos : Pos} (hg : Gl X x) (hm : ∃ t, X.mg x = some (.int i t)) (hd : (x == ("__debug__" : Str)) = false := by decide) : PE X (.Name x pos) (tC (.int i)) := by
  obtain ⟨t, hm⟩ := hm
  exact pe_glob hg hm ⟨_, rfl⟩ hd
/-! rules with the written part named (so that a reading within a block does not hang on the block) -/
theorem ix_listK (K : PySem.W.Frag) (h : X.K = K) : IxR X (rIxL K) := h ▸ ix_list
theorem ix_tupK (K : PySem.W.Frag) (h : X.K = K) : IxR X (rIxT K) := h ▸ ix_tup
theorem sl_listK (K : PySem.W.Frag) (h : X.K = K) : SlR X (rSlL K) := h ▸ sl_list
theorem sl_tupAK (K : PySem.W.Frag) (h : X.K = K) : SlR X (rSlA K) := h ▸ sl_tupA
def rLenK (K : PySem.W.Frag) : List V → Hp → VK → Prop := fun xs H Q => ∃ p ys, xs = [.ref p] ∧ (SqL K H p ys ∨ SqT K H p ys) ∧ Q (.int ys.length) H
theorem call_lenK (K : PySem.W.Frag) (h : X.K = K) : CallR X (.builtin "len") (rLenK K) := h ▸ call_len_seq
theorem call_isiK' (K : PySem.W.Frag) (h : X.K = K) : CallR X (.builtin "isinstance") (rIsi K) := h ▸ call_isi
theorem call_isiTK (K : PySem.W.Frag) (h : X.K = K) : CallR X (.builtin "isinstance") (rIsiT K) := h ▸ call_isiT
def rListK (K : PySem.W.Frag) : List V → Hp → VK → Prop := fun xs H Q => ∃ p ys, xs = [.ref p] ∧ (SqL K H p ys ∨ SqT K H p ys) ∧ ∀ l, H l = none → Q (.ref l) (upd H l (.lst ys))
theorem call_listK (K : PySem.W.Frag) (h : X.K = K) : CallR X (.type "list") (rListK K) := h ▸ call_list_of
def rTupleK (K : PySem.W.Frag) : List V → Hp → VK → Prop := fun xs H Q => ∃ p ys, xs = [.ref p] ∧ ((SqL K H p ys ∧ ∀ l, H l = none → Q (.ref l) (upd H l (.tup ys))) ∨ (SqT K H p ys ∧ Q (.ref p) H))
theorem call_tupleK (K : PySem.W.Frag) (h : X.K = K) : CallR X (.type "tuple") (rTupleK K) := h ▸ call_tuple_of
theorem op_inK (K : PySem.W.Frag) (h : X.K = K) : OpR X (compareOp .In) (rIn K false) := h ▸ op_in_seq
theorem op_notInK (K : PySem.W.Frag) (h : X.K = K) : OpR X (compareOp .NotIn) (rIn K true) := h ▸ op_notIn_seq
theorem op_catAK (K : PySem.W.Frag) (h : X.K = K) : OpR X (binaryOp .Add) (rCatA K) := h ▸ op_catA
theorem op_eqDK (K : PySem.W.Frag) (h : X.K = K) (hu : X.A.units + 64 < cLine) : OpR X (compareOp .Eq) (rEqD K) := h ▸ op_eqD hu
theorem op_neDK (K : PySem.W.Frag) (h : X.K = K) (hu : X.A.units + 64 < cLine) : OpR X (compareOp .NotEq) (rNeD K) := h ▸ op_neD hu
theorem pi_listK (K : PySem.W.Frag) (h : X.K = K) {tg l : Expr} {tl : TE} (hl : PE X l tl) : PI X tg l (iList K tl) := h ▸ pi_list hl
theorem pi_tupK (K : PySem.W.Frag) (h : X.K = K) {tg l : Expr} {tl : TE} (hl : PE X l tl) : PI X tg l (iTup K tl) := h ▸ pi_tup hl
theorem pg_tupK (K : PySem.W.Frag) (hK : X.K = K) {es : List Expr} {k : Nat} {t : TGs} {n : Nat} {pos : Pos} (hc : X.calm = true) (h : PGs X es t)
    (hn : (assignEach es X.env).length = n := by rfl) (hst : (assignEach es X.env).findIdx? (·.1) = none := by rfl) : PG X (.Tuple es k pos) (gTup K n t) := hK ▸ pg_tup hc h hn hst
theorem pe_revLK (K : PySem.W.Frag) (h : X.K = K) {e : Expr} {te : TE} {k j : Nat} {p1 p2 p3 pos : Pos} (he : PE X e te) : PE X (.Subscript e (.Slice none none (some (.UnaryOp .USub (.Constant (.int 1) k p1) p2)) p3) pos) (tRevL K te) := h ▸ pe_revL he
/-- ** of ints that are not too great -/
def CPowW (i j : Int) : Prop := 0 ≤ j ∧ (i.natAbs.log2 + 1 : Nat) * j ≤ 2 ^ 27
theorem op_powW : OpR X (binaryOp .Pow) (rI CPowW fun i j => .int (i ^ j.toNat)) := opI fun i j _ _ _ _ _ hc q => by
  refine pow_int hc.1 ?_ q
  have h1 : Builtin.Int.intBits i ≤ i.natAbs.log2 + 1 := by
    unfold Builtin.Int.intBits
    split <;> omega
  have h2 : ((Builtin.Int.intBits i : Nat) : Int) * j ≤ ((i.natAbs.log2 + 1 : Nat) : Int) * j := Int.mul_le_mul_of_nonneg_right (by exact_mod_cast h1) hc.1
  exact Int.le_trans h2 hc.2
theorem powW_ok {i j : Int} {b : Nat} (hj : 0 ≤ j) (hi : i.natAbs < 2 ^ b) (h0 : 0 < b) (h : (b : Int) * j ≤ 2 ^ 27) : CPowW i j := by
  refine ⟨hj, ?_⟩
  have h1 := PySem.Flt.log2_lt_of h0 hi
  exact Int.le_trans (Int.mul_le_mul_of_nonneg_right (by omega) hj) h
end
end Kit

set_option Elab.async false
set_option linter.all false
set_option maxRecDepth 100000
set_option maxHeartbeats 2000000
/-! Data: what a day is, as a total function on trees. -/
namespace Data
open PySem PySem.Spec PyProof.Rows L2 GxR Tree Kit

def isiD (T : String) : PyData → Bool
  | .int _ => T == "int"
  | .bool _ => T == "int" || T == "bool"
  | .none => T == "NoneType"
  | .str _ => T == "str"
  | .list _ => T == "list"
  | .tuple _ => T == "tuple"
  | .dict _ => T == "dict"
theorem kit_int {K : PySem.W.Frag} (d : PyData) : PySem.W.kitOne K (.type (tyD d)) (.type "int") = some (isiD "int" d) := by
  cases d <;> (refine kit_ty ?_; dsimp only [tyD, isiD]; decide +kernel)
theorem kit_bool {K : PySem.W.Frag} (d : PyData) : PySem.W.kitOne K (.type (tyD d)) (.type "bool") = some (isiD "bool" d) := by
  cases d <;> (refine kit_ty ?_; dsimp only [tyD, isiD]; decide +kernel)
theorem kit_list {K : PySem.W.Frag} (d : PyData) : PySem.W.kitOne K (.type (tyD d)) (.type "list") = some (isiD "list" d) := by
  cases d <;> (refine kit_ty ?_; dsimp only [tyD, isiD]; decide +kernel)
theorem kit_tuple {K : PySem.W.Frag} (d : PyData) : PySem.W.kitOne K (.type (tyD d)) (.type "tuple") = some (isiD "tuple" d) := by
  cases d <;> (refine kit_ty ?_; dsimp only [tyD, isiD]; decide +kernel)

def isNum : PyData → Bool
  | .int _ => true
  | _ => false
def isWh (lo hi : Int) : PyData → Bool
  | .int i => decide (lo ≤ i) && decide (i ≤ hi)
  | _ => false
def isLs (lo hi : Int) : PyData → Bool
  | .list xs => decide (lo ≤ (xs.length : Int)) && decide ((xs.length : Int) ≤ hi)
  | _ => false
def isTp (n : Int) : PyData → Bool
  | .tuple xs => decide ((xs.length : Int) = n)
  | _ => false
def listAll (p : PyData → Bool) : PyData → Bool
  | .list xs => xs.all p
  | _ => false
/-- the ints among the things -/
def intsD : List PyData → List Int
  | [] => []
  | .int i :: r => i :: intsD r
  | _ :: r => intsD r
def risesB (ns : List Int) : Bool := decide (ns.Pairwise (· < ·))
def heardB (craft : Int) : PyData → Bool
  | .list xs => xs.all (isWh 0 (craft - 1)) && risesB (intsD xs)
  | _ => false
def sightB (hours craft : Int) : PyData → Bool := fun d => isLs hours hours d && listAll (heardB craft) d
def storesB : PyData → Bool := fun d => isLs 1 4 d && listAll (isWh 0 5) d
def sightsB (hours craft : Int) : PyData → Bool := fun d => isLs 1 3 d && listAll (sightB hours craft) d
def isNone : PyData → Bool
  | .none => true
  | _ => false
def asksB (dishes : Int) : PyData → Bool := fun d => isLs dishes dishes d && listAll (fun a => isNone a || isWh 0 999 a) d
def blockB (hours craft : Int) : PyData → Bool
  | .tuple [house, number, ready, due, worth] => isWh 0 5 house && (isWh 0 (craft - 1) number && (isWh 0 (hours - 1) ready && ((isNone due || (match ready with | .int r => isWh r (hours - 1) due | _ => false)) && isWh 1 9999 worth)))
  | _ => false
def blocksB (hours craft : Int) : PyData → Bool := fun d => isLs 0 14 d && listAll (blockB hours craft) d
def lenD : PyData → Int
  | .list xs => xs.length
  | .tuple xs => xs.length
  | _ => 0
def intOf : PyData → Int
  | .int i => i
  | _ => 0
def isDayB : PyData → Bool
  | .tuple [hours, stores, sights, asks, blocks] => isWh 1 10 hours && (storesB stores && (sightsB (intOf hours) (lenD stores) sights && (asksB (lenD sights) asks && blocksB (intOf hours) (lenD stores) blocks)))
  | _ => false

theorem isWh_int {lo hi : Int} {d : PyData} (h : isWh lo hi d = true) : ∃ i, d = .int i ∧ lo ≤ i ∧ i ≤ hi := by
  cases d with
  | int i =>
    have h' : (decide (lo ≤ i) && decide (i ≤ hi)) = true := h
    simp only [Bool.and_eq_true, decide_eq_true_eq] at h'
    exact ⟨i, rfl, h'.1, h'.2⟩
  | _ => cases h
theorem isLs_list {lo hi : Int} {d : PyData} (h : isLs lo hi d = true) : ∃ xs, d = .list xs ∧ lo ≤ (xs.length : Int) ∧ (xs.length : Int) ≤ hi := by
  cases d with
  | list xs =>
    have h' : (decide (lo ≤ (xs.length : Int)) && decide ((xs.length : Int) ≤ hi)) = true := h
    simp only [Bool.and_eq_true, decide_eq_true_eq] at h'
    exact ⟨xs, rfl, h'.1, h'.2⟩
  | _ => cases h
theorem isTp_tuple {n : Int} {d : PyData} (h : isTp n d = true) : ∃ xs, d = .tuple xs ∧ (xs.length : Int) = n := by
  cases d with
  | tuple xs => exact ⟨xs, rfl, of_decide_eq_true h⟩
  | _ => cases h
theorem tuple5 {xs : List PyData} (h : (xs.length : Int) = 5) : ∃ a b c d e, xs = [a, b, c, d, e] := by
  match xs, h with
  | [a, b, c, d, e], _ => exact ⟨a, b, c, d, e, rfl⟩
  | [], h => simp at h
  | [_], h => simp at h
  | [_, _], h => simp at h
  | [_, _, _], h => simp at h
  | [_, _, _, _], h => simp at h
  | _ :: _ :: _ :: _ :: _ :: _ :: r, h => simp at h; omega
theorem all_ints {lo hi : Int} : ∀ {xs : List PyData}, xs.all (isWh lo hi) = true → xs = (intsD xs).map PyData.int
  | [], _ => rfl
  | x :: r, h => by
    rw [List.all_cons, Bool.and_eq_true] at h
    obtain ⟨i, rfl, _, _⟩ := isWh_int h.1
    show PyData.int i :: r = PyData.int i :: (intsD r).map PyData.int
    rw [← all_ints h.2]
/-! ### how many parts -/
mutual
def sz : PyData → Nat
  | .none => 1
  | .bool _ => 1
  | .int _ => 1
  | .str _ => 1
  | .list xs => szAll xs + 1
  | .tuple xs => szAll xs + 1
  | .dict _ => 1
def szAll : List PyData → Nat
  | [] => 0
  | x :: xs => sz x + szAll xs
end
theorem sz_pos (d : PyData) : 1 ≤ sz d := by
  cases d <;> simp only [sz] <;> omega
theorem szAll_mem : ∀ {xs : List PyData} {d : PyData}, d ∈ xs → sz d ≤ szAll xs
  | x :: xs, d, h => by
    simp only [szAll]
    rcases List.mem_cons.mp h with rfl | h
    · omega
    · have := szAll_mem h
      omega
theorem szAll_len : ∀ xs : List PyData, xs.length ≤ szAll xs
  | [] => Nat.le_refl _
  | x :: xs => by
    have h1 := sz_pos x
    have h2 := szAll_len xs
    simp only [szAll, List.length_cons]
    omega
theorem szAll_append : ∀ xs ys : List PyData, szAll (xs ++ ys) = szAll xs + szAll ys
  | [], ys => by simp [szAll]
  | x :: xs, ys => by
    simp only [List.cons_append, szAll, szAll_append xs ys]
    omega
theorem intsD_length : ∀ xs : List PyData, (intsD xs).length ≤ xs.length
  | [] => Nat.le_refl _
  | x :: xs => by
    have ih := intsD_length xs
    cases x <;> simp only [intsD, List.length_cons] <;> omega
end Data

set_option Elab.async false
set_option linter.all false
set_option maxRecDepth 100000
set_option maxHeartbeats 2000000
/-! Loops: all, any over lists of trees and over ranges; comprehensions over them; what they keep is said by Kx. -/
namespace Loops
open PySem PySem.Spec PyProof.Rows L2 GxR GX Tree Kit
section
variable {K : PySem.W.Frag} {P : Addr} {g : TG} {te : TE} {vs : List Nat} {σ : L2.St} {H : Hp} {Q : VK}
/-- all(e for x in l), l the list at a: one turn hands on any wish R of the truth -/
theorem all_tree {a : Addr} {xs : List V} {ds : List PyData} {pd : PyData → Bool} (ha : H a = some (.lst xs)) (hd : TrAll [] H xs ds) (hT : TabG H P)
    (step : ∀ x d H', d ∈ ds → Tr [] H' x d → Kx [] H H' → ∀ R : Bool → Hp → Prop, (∀ H'', Kx [] H' H'' → R (pd d) H'') → g x (wipe σ vs) H' fun σ2 H2 => wipe σ2 vs = wipe σ vs ∧ te σ2 H2 fun y H4 => ∃ b, y = .bl b ∧ R b H4)
    (q : ∀ H', Kx [] H H' → Q (.bl (ds.all pd)) H') :
    TabG H P ∧ ∀ H2, Tabbed P H H2 → ∃ W : Nat → Nat → Hp → Prop, (∃ m, W 0 m H2) ∧ GTurns (Itl K a) g tYes te vs σ W (fun H => Q (.bl true) H) (consAll fun b H => Q (.bl b) H) := by
  refine ⟨hT, fun H2 ht => ?_⟩
  have hlen := hd.length
  refine ⟨fun i m H' => m = xs.length - i ∧ i ≤ xs.length ∧ Kx [] H H' ∧ (ds.take i).all pd = true, ⟨xs.length, by simp, Nat.zero_le _, Kx.tabbed hT ht, by simp⟩, ?_⟩
  rintro i m H' ⟨rfl, hi, k, hp⟩
  have hS : SqL K H' a xs := SqL.of (k.lst (by simp) ha)
  by_cases hlt : i < xs.length
  · have hdl : i < ds.length := by omega
    have ei : ds[i]? = some ds[i] := List.getElem?_eq_getElem hdl
    have et : (ds.take (i + 1)).all pd = ((ds.take i).all pd && pd ds[i]) := by
      rw [List.take_add_one, ei, List.all_append]
      simp
    refine .inr ⟨⟨xs, xs[i], hS, by simp [hlt]⟩, fun H'' => Kx [] H H'' ∧ pd ds[i] = true, fun H'' z => ⟨xs.length - (i + 1), by omega, rfl, hlt, z.1, by rw [et, hp, z.2]; rfl⟩, fun x H5 y => ?_⟩
    obtain ⟨rfl, y⟩ := y
    have hx := y xs hS
    obtain ⟨d, e1, e2⟩ := (hd.up k).get hx
    rw [ei] at e1
    cases e1
    have st := step x ds[i] H5 (List.getElem_mem hdl) e2 k (fun b H4 => if b = true then (Kx [] H H4 ∧ pd ds[i] = true) else Q (.bl false) H4) (fun H'' k2 => by
      cases hb : pd ds[i] with
      | true => exact ⟨k.trans k2, rfl⟩
      | false =>
        have hall : ds.all pd = false := by
          rw [Bool.eq_false_iff]
          intro z
          rw [List.all_eq_true.mp z _ (List.getElem_mem hdl)] at hb
          cases hb
        have := q H'' (k.trans k2)
        rw [hall] at this
        exact this)
    exact st
  · have e : i = xs.length := by omega
    subst e
    refine .inl ⟨⟨xs, hS, Nat.le_refl _⟩, ?_⟩
    have := q H' k
    rw [hlen, List.take_length] at hp
    rw [hp] at this
    exact this
/-- all(e for i in range(n)) -/
theorem all_range {n : Nat} {p : Nat → Bool} (hT : TabG H P)
    (step : ∀ i H', i < n → Kx [] H H' → ∀ R : Bool → Hp → Prop, (∀ H'', Kx [] H' H'' → R (p i) H'') → g (.int i) (wipe σ vs) H' fun σ2 H2 => wipe σ2 vs = wipe σ vs ∧ te σ2 H2 fun y H4 => ∃ b, y = .bl b ∧ R b H4)
    (q : ∀ H', Kx [] H H' → Q (.bl ((List.range n).all p)) H') :
    TabG H P ∧ ∀ H2, Tabbed P H H2 → ∃ W : Nat → Nat → Hp → Prop, (∃ m, W 0 m H2) ∧ GTurns (Itr 0 n) g tYes te vs σ W (fun H => Q (.bl true) H) (consAll fun b H => Q (.bl b) H) := by
  refine ⟨hT, fun H2 ht => ?_⟩
  refine ⟨fun i m H' => m = n - i ∧ i ≤ n ∧ Kx [] H H' ∧ ∀ j, j < i → p j = true, ⟨n, by simp, Nat.zero_le _, Kx.tabbed hT ht, fun j hj => absurd hj (Nat.not_lt_zero _)⟩, ?_⟩
  rintro i m H' ⟨rfl, hi, k, hp⟩
  by_cases hlt : i < n
  · refine .inr ⟨hlt, fun H'' => Kx [] H H'' ∧ p i = true, fun H'' z => ⟨n - (i + 1), by omega, rfl, hlt, z.1, fun j hj => ?_⟩, fun x H5 y => ?_⟩
    · rcases Nat.lt_or_eq_of_le (Nat.le_of_lt_succ hj) with h | h
      · exact hp j h
      · rw [h]; exact z.2
    · obtain ⟨rfl, rfl⟩ := y
      rw [Int.zero_add]
      refine step i H5 hlt k (fun b H4 => if b = true then (Kx [] H H4 ∧ p i = true) else Q (.bl false) H4) (fun H'' k2 => ?_)
      cases hb : p i with
      | true => exact ⟨k.trans k2, rfl⟩
      | false =>
        have hall : (List.range n).all p = false := by
          rw [Bool.eq_false_iff]
          intro z
          rw [List.all_eq_true.mp z i (List.mem_range.mpr hlt)] at hb
          cases hb
        have := q H'' (k.trans k2)
        rw [hall] at this
        exact this
  · have e : i = n := by omega
    subst e
    refine .inl ⟨Nat.le_refl _, ?_⟩
    have := q H' k
    rw [show (List.range i).all p = true from List.all_eq_true.mpr fun j hj => hp j (List.mem_range.mp hj)] at this
    exact this
/-- the same at a name that holds the list -/
theorem all_treeV {j : Nat} {a : Addr} {xs : List V} {ds : List PyData} (pd : PyData → Bool) (hσ : σ[j]? = some (some (.ref a))) (ha : H a = some (.lst xs)) (hd : TrAll [] H xs ds) (hT : TabG H P)
    (step : ∀ x d H', d ∈ ds → Tr [] H' x d → Kx [] H H' → ∀ R : Bool → Hp → Prop, (∀ H'', Kx [] H' H'' → R (pd d) H'') → g x (wipe σ vs) H' fun σ2 H2 => wipe σ2 vs = wipe σ vs ∧ te σ2 H2 fun y H4 => ∃ b, y = .bl b ∧ R b H4)
    (q : ∀ H', Kx [] H H' → Q (.bl (ds.all pd)) H') : tAllG P (iList K (tVar j)) g tYes te vs σ H Q :=
  ⟨.ref a, hσ, a, rfl, ⟨xs, SqL.of ha⟩, all_tree ha hd hT step q⟩
end
end Loops

set_option Elab.async false
set_option linter.all false
set_option maxRecDepth 100000
set_option maxHeartbeats 4000000
/-! Sets: set(l) of a list of ints, to be sorted; a list compared with an empty one. -/
namespace Sets
open PySem PySem.Spec PyProof.Rows L2
section
variable {P : Program} {w : World} {A : Around} {E : Value → Shared → Prop} {s : Shared}
abbrev soO (w : World) : Obj := { cls := .type "set", dict := none, data := .set #[] 0 (.fresh 0 0 (!w.params.followText "set-order")) }
theorem set_of_list {l : Addr} {items : Array Value} (ns : List Int) {Q : Value → Shared → Prop} (hh : A.handled = none) (hl : s.heap.IsList l items) (hit : IntsAre items.toList ns) (hb : ns.length + 1 < scanBound)
    (h : ∀ (h' : Heap) (tk c : Nat), SetR w h' s.heap.objs.size (fun j => decide (j ∈ ns)) c → c ≤ ns.length → (∀ b o, s.heap.get? b = some o → h'.get? b = some o) → Q (.ref s.heap.objs.size) { s with heap := h', toks := tk }) :
    wpAny (model P w) A (call (.type "set") [.ref l]) Q E s := by
  have hisz : items.size = ns.length := by simpa using hit.length
  obtain ⟨c, tl, hmro⟩ := F.called_set.mro
  have hmade := F.called_set.made
  have hsub := F.called_set.sub
  refine wpAny_call (codeAny_of_tree ?_)
  show wpAny _ _ (callAny (.type "set") _) _ _ _
  refine wpAny_pure ⟨Code.quiet_builtin _ (by decide +kernel), codeAny_builtin F.entry_type_call ?_⟩
  rw [Around.under_plain (weight_type_call_type "set" [.ref l] []) rfl]
  have h1 := F.called_set.notType
  have h2 := F.called_set.canCreate
  have hct := F.typeCall_set_1 (.ref l)
  repeat (any_goals (first | assumption | wp_step))
  have new := code_set_led1 (P := P) (w := w) (A := A.in1) (s := s) (.ref l) (E := E) (Q₁ := fun obj s₁ => obj = .ref s.heap.objs.size ∧ s₁ = { s with heap := s.heap.push (soO w) }) ⟨rfl, rfl⟩
  refine codeAny_mono new fun r s₁ hr => ?_
  match r, hr with
  | .error e, hr => exact hr
  | .ok .next, hr => exact hr.elim
  | .ok .brk, hr => exact hr.elim
  | .ok .cont, hr => exact hr.elim
  | .ok (.ret obj), hr =>
    obtain ⟨rfl, rfl⟩ := hr
    have hS : (s.heap.push (soO w)).get? s.heap.objs.size = some (soO w) := Heap.get?_push_size _ rfl
    have hT : Shared.TypeIs { s with heap := s.heap.push (soO w) } (.ref s.heap.objs.size) "set" := ⟨_, hS, rfl⟩
    have hli := F.called_set.init.lookup
    have hbi := F.called_set.init.bind (.ref s.heap.objs.size)
    repeat (any_goals (first | assumption | wp_step))
    refine codeAny_mono (codeAny_call_builtin (R := wants (fun r s₂ => r = .none ∧ ∃ h' tk c, s₂ = { s with heap := h', toks := tk } ∧ SetR w h' s.heap.objs.size (fun j => decide (j ∈ ns)) c ∧ c ≤ ns.length ∧
        (∀ b o, s.heap.get? b = some o → h'.get? b = some o)) E) F.called_set.init.plain F.entry_set_init (check_set_init_1 hT ?_)) fun r₂ s₂ hr₂ => ?_
    · obtain ⟨ol, hol, hcl, nl, hdl⟩ := hl
      obtain ⟨ocls, odict, odata, oslots⟩ := ol
      simp only at hcl hdl
      subst hcl; subst hdl
      have hol' : (s.heap.push (soO w)).get? l = some { cls := .type "list", dict := odict, data := .seq items nl, slots := oslots } := Heap.get?_push_of_some _ hol
      have hsls := F.sub_list_set
      have hslf := F.sub_list_frozenset
      have hne : (Value.type "list" == Value.type "dict") = false := by decide
      have hl1 : (s.heap.push (soO w)).IsList l items := ⟨_, hol', rfl, nl, rfl⟩
      unfold Builtin.«set.__init__» noKeywords Builtin.Frozenset.updateFrom
      generalize hPI : pyIter = PI
      wp_walk
      subst hPI
      refine wpAny_pyIter_list hl1 ?_
      refine wpAny_bind (wpAny_runValue ?_)
      have hlS : l < s.heap.objs.size := Heap.lt_size hol
      have sz1 : (s.heap.push (soO w)).objs.size = s.heap.objs.size + 1 := Heap.size_push ..
      have hneI : l ≠ (s.heap.push (soO w)).objs.size := by rw [sz1]; exact Nat.ne_of_lt (Nat.lt_succ_of_lt hlS)
      have hSf : s.heap.objs.size ∉ [(s.heap.push (soO w)).objs.size, l] := fun hm => by
        rcases List.mem_cons.mp hm with e | hm
        · rw [sz1] at e; exact absurd e (Nat.ne_of_lt (Nat.lt_succ_self _))
        · rcases List.mem_cons.mp hm with e | hm
          · exact absurd e (Nat.ne_of_gt hlS)
          · cases hm
      have hval : ∀ (i : Nat) (v : Value), items[i]? = some v → ∃ k t, ns[i]? = some k ∧ v = .int k t := fun i v hv => by
        have hi : i < ns.length := by rw [← hisz]; exact (Array.getElem?_eq_some_iff.mp hv).1
        obtain ⟨t, e⟩ := PyProof.Rows.IntsAre.int_at hit i v (by rw [Array.getElem?_toList]; exact hv)
        exact ⟨ns[i], t, List.getElem?_eq_getElem hi, by rw [e, List.getD_eq_getElem?_getD, List.getElem?_eq_getElem hi]; rfl⟩
      have hh3 : A.in1.in1.in1.handled = none := hh
      refine set_update_ints ((Walks.list hh3 _ l hneI items).toS) s.heap.objs.size hSf ns hisz hb hval (items.size - 0) 0 _ (by omega) (Nat.zero_le _)
        ⟨⟨_, Heap.get?_push_size _ rfl, rfl, rfl⟩, (hl1.push _)⟩ ⟨0, Nat.le_refl 0, setR_new_at (Heap.get?_push_of_some _ hS)⟩ fun s' c' hm hc' hS' => ?_
      obtain ⟨h', g2, d', tk', os'⟩ := s'
      obtain rfl : g2 = s.gens := hm.gens
      obtain rfl : d' = s.drawn := hm.drawn
      obtain rfl : os' = s.os := hm.os
      show wpAny _ _ _ _ _ _
      refine wpAny_pure ?_
      show wpAny _ _ (ret Value.none) _ _ _
      rw [hisz] at hc'
      refine wpAny_pure ⟨rfl, h', tk', c', rfl, hS', hc', fun b o e => ?_⟩
      have hb0 : b < s.heap.objs.size := Heap.lt_size e
      refine hm.heap b o (fun hm => ?_) (Heap.get?_push_of_some _ (Heap.get?_push_of_some _ e))
      rcases List.mem_cons.mp hm with e | hm
      · exact absurd e (Nat.ne_of_lt hb0)
      · rcases List.mem_cons.mp hm with e | hm
        · rw [sz1] at e; exact absurd e (Nat.ne_of_lt (Nat.lt_succ_of_lt hb0))
        · cases hm
    · match r₂, hr₂ with
      | .error e, hr₂ => exact hr₂
      | .ok .next, hr₂ => exact hr₂.elim
      | .ok .brk, hr₂ => exact hr₂.elim
      | .ok .cont, hr₂ => exact hr₂.elim
      | .ok (.ret r), hr₂ =>
        obtain ⟨rfl, h', tk, cc, rfl, hS', hc', hk'⟩ := hr₂
        repeat (any_goals (first | assumption | wp_step))
        exact h _ _ _ hS' hc' hk'
end
section
variable {X : Cx}
/-- set(l), l a list of ints -/
def rSetL (w : World) : List V → Hp → VK → Prop := fun xs H Q => ∃ (a : Addr) (ns : List Int), xs = [.ref a] ∧ H a = some (.lst (ns.map V.int)) ∧ ns.length ≤ 60 ∧
  ∀ p c, c ≤ ns.length → H p = none → Q (.ref p) (upd H p (SetO w p (fun j => decide (j ∈ ns)) c))
theorem call_setL (w : World) (hw : X.w = w) (hc : X.calm = true) : CallR X (.type "set") (rSetL w) := by
  subst hw
  intro pins s σ H vs us Q I r h
  obtain ⟨a, ns, rfl, ha, hz, q⟩ := h
  rw [Vals.ref1 r]
  obtain ⟨_, its, n, rv, e⟩ := I.hok a _ ha
  refine set_of_list ns (I.ok.hd hc) ⟨_, e, rfl, n, rfl⟩ (by simpa using ints_of_vals rv) (by unfold scanBound; omega) fun h' tk c R hle k => ?_
  have hn : H s.heap.objs.size = none := I.hok.fresh (Nat.le_refl _)
  exact ⟨.ref s.heap.objs.size, _, I.laid (t' := tk) k (Nat.le_refl _) (setO_new R), rfl, q _ c hle hn⟩
/-- l == [] and l != [] -/
def rEqNil : R2 := fun x y H Q => ∃ a b xs, x = .ref a ∧ y = .ref b ∧ H a = some (.lst xs) ∧ H b = some (.lst []) ∧ Q (.bl xs.isEmpty) H
def rNeNil : R2 := fun x y H Q => ∃ a b xs, x = .ref a ∧ y = .ref b ∧ H a = some (.lst xs) ∧ H b = some (.lst []) ∧ Q (.bl (!xs.isEmpty)) H
theorem op_eqNil (hu : X.A.units < cLine) : OpR X (compareOp .Eq) rEqNil := by
  intro pins s σ H x y v u Q I rx ry h
  obtain ⟨a, b, xs, rfl, rfl, ha, hb, q⟩ := h
  cases rx; cases ry
  obtain ⟨_, its, n, rv, e⟩ := I.hok a _ ha
  obtain ⟨_, its2, n2, rv2, e2⟩ := I.hok b _ hb
  cases rv2
  cases rv with
  | nil =>
    exact SeqAt.eq_listAt (e := fun _ => true) ⟨_, e, rfl, n, rfl⟩ ⟨_, e2, rfl, n2, rfl⟩ rfl hu (fun j h1 => absurd h1 (Nat.not_lt_zero _)) ⟨.bl true, H, I, rfl, q⟩
  | cons r rr =>
    exact SeqAt.eq_list_lengthsAt ⟨_, e, rfl, n, rfl⟩ ⟨_, e2, rfl, n2, rfl⟩ (by simp) hu ⟨.bl false, H, I, rfl, q⟩
theorem op_neNil (hu : X.A.units < cLine) : OpR X (compareOp .NotEq) rNeNil := by
  intro pins s σ H x y v u Q I rx ry h
  obtain ⟨a, b, xs, rfl, rfl, ha, hb, q⟩ := h
  cases rx; cases ry
  obtain ⟨_, its, n, rv, e⟩ := I.hok a _ ha
  obtain ⟨_, its2, n2, rv2, e2⟩ := I.hok b _ hb
  cases rv2
  cases rv with
  | nil =>
    exact SeqAt.RcNeAt.lists (e := fun _ => true) ⟨_, e, rfl, n, rfl⟩ ⟨_, e2, rfl, n2, rfl⟩ rfl hu (fun j h1 => absurd h1 (Nat.not_lt_zero _)) _ _ _ _ ⟨.bl false, H, I, rfl, q⟩
  | cons r rr =>
    exact SeqAt.RcNeAt.lists_lengths ⟨_, e, rfl, n, rfl⟩ ⟨_, e2, rfl, n2, rfl⟩ (by simp) hu _ _ _ _ ⟨.bl true, H, I, rfl, q⟩
end
end Sets

set_option Elab.async false
set_option linter.all false
set_option maxRecDepth 100000
set_option maxHeartbeats 2000000
/-! Comps: comprehensions and for loops whose turns may change what B names. -/
namespace Comps
open PySem PySem.Spec PyProof.Rows L2 GxR GX Tree Kit
/-- the iteration J hands out f 0, .., f (N - 1), as long as all stays but B -/
structure ItAt (J : It) (B : List Addr) (H : Hp) (N : Nat) (f : Nat → V) : Prop where
  go : ∀ i H', i < N → Kx B H H' → J.go i H'
  stop : ∀ H', Kx B H H' → J.stop N H'
  yld : ∀ i H' x H'', i < N → Kx B H H' → J.yld i H' x H'' → H'' = H' ∧ x = f i
theorem itr_at {B : List Addr} {H : Hp} (n : Nat) : ItAt (Itr 0 n) B H n (fun i => .int i) :=
  ⟨fun i H' h _ => h, fun H' _ => Nat.le_refl _, fun i H' x H'' h k y => by
    obtain ⟨rfl, rfl⟩ := y
    rw [Int.zero_add]
    exact ⟨rfl, rfl⟩⟩
theorem itl_at {K : PySem.W.Frag} {B : List Addr} {H : Hp} {a : Addr} {xs : List V} (h : H a = some (.lst xs)) (n : a ∉ B) : ItAt (Itl K a) B H xs.length (fun i => xs.getD i .non) :=
  ⟨fun i H' hi k => ⟨xs, xs[i], SqL.of (k.lst n h), by simp [hi]⟩, fun H' k => ⟨xs, SqL.of (k.lst n h), Nat.le_refl _⟩, fun i H' x H'' hi k y => by
    obtain ⟨rfl, y⟩ := y
    have := y xs (SqL.of (k.lst n h))
    exact ⟨rfl, by rw [List.getD_eq_getElem?_getD, this]; rfl⟩⟩
/-- after a step from H -/
theorem _root_.Tree.Kx.then {B C : List Addr} {H H1 H2 : Hp} (k : Kx C H H1) (k2 : Kx B H1 H2) (h : ∀ b ∈ B, b ∈ C) : Kx C H H2 := k.trans (k2.sub h)
/-- what a comprehension over the iteration J asks -/
def CompG (J : It) (g : TG) (tt : TT) (te : TE) (vs : List Nat) (σ : L2.St) (H : Hp) (Q : VK) : Prop := ∀ D, H D = none → ∃ W : Nat → Nat → Hp → Prop, (∃ m, W 0 m (upd H D (.lst []))) ∧ ∀ i m H, W i m H → (J.stop i H ∧ Q (.ref D) H) ∨ (J.go i H ∧ ∃ Nx : Hp → Prop, (∀ H', Nx H' → ∃ m', m' < m ∧ W (i + 1) m' H') ∧ ∀ x H', J.yld i H x H' → g x (wipe σ vs) H' fun σ2 H2 => wipe σ2 vs = wipe σ vs ∧ tt σ2 H2 fun b H3 => if b = true then te σ2 H3 fun y H4 => ∃ acc, H4 D = some (.lst acc) ∧ acc.length < sizeLine ∧ Nx (upd H4 D (.lst (acc ++ [y]))) else Nx H3)
theorem lc_use {wi : TI} {g : TG} {tt : TT} {te : TE} {vs : List Nat} {σ : L2.St} {H : Hp} {Q : VK} (h : wi σ H fun J H1 => CompG J g tt te vs σ H1 Q) : tLc wi g tt te vs σ H Q := h
theorem st_name {i : Nat} {v : V} {σ : L2.St} {H : Hp} {Q : L2.St → Hp → Prop} (h : Q (σ.set i (some v)) H) : gName i v σ H Q := h
theorem st_asg {te : TE} {g : TG} {D : Ends} {σ : L2.St} {H : Hp} (h : te σ H fun x H1 => g x σ H1 D.nx) : tAsg te g D σ H := h
theorem st_seq {a b : TS} {D : Ends} {σ : L2.St} {H : Hp} (h : a { D with nx := b D } σ H) : tSeq a b D σ H := h
theorem st_set {te : TE} {i : Nat} {b : TS} {D : Ends} {σ : L2.St} {H : Hp} (h : te σ H fun x H1 => b D (σ.set i (some x)) H1) : tSeq (tAsg te (gName i)) b D σ H := h
theorem st_yes {te : TE} {σ : L2.St} {H : Hp} {R : VK} {R0 : Hp → Prop} (h : te σ H R) : tYes σ H fun b H3 => if b = true then te σ H3 R else R0 H3 := by
  show if true = true then te σ H R else R0 H
  rw [if_pos rfl]
  exact h
theorem st_next {D : Ends} {σ : L2.St} {H : Hp} (h : D.nx σ H) : tNext D σ H := h
theorem st_ifs {t : TT} {a b : TS} {D : Ends} {σ : L2.St} {H : Hp} (h : t σ H fun c H1 => if c = true then a D σ H1 else b D σ H1) : tIfS t a b D σ H := h
theorem st_test {te : TE} {σ : L2.St} {H : Hp} {Q : Bool → Hp → Prop} (h : te σ H fun x H' => ∃ k, x = .bl k ∧ Q k H') : tTest te σ H Q := h
theorem st_op {r : R2} {ta tb : TE} {σ : L2.St} {H : Hp} {Q : VK} (h : ta σ H fun x H1 => tb σ H1 fun y H2 => r x y H2 Q) : tOp r ta tb σ H Q := h
theorem st_ret {te : TE} {D : Ends} {σ : L2.St} {H : Hp} (h : te σ H D.rt) : tRet te D σ H := h
theorem st_lst {ts : TA} {σ : L2.St} {H : Hp} {Q : VK} (h : ts σ H fun xs H1 => xs.length ≤ sizeLine ∧ ∀ p, H1 p = none → Q (.ref p) (upd H1 p (.lst xs))) : tLst ts σ H Q := h
theorem st_for {wi : TI} {g : TG} {tb : TS} {D : Ends} {σ : L2.St} {H : Hp} (h : wi σ H fun J H1 => ∃ W : Nat → Nat → L2.St → Hp → Prop, (∃ m, W 0 m σ H1) ∧ ∀ i m σ H, W i m σ H → (J.stop i H ∧ D.nx σ H) ∨ (J.go i H ∧ ∃ N : L2.St → Hp → Prop, (∀ σ' H', N σ' H' → ∃ m', m' < m ∧ W (i + 1) m' σ' H') ∧ ∀ x H', J.yld i H x H' → g x σ H' fun σ2 H2 => tb { D with nx := N, ct := N, bk := D.nx } σ2 H2)) : tFor wi g tb D σ H := h
theorem st_ilist {te : TE} {σ : L2.St} {H : Hp} {K : PySem.W.Frag} {R : It → Hp → Prop} (h : te σ H fun x H1 => ∃ a, x = .ref a ∧ (∃ xs, SqL K H1 a xs) ∧ R (Itl K a) H1) : iList K te σ H R := h
theorem st_cons {ta : TE} {ts : TA} {σ : L2.St} {H : Hp} {Q : List V → Hp → Prop} (h : ta σ H fun x H1 => ts σ H1 fun xs H2 => Q (x :: xs) H2) : tCons ta ts σ H Q := h
section
variable {g : TG} {tt : TT} {te : TE} {vs : List Nat} {σ : L2.St} {H : Hp} {Q : VK}
/-- a comprehension; A i acc: what is known of the items behind i turns -/
theorem lc_gen {J : It} {B : List Addr} {N : Nat} {f : Nat → V} (It : ItAt J B H N f) (hN : N < sizeLine) {D : Addr} (hD : H D = none) {A : Nat → List V → Hp → Prop}
    (h0 : A 0 [] (upd H D (.lst [])))
    (step : ∀ i H' acc, i < N → Kx B H H' → H' D = some (.lst acc) → A i acc H' → ∀ (R : V → Hp → Prop) (R0 : Hp → Prop),
      (∀ y H'', Kx B H H'' → H'' D = some (.lst acc) → A (i + 1) (acc ++ [y]) (upd H'' D (.lst (acc ++ [y]))) → R y H'') →
      (∀ H'', Kx B H H'' → H'' D = some (.lst acc) → A (i + 1) acc H'' → R0 H'') →
      g (f i) (wipe σ vs) H' fun σ2 H2 => wipe σ2 vs = wipe σ vs ∧ tt σ2 H2 fun b H3 => if b = true then te σ2 H3 R else R0 H3)
    (q : ∀ acc H', Kx B H H' → H' D = some (.lst acc) → A N acc H' → Q (.ref D) H') :
    ∃ W : Nat → Nat → Hp → Prop, (∃ m, W 0 m (upd H D (.lst []))) ∧ ∀ i m H, W i m H → (J.stop i H ∧ Q (.ref D) H) ∨ (J.go i H ∧ ∃ Nx : Hp → Prop, (∀ H', Nx H' → ∃ m', m' < m ∧ W (i + 1) m' H') ∧ ∀ x H', J.yld i H x H' → g x (wipe σ vs) H' fun σ2 H2 => wipe σ2 vs = wipe σ vs ∧ tt σ2 H2 fun b H3 => if b = true then te σ2 H3 fun y H4 => ∃ acc, H4 D = some (.lst acc) ∧ acc.length < sizeLine ∧ Nx (upd H4 D (.lst (acc ++ [y]))) else Nx H3) := by
  refine ⟨fun i m H' => m = N - i ∧ i ≤ N ∧ Kx B H H' ∧ ∃ acc, H' D = some (.lst acc) ∧ acc.length ≤ i ∧ A i acc H', ⟨N, by simp, Nat.zero_le _, (Kx.refl H).mut hD, [], upd_same, Nat.le_refl _, h0⟩, ?_⟩
  rintro i m H' ⟨rfl, hi, k, acc, hd, hl, ha⟩
  by_cases hlt : i < N
  · refine .inr ⟨It.go i H' hlt k, fun H'' => Kx B H H'' ∧ ∃ acc, H'' D = some (.lst acc) ∧ acc.length ≤ i + 1 ∧ A (i + 1) acc H'', fun H'' z => ⟨N - (i + 1), by omega, rfl, hlt, z.1, z.2⟩, fun x H5 y => ?_⟩
    obtain ⟨rfl, rfl⟩ := It.yld i H' x H5 hlt k y
    exact step i H5 acc hlt k hd ha _ _ (fun y H'' k2 hd2 ha2 => ⟨acc, hd2, by omega, k2.mut hD, _, upd_same, by rw [List.length_append]; exact Nat.succ_le_succ hl, ha2⟩) (fun H'' k2 hd2 ha2 => ⟨k2, acc, hd2, by omega, ha2⟩)
  · have e : i = N := by omega
    subst e
    exact .inl ⟨It.stop H' k, q acc H' k hd ha⟩
/-- items as trees: each turn hands on one that is G (or, where ex is false, perhaps none); Iv: what is known of all else -/
theorem lc_tr {J : It} {B C : List Addr} {N : Nat} {f : Nat → V} (It : ItAt J B H N f) (hN : N < sizeLine) {Iv : Nat → Hp → Prop} (G : PyData → Prop) (ex : Bool) (hBC : ∀ b ∈ B, b ∈ C) (hC : ∀ c ∈ C, H c ≠ none)
    (hIv : ∀ i H' D o, H D = none → Iv i H' → Iv i (upd H' D o)) (hBn : ∀ i H', Iv i H' → ∀ b ∈ B, H' b ≠ none) (h0 : Iv 0 H)
    (step : ∀ D i H', H D = none → (∀ c ∈ D :: C, H' c ≠ none) → i < N → Kx B H H' → Iv i H' → ∀ (R : V → Hp → Prop) (R0 : Hp → Prop),
      (∀ y d H'', Kx B H' H'' → Iv (i + 1) H'' → Tr (D :: C) H'' y d → G d → R y H'') →
      (ex = false → ∀ H'', Kx B H' H'' → Iv (i + 1) H'' → R0 H'') →
      g (f i) (wipe σ vs) H' fun σ2 H2 => wipe σ2 vs = wipe σ vs ∧ tt σ2 H2 fun b H3 => if b = true then te σ2 H3 R else R0 H3)
    (q : ∀ D ds H', Kx B H H' → Iv N H' → Tr C H' (.ref D) (.list ds) → ds.length ≤ N → (ex = true → ds.length = N) → (∀ d ∈ ds, G d) → Q (.ref D) H') :
    CompG J g tt te vs σ H Q := by
  intro D hD
  have nD : D ∉ C := fun h => hC D h hD
  have nB : D ∉ B := fun h => nD (hBC D h)
  refine lc_gen It hN hD (A := fun i acc H' => Iv i H' ∧ ∃ ds, TrAll (D :: C) H' acc ds ∧ ds.length ≤ i ∧ (ex = true → ds.length = i) ∧ ∀ d ∈ ds, G d) ⟨hIv 0 H D _ hD h0, [], .nil, Nat.le_refl _, fun _ => rfl, fun d h => nomatch h⟩ (fun i H' acc hi k hd ha R R0 hR hR0 => ?_) fun acc H' k hd ha => ?_
  · obtain ⟨iv, ds, ht, hl, hx, hg⟩ := ha
    have dk : ∀ {H''}, Kx B H' H'' → H'' D = some (.lst acc) := fun k2 => k2.lst nB hd
    refine step D i H' hD (fun c hc => ?_) hi k iv R R0 (fun y d H'' k2 iv2 ty gd => hR y H'' (k.trans k2) (dk k2) ⟨hIv _ _ _ _ hD iv2, ds ++ [d], ?_, by rw [List.length_append]; exact Nat.succ_le_succ hl, fun z => by rw [List.length_append, hx z]; rfl, fun d' h => ?_⟩) fun z H'' k2 iv2 => hR0 H'' (k.trans k2) (dk k2) ⟨iv2, ds, TrAll.kx k2 (fun b hb => List.mem_cons_of_mem _ (hBC b hb)) _ _ ht, Nat.le_succ_of_le hl, (fun y => by rw [z] at y; cases y), hg⟩
    · rcases List.mem_cons.mp hc with e | e
      · rw [e, hd]; simp
      · intro z
        by_cases hb : c ∈ B
        · exact hBn i H' iv c hb z
        · exact hC c e (k.free hb z)
    · have t2 := TrAll.kx k2 (fun b hb => List.mem_cons_of_mem _ (hBC b hb)) _ _ ht
      have kp : Kx [D] H'' (upd H'' D (.lst (acc ++ [y]))) := Kx.put (by simp)
      exact TrAll.kx kp (fun b hb => by rcases List.mem_cons.mp hb with e | e <;> simp_all) _ _ (t2.snoc ty)
    · rcases List.mem_append.mp h with h | h
      · exact hg d' h
      · rw [List.mem_singleton.mp h]; exact gd
  · obtain ⟨iv, ds, ht, hl, hx, hg⟩ := ha
    exact q D ds H' k iv (.lst nD hd (TrAll.less (fun b hb => List.mem_cons_of_mem _ hb) _ _ ht)) hl hx hg
/-- items as trees, each with the turn that made it -/
inductive Made (G : Nat → PyData → Prop) : List Nat → List PyData → Prop
  | nil : Made G [] []
  | snoc {js : List Nat} {ds : List PyData} {j : Nat} {d : PyData} : Made G js ds → (∀ i ∈ js, i < j) → G j d → Made G (js ++ [j]) (ds ++ [d])
theorem lc_ix {J : It} {B C : List Addr} {N : Nat} {f : Nat → V} (It : ItAt J B H N f) (hN : N < sizeLine) {Iv : Nat → Hp → Prop} (G : Nat → PyData → Prop) (hBC : ∀ b ∈ B, b ∈ C) (hC : ∀ c ∈ C, H c ≠ none)
    (hIv : ∀ i H' D o, H D = none → Iv i H' → Iv i (upd H' D o)) (hBn : ∀ i H', Iv i H' → ∀ b ∈ B, H' b ≠ none) (h0 : Iv 0 H)
    (step : ∀ D i H', H D = none → (∀ c ∈ D :: C, H' c ≠ none) → i < N → Kx B H H' → Iv i H' → ∀ (R : V → Hp → Prop) (R0 : Hp → Prop),
      (∀ y d H'', Kx B H' H'' → Iv (i + 1) H'' → Tr (D :: C) H'' y d → G i d → R y H'') →
      (∀ H'', Kx B H' H'' → Iv (i + 1) H'' → R0 H'') →
      g (f i) (wipe σ vs) H' fun σ2 H2 => wipe σ2 vs = wipe σ vs ∧ tt σ2 H2 fun b H3 => if b = true then te σ2 H3 R else R0 H3)
    (q : ∀ D js ds H', Kx B H H' → Iv N H' → Tr C H' (.ref D) (.list ds) → Made G js ds → (∀ j ∈ js, j < N) → Q (.ref D) H') :
    CompG J g tt te vs σ H Q := by
  intro D hD
  have nD : D ∉ C := fun h => hC D h hD
  have nB : D ∉ B := fun h => nD (hBC D h)
  refine lc_gen It hN hD (A := fun i acc H' => Iv i H' ∧ ∃ js ds, TrAll (D :: C) H' acc ds ∧ Made G js ds ∧ ∀ j ∈ js, j < i) ⟨hIv 0 H D _ hD h0, [], [], .nil, .nil, fun _ h => nomatch h⟩ (fun i H' acc hi k hd ha R R0 hR hR0 => ?_) fun acc H' k hd ha => ?_
  · obtain ⟨iv, js, ds, ht, hm, hl⟩ := ha
    have dk : ∀ {H''}, Kx B H' H'' → H'' D = some (.lst acc) := fun k2 => k2.lst nB hd
    refine step D i H' hD (fun c hc => ?_) hi k iv R R0 (fun y d H'' k2 iv2 ty gd => hR y H'' (k.trans k2) (dk k2) ⟨hIv _ _ _ _ hD iv2, js ++ [i], ds ++ [d], ?_, .snoc hm hl gd, fun j hj => ?_⟩) fun H'' k2 iv2 => hR0 H'' (k.trans k2) (dk k2) ⟨iv2, js, ds, TrAll.kx k2 (fun b hb => List.mem_cons_of_mem _ (hBC b hb)) _ _ ht, hm, fun j hj => Nat.lt_succ_of_lt (hl j hj)⟩
    · rcases List.mem_cons.mp hc with e | e
      · rw [e, hd]; simp
      · intro z
        by_cases hb : c ∈ B
        · exact hBn i H' iv c hb z
        · exact hC c e (k.free hb z)
    · have t2 := TrAll.kx k2 (fun b hb => List.mem_cons_of_mem _ (hBC b hb)) _ _ ht
      have kp : Kx [D] H'' (upd H'' D (.lst (acc ++ [y]))) := Kx.put (by simp)
      exact TrAll.kx kp (fun b hb => by rcases List.mem_cons.mp hb with e | e <;> simp_all) _ _ (t2.snoc ty)
    · rcases List.mem_append.mp hj with h | h
      · exact Nat.lt_succ_of_lt (hl j h)
      · rw [List.mem_singleton.mp h]; exact Nat.lt_succ_self i
  · obtain ⟨iv, js, ds, ht, hm, hl⟩ := ha
    exact q D js ds H' k iv (.lst nD hd (TrAll.less (fun b hb => List.mem_cons_of_mem _ hb) _ _ ht)) hm hl
theorem Made.rising {G : Nat → PyData → Prop} {js : List Nat} {ds : List PyData} (h : Made G js ds) : js.Pairwise (· < ·) := by
  induction h with
  | nil => exact .nil
  | snoc _ hl _ ih => exact List.pairwise_append.mpr ⟨ih, List.pairwise_singleton _ _, fun a ha b hb => by rw [List.mem_singleton.mp hb]; exact hl a ha⟩
theorem Made.eq {f : Nat → PyData} {js : List Nat} {ds : List PyData} (h : Made (fun j d => d = f j) js ds) : ds = js.map f := by
  induction h with
  | nil => rfl
  | snoc _ _ hg ih => rw [ih, hg, List.map_append]; rfl
theorem Made.length {G : Nat → PyData → Prop} {js : List Nat} {ds : List PyData} (h : Made G js ds) : js.length = ds.length := by
  induction h with
  | nil => rfl
  | snoc _ _ _ ih => rw [List.length_append, List.length_append, ih]; rfl
/-- [x for x in l if ..]: the items that pass; nothing old is changed -/
theorem lc_filter {K : PySem.W.Frag} {a : Addr} {xs : List V} {ds : List PyData} (pd : PyData → Bool) (ha : H a = some (.lst xs)) (hd : TrAll [] H xs ds) (hN : ds.length < sizeLine)
    (step : ∀ x d H', d ∈ ds → Tr [] H' x d → Kx [] H H' → ∀ (R : V → Hp → Prop) (R0 : Hp → Prop), (pd d = true → ∀ H'', Kx [] H' H'' → R x H'') → (pd d = false → ∀ H'', Kx [] H' H'' → R0 H'') →
      g x (wipe σ vs) H' fun σ2 H2 => wipe σ2 vs = wipe σ vs ∧ tt σ2 H2 fun b H3 => if b = true then te σ2 H3 R else R0 H3)
    (q : ∀ D ys H', Kx [] H H' → H D = none → H' D = some (.lst ys) → TrAll [] H' ys (ds.filter pd) → Q (.ref D) H') :
    CompG (Itl K a) g tt te vs σ H Q := by
  intro D hD
  have hlen := hd.length
  refine lc_gen (itl_at (B := []) ha (by simp)) (by omega) hD (A := fun i acc _ => TrAll [] H acc ((ds.take i).filter pd)) .nil (fun i H' acc hi k hdd hacc R R0 hR hR0 => ?_) fun acc H' k hdd hacc => ?_
  · have ei : ds[i]? = some ds[i] := List.getElem?_eq_getElem (by omega)
    have ex : xs[i]? = some xs[i] := List.getElem?_eq_getElem (by omega)
    obtain ⟨d, e1, e2⟩ := hd.get ex
    rw [ei] at e1
    cases e1
    have ef : ∀ b, pd ds[i] = b → (ds.take (i + 1)).filter pd = (ds.take i).filter pd ++ (if b = true then [ds[i]] else []) := fun b eb => by
      rw [List.take_add_one, ei, List.filter_append]
      cases b <;> simp [eb]
    have e3 : xs.getD i V.non = xs[i] := by
      rw [List.getD_eq_getElem?_getD, ex]; rfl
    rw [e3]
    refine step xs[i] ds[i] H' (List.getElem_mem (by omega)) (e2.up k) k R R0 (fun pt H'' k2 => hR _ H'' (k.trans k2) (k2.lst (by simp) hdd) ?_) fun pf H'' k2 => hR0 H'' (k.trans k2) (k2.lst (by simp) hdd) ?_
    · rw [ef true pt]
      exact hacc.snoc e2
    · rw [ef false pf]
      rw [if_neg (by simp), List.append_nil]
      exact hacc
  · rw [show xs.length = ds.length from hlen, List.take_length] at hacc
    exact q D acc H' k hD hdd (hacc.up k)
end
section
variable {g : TG} {tb : TS} {D : Ends} {σ : L2.St} {H : Hp}
/-- a for loop -/
theorem for_gen {J : It} {B : List Addr} {N : Nat} {f : Nat → V} (It : ItAt J B H N f) {Iv : Nat → L2.St → Hp → Prop} (h0 : Iv 0 σ H)
    (step : ∀ i σ' H', i < N → Kx B H H' → Iv i σ' H' → ∀ Nn : L2.St → Hp → Prop, (∀ σ'' H'', Kx B H H'' → Iv (i + 1) σ'' H'' → Nn σ'' H'') → g (f i) σ' H' fun σ2 H2 => tb { D with nx := Nn, ct := Nn, bk := D.nx } σ2 H2)
    (q : ∀ σ' H', Kx B H H' → Iv N σ' H' → D.nx σ' H') :
    ∃ W : Nat → Nat → L2.St → Hp → Prop, (∃ m, W 0 m σ H) ∧ ∀ i m σ H, W i m σ H → (J.stop i H ∧ D.nx σ H) ∨ (J.go i H ∧ ∃ N : L2.St → Hp → Prop, (∀ σ' H', N σ' H' → ∃ m', m' < m ∧ W (i + 1) m' σ' H') ∧ ∀ x H', J.yld i H x H' → g x σ H' fun σ2 H2 => tb { D with nx := N, ct := N, bk := D.nx } σ2 H2) := by
  refine ⟨fun i m σ' H' => m = N - i ∧ i ≤ N ∧ Kx B H H' ∧ Iv i σ' H', ⟨N, by simp, Nat.zero_le _, Kx.refl _, h0⟩, ?_⟩
  rintro i m σ' H' ⟨rfl, hi, k, hv⟩
  by_cases hlt : i < N
  · refine .inr ⟨It.go i H' hlt k, fun σ'' H'' => Kx B H H'' ∧ Iv (i + 1) σ'' H'', fun σ'' H'' z => ⟨N - (i + 1), by omega, rfl, hlt, z⟩, fun x H5 y => ?_⟩
    obtain ⟨rfl, rfl⟩ := It.yld i H' x H5 hlt k y
    exact step i σ' H5 hlt k hv _ fun σ'' H'' k2 h2 => ⟨k2, h2⟩
  · have e : i = N := by omega
    subst e
    exact .inl ⟨It.stop H' k, q σ' H' k hv⟩
end
end Comps

set_option Elab.async false
set_option linter.all false
set_option maxRecDepth 100000
set_option maxHeartbeats 2000000
/-! Purse: the list of which drawn numbers are taken; what is known beside it. -/
namespace Purse
open PySem PySem.Spec PyProof.Rows L2 GxR GX Tree Kit Comps
/-- the purse at p; its counter is at most n -/
def PurseAt (H : Hp) (p : Addr) (n : Nat) : Prop := ∃ a b c : Int, H p = some (.lst [.int a, .int b, .int c]) ∧ 0 ≤ a ∧ 0 ≤ b ∧ b < 2 ^ 150 ∧ 0 ≤ c ∧ c ≤ (n : Int)
/-- the addresses of C are taken, p is one of them and holds the purse; the tables Ts stand -/
structure At (Ts : List Addr) (C : List Addr) (p : Addr) (n : Nat) (H : Hp) : Prop where
  al : ∀ c ∈ C, H c ≠ none
  mem : p ∈ C
  pu : PurseAt H p n
  tb : Tb Ts H
theorem PurseAt.mono {H : Hp} {p : Addr} {n m : Nat} (h : PurseAt H p n) (l : n ≤ m) : PurseAt H p m := by
  obtain ⟨a, b, c, h1, h2, h3, h4, h5, h6⟩ := h
  exact ⟨a, b, c, h1, h2, h3, h4, h5, by omega⟩
theorem PurseAt.kx {H H' : Hp} {p : Addr} {n : Nat} (h : PurseAt H p n) (k : Kx [] H H') : PurseAt H' p n := by
  obtain ⟨a, b, c, h1, h2⟩ := h
  exact ⟨a, b, c, k.lst (by simp) h1, h2⟩
theorem PurseAt.ne {H : Hp} {p : Addr} {n : Nat} (h : PurseAt H p n) : H p ≠ none := by
  obtain ⟨a, b, c, h1, _⟩ := h
  rw [h1]; simp
section
variable {Ts C : List Addr} {p : Addr} {n m : Nat} {H H' : Hp}
theorem _root_.Tree.Kx.ne (k : Kx [] H H') {b : Addr} (h : H b ≠ none) : H' b ≠ none := fun z => h (k.free (by simp) z)
theorem At.mono (h : At Ts C p n H) (l : n ≤ m) : At Ts C p m H := ⟨h.al, h.mem, h.pu.mono l, h.tb⟩
theorem At.kx (h : At Ts C p n H) (k : Kx [] H H') : At Ts C p n H' := ⟨fun c hc => Kx.ne k (h.al c hc), h.mem, h.pu.kx k, h.tb.kx k⟩
/-- more addresses that are taken -/
theorem At.cons (h : At Ts C p n H) {D : Addr} (hD : H D ≠ none) : At Ts (D :: C) p n H := ⟨fun c hc => (List.mem_cons.mp hc).elim (fun e => e ▸ hD) (h.al c), List.mem_cons_of_mem _ h.mem, h.pu, h.tb⟩
theorem At.less {D : List Addr} (h : At Ts D p n H) (hs : ∀ c ∈ C, c ∈ D) (m : p ∈ C) : At Ts C p n H := ⟨fun c hc => h.al c (hs c hc), m, h.pu, h.tb⟩
theorem At.new (h : At Ts C p n H) {D : Addr} {o : HO} (hD : H D = none) : At Ts C p n (upd H D o) := h.kx (Kx.new hD)
/-- the purse alone has changed -/
theorem At.put (h : At Ts C p n H) (k : Kx [p] H H') (pu : PurseAt H' p m) (hT : ∀ P ∈ Ts, P ≠ p) : At Ts C p m H' :=
  ⟨fun c hc => by
    by_cases e : c = p
    · rw [e]; exact pu.ne
    · exact fun z => h.al c hc (k.free (by simpa using e) z), h.mem, pu, h.tb.kx k fun P hP => by simpa using hT P hP⟩
theorem At.tne (h : At Ts C p n H) : ∀ P ∈ Ts, P ≠ p := fun P hP e => by
  obtain ⟨ps, e1, _⟩ := h.tb P hP
  obtain ⟨a, b, c, h1, _⟩ := h.pu
  rw [e, h1] at e1
  cases e1
/-- a tree stays where the purse alone has changed -/
theorem At.tr (h : At Ts C p n H) {v : V} {d : PyData} (t : Tr C H v d) (k : Kx [p] H H') : Tr C H' v d := Tr.kx k (fun b hb => by rw [List.mem_singleton.mp hb]; exact h.mem) d v t
theorem At.trs (h : At Ts C p n H) {vs : List V} {ds : List PyData} (t : TrAll C H vs ds) (k : Kx [p] H H') : TrAll C H' vs ds := TrAll.kx k (fun b hb => by rw [List.mem_singleton.mp hb]; exact h.mem) ds vs t
theorem At.not (h : At Ts C p n H) {D : Addr} (hD : H D = none) : D ∉ C := fun z => h.al D z hD
/-- a new list, tuple -/
theorem new_lst (al : ∀ c ∈ C, H c ≠ none) {xs : List V} {ds : List PyData} (t : TrAll C H xs ds) {Q : VK} (q : ∀ D H', Kx [] H H' → H D = none → H' D = some (.lst xs) → Tr C H' (.ref D) (.list ds) → Q (.ref D) H') : ∀ D, H D = none → Q (.ref D) (upd H D (.lst xs)) := fun D hD =>
  q D _ (Kx.new hD) hD upd_same (.lst (fun z => al D z hD) upd_same (t.up (Kx.new hD)))
theorem new_tup (al : ∀ c ∈ C, H c ≠ none) {xs : List V} {ds : List PyData} (t : TrAll C H xs ds) {Q : VK} (q : ∀ D H', Kx [] H H' → H D = none → H' D = some (.tup xs) → Tr C H' (.ref D) (.tuple ds) → Q (.ref D) H') : ∀ D, H D = none → Q (.ref D) (upd H D (.tup xs)) := fun D hD =>
  q D _ (Kx.new hD) hD upd_same (.tup (fun z => al D z hD) upd_same (t.up (Kx.new hD)))
theorem new_dic (al : ∀ c ∈ C, H c ≠ none) {Q : VK} (q : ∀ D H', Kx [] H H' → Tr C H' (.ref D) (.dict []) → Q (.ref D) H') : ∀ D, H D = none → Q (.ref D) (upd H D (.dK [])) := fun D hD =>
  q D _ (Kx.new hD) (.dic (fun z => al D z hD) upd_same)
/-! ### coins -/
def sp_coin (Ts : List Addr) : Sp := fun vs H Q _ => ∃ p n many C, vs = [.ref p, .int many] ∧ 0 < many ∧ many ≤ 1000000 ∧ n ≤ 1000000000000 ∧ At Ts C p n H ∧ ∀ r H', 0 ≤ r → r < many → Kx [p] H H' → At Ts C p (n + 1) H' → Q (.int r) H'
theorem use_coin {many : Int} {Q : VK} {E : XK} (h : At Ts C p n H) (h0 : 0 < many) (h1 : many ≤ 1000000) (hn : n ≤ 1000000000000) (q : ∀ r H', 0 ≤ r → r < many → Kx [p] H H' → At Ts C p (n + 1) H' → Q (.int r) H') : sp_coin Ts [.ref p, .int many] H Q E :=
  ⟨p, n, many, C, rfl, h0, h1, hn, h, q⟩
theorem len_ok {xs : List V} (h : Nat.ble xs.length 1000 = true := by rfl) : xs.length ≤ sizeLine := by
  have := Nat.le_of_ble_eq_true h
  unfold sizeLine
  omega
theorem wide_of {i : Int} {b : Nat} (h0 : 0 ≤ i) (h : i < ((2 ^ b : Nat) : Int)) : i.natAbs < 2 ^ b := by omega
end
section
variable {Ts C : List Addr} {p : Addr} {n : Nat} {H : Hp} {g : TG} {tt : TT} {te : TE} {vs : List Nat} {σ : L2.St} {Q : VK}
/-- a comprehension whose turns draw k coins at most -/
theorem lc_pu {J : It} {N : Nat} {f : Nat → V} (It : ItAt J [p] H N f) (hN : N ≤ 1000) (k : Nat) (G : PyData → Prop) (ex : Bool) (hA : At Ts C p n H)
    (step : ∀ D i H', H D = none → i < N → Kx [p] H H' → At Ts (D :: C) p (n + i * k) H' → ∀ (R : V → Hp → Prop) (R0 : Hp → Prop),
      (∀ y d H'', Kx [p] H' H'' → At Ts (D :: C) p (n + (i + 1) * k) H'' → Tr (D :: C) H'' y d → G d → R y H'') →
      (ex = false → ∀ H'', Kx [p] H' H'' → At Ts (D :: C) p (n + (i + 1) * k) H'' → R0 H'') →
      g (f i) (wipe σ vs) H' fun σ2 H2 => wipe σ2 vs = wipe σ vs ∧ tt σ2 H2 fun b H3 => if b = true then te σ2 H3 R else R0 H3)
    (q : ∀ D ds H', Kx [p] H H' → At Ts C p (n + N * k) H' → Tr C H' (.ref D) (.list ds) → ds.length ≤ N → (ex = true → ds.length = N) → (∀ d ∈ ds, G d) → Q (.ref D) H') : CompG J g tt te vs σ H Q := by
  refine lc_tr (B := [p]) (C := C) It (by unfold sizeLine; omega) (Iv := fun i H' => At Ts C p (n + i * k) H') G ex (fun b hb => by rw [List.mem_singleton.mp hb]; exact hA.mem) hA.al (fun i H' D o hD a => ?_) (fun i H' a b hb => by rw [List.mem_singleton.mp hb]; exact a.pu.ne) (by simpa using hA) (fun D i H' hD hal hi kk a R R0 hR hR0 => ?_) q
  · have nD : D ∉ C := hA.not hD
    have np : p ≠ D := fun e => nD (by rw [← e]; exact hA.mem)
    refine ⟨fun c hc => ?_, a.mem, ?_, ?_⟩
    · have nc : c ≠ D := fun e => nD (by rw [← e]; exact hc)
      rw [upd_ne nc]; exact a.al c hc
    · obtain ⟨x, y, z, h1, h2⟩ := a.pu
      exact ⟨x, y, z, by rw [upd_ne np]; exact h1, h2⟩
    · intro P hP
      obtain ⟨ps, e1, e2⟩ := a.tb P hP
      obtain ⟨ps0, e0, _⟩ := hA.tb P hP
      have nP : P ≠ D := fun e => by rw [e, hD] at e0; cases e0
      exact ⟨ps, by rw [upd_ne nP]; exact e1, e2⟩
  · exact step D i H' hD hi kk ⟨hal, List.mem_cons_of_mem _ a.mem, a.pu, a.tb⟩ R R0 (fun y d H'' k2 a2 ty gd => hR y d H'' k2 (a2.less (fun c hc => List.mem_cons_of_mem _ hc) hA.mem) ty gd) (fun e H'' k2 a2 => hR0 e H'' k2 (a2.less (fun c hc => List.mem_cons_of_mem _ hc) hA.mem))
end
section
variable {Ts C : List Addr} {p : Addr} {n : Nat} {H : Hp} {g : TG} {tt : TT} {te : TE} {vs : List Nat} {σ : L2.St} {Q : VK}
/-- the same; each item with its turn -/
theorem lc_puX {J : It} {N : Nat} {f : Nat → V} (It : ItAt J [p] H N f) (hN : N ≤ 1000) (k : Nat) (G : Nat → PyData → Prop) (hA : At Ts C p n H)
    (step : ∀ D i H', H D = none → i < N → Kx [p] H H' → At Ts (D :: C) p (n + i * k) H' → ∀ (R : V → Hp → Prop) (R0 : Hp → Prop),
      (∀ y d H'', Kx [p] H' H'' → At Ts (D :: C) p (n + (i + 1) * k) H'' → Tr (D :: C) H'' y d → G i d → R y H'') →
      (∀ H'', Kx [p] H' H'' → At Ts (D :: C) p (n + (i + 1) * k) H'' → R0 H'') →
      g (f i) (wipe σ vs) H' fun σ2 H2 => wipe σ2 vs = wipe σ vs ∧ tt σ2 H2 fun b H3 => if b = true then te σ2 H3 R else R0 H3)
    (q : ∀ D js ds H', Kx [p] H H' → At Ts C p (n + N * k) H' → Tr C H' (.ref D) (.list ds) → Made G js ds → (∀ j ∈ js, j < N) → Q (.ref D) H') : CompG J g tt te vs σ H Q := by
  refine lc_ix (B := [p]) (C := C) It (by unfold sizeLine; omega) (Iv := fun i H' => At Ts C p (n + i * k) H') G (fun b hb => by rw [List.mem_singleton.mp hb]; exact hA.mem) hA.al (fun i H' D o hD a => ?_) (fun i H' a b hb => by rw [List.mem_singleton.mp hb]; exact a.pu.ne) (by simpa using hA) (fun D i H' hD hal hi kk a R R0 hR hR0 => ?_) q
  · have nD : D ∉ C := hA.not hD
    have np : p ≠ D := fun e => nD (by rw [← e]; exact hA.mem)
    refine ⟨fun c hc => ?_, a.mem, ?_, ?_⟩
    · have nc : c ≠ D := fun e => nD (by rw [← e]; exact hc)
      rw [upd_ne nc]; exact a.al c hc
    · obtain ⟨x, y, z, h1, h2⟩ := a.pu
      exact ⟨x, y, z, by rw [upd_ne np]; exact h1, h2⟩
    · intro P hP
      obtain ⟨ps, e1, e2⟩ := a.tb P hP
      obtain ⟨ps0, e0, _⟩ := hA.tb P hP
      have nP : P ≠ D := fun e => by rw [e, hD] at e0; cases e0
      exact ⟨ps, by rw [upd_ne nP]; exact e1, e2⟩
  · exact step D i H' hD hi kk ⟨hal, List.mem_cons_of_mem _ a.mem, a.pu, a.tb⟩ R R0 (fun y d H'' k2 a2 ty gd => hR y d H'' k2 (a2.less (fun c hc => List.mem_cons_of_mem _ hc) hA.mem) ty gd) (fun H'' k2 a2 => hR0 H'' k2 (a2.less (fun c hc => List.mem_cons_of_mem _ hc) hA.mem))
end
/-! ### new objects, picks -/
section
variable {C : List Addr} {H : Hp}
theorem mk_lst (al : ∀ c ∈ C, H c ≠ none) {xs : List V} {ds : List PyData} (t : TrAll C H xs ds) {D : Addr} (hD : H D = none) : Kx [] H (upd H D (.lst xs)) ∧ upd H D (.lst xs) D = some (.lst xs) ∧ Tr C (upd H D (.lst xs)) (.ref D) (.list ds) :=
  ⟨Kx.new hD, upd_same, .lst (fun z => al D z hD) upd_same (t.up (Kx.new hD))⟩
theorem mk_tup (al : ∀ c ∈ C, H c ≠ none) {xs : List V} {ds : List PyData} (t : TrAll C H xs ds) {D : Addr} (hD : H D = none) : Kx [] H (upd H D (.tup xs)) ∧ upd H D (.tup xs) D = some (.tup xs) ∧ Tr C (upd H D (.tup xs)) (.ref D) (.tuple ds) :=
  ⟨Kx.new hD, upd_same, .tup (fun z => al D z hD) upd_same (t.up (Kx.new hD))⟩
theorem mk_dic (al : ∀ c ∈ C, H c ≠ none) {D : Addr} (hD : H D = none) : Kx [] H (upd H D (.dK [])) ∧ upd H D (.dK []) D = some (.dK []) ∧ Tr C (upd H D (.dK [])) (.ref D) (.dict []) :=
  ⟨Kx.new hD, upd_same, .dic (fun z => al D z hD) upd_same⟩
theorem pick {xs : List V} {ds : List PyData} (t : TrAll C H xs ds) {r : Int} (h0 : 0 ≤ r) (h1 : r < (xs.length : Int)) : ∃ v d, atI xs r = some v ∧ Tr C H v d ∧ d ∈ ds := by
  have hl := t.length
  have e : xs[r.toNat]? = some xs[r.toNat] := List.getElem?_eq_getElem (by omega)
  obtain ⟨d, e1, e2⟩ := t.get e
  refine ⟨_, d, ?_, e2, List.mem_of_getElem? e1⟩
  have := atI_nat e
  rwa [show ((r.toNat : Nat) : Int) = r by omega] at this
end
section
variable {Ts C : List Addr} {p : Addr} {n : Nat} {H H' : Hp}
theorem _root_.Tree.Tr.out {B : List Addr} {a : Addr} {d : PyData} (t : Tr B H (.ref a) d) : a ∉ B := by
  cases t with
  | lst n _ _ => exact n
  | tup n _ _ => exact n
  | dic n _ => exact n
theorem At.nepT (h : At Ts C p n H) {a : Addr} {d : PyData} {H' : Hp} (t : Tr C H' (.ref a) d) : a ∉ [p] := fun e => Tree.Tr.out t (by rw [List.mem_singleton.mp e]; exact h.mem)
theorem At.nep (h : At Ts C p n H) {D : Addr} (hD : H D = none) : D ∉ [p] := fun e => h.not hD (by rw [List.mem_singleton.mp e]; exact h.mem)
/-- a list that is not the purse is written -/
theorem At.set (h : At Ts C p n H) {D : Addr} {xs : List V} {o : HO} (hD : H D = some (.lst xs)) (np : D ≠ p) : At Ts C p n (upd H D o) := by
  refine ⟨fun c hc => ?_, h.mem, ?_, fun P hP => ?_⟩
  · by_cases e : c = D
    · rw [e, upd_same]; simp
    · rw [upd_ne e]; exact h.al c hc
  · obtain ⟨x, y, z, h1, h2⟩ := h.pu
    exact ⟨x, y, z, by rw [upd_ne (Ne.symm np)]; exact h1, h2⟩
  · obtain ⟨ps, e1, e2⟩ := h.tb P hP
    have nP : P ≠ D := fun e => by rw [e, hD] at e1; cases e1
    exact ⟨ps, by rw [upd_ne nP]; exact e1, e2⟩
theorem _root_.Tree.Kx.weak {B D : List Addr} (k : Kx D H H') (h : ∀ b ∈ D, b ∈ B ∨ H b = none) : Kx B H H' := fun b o n e => k b o (fun z => (h b z).elim n fun y => by rw [y] at e; cases e) e
theorem _root_.Tree.Tr.items {B : List Addr} {a : Addr} {ds : List PyData} (t : Tr B H (.ref a) (.list ds)) : ∃ xs, H a = some (.lst xs) ∧ TrAll B H xs ds := by
  cases t with
  | lst _ h l => exact ⟨_, h, l⟩
theorem _root_.Tree.Tr.itemsT {B : List Addr} {a : Addr} {ds : List PyData} (t : Tr B H (.ref a) (.tuple ds)) : ∃ xs, H a = some (.tup xs) ∧ TrAll B H xs ds := by
  cases t with
  | tup _ h l => exact ⟨_, h, l⟩
/-- the tree of a list is at an address -/
theorem _root_.Tree.Tr.listV {B : List Addr} {v : V} {ds : List PyData} (t : Tr B H v (.list ds)) : ∃ a xs, v = .ref a ∧ H a = some (.lst xs) ∧ TrAll B H xs ds := by
  cases t with
  | lst _ h l => exact ⟨_, _, rfl, h, l⟩
theorem _root_.Tree.Tr.tupV {B : List Addr} {v : V} {ds : List PyData} (t : Tr B H v (.tuple ds)) : ∃ a xs, v = .ref a ∧ H a = some (.tup xs) ∧ TrAll B H xs ds := by
  cases t with
  | tup _ h l => exact ⟨_, _, rfl, h, l⟩
theorem _root_.Tree.Tr.intV {B : List Addr} {v : V} {i : Int} (t : Tr B H v (.int i)) : v = .int i := by
  cases t; rfl
end
section
variable {H : Hp}
theorem new_at {o : HO} {D : Addr} {H' : Hp} (hD : H D = none) (e : upd H D o = H') : Kx [] H H' ∧ H' D = some o := by
  subst e
  exact ⟨Kx.new hD, upd_same⟩
theorem mk_ints (ns : List Int) {D : Addr} (hD : H D = none) : Kx [] H (upd H D (.lst (ns.map V.int))) ∧ upd H D (.lst (ns.map V.int)) D = some (.lst (ns.map V.int)) := ⟨Kx.new hD, upd_same⟩
theorem pickI {ns : List Int} {r : Int} (h0 : 0 ≤ r) (h1 : r < (ns.length : Int)) : ∃ i, atI (ns.map V.int) r = some (.int i) ∧ i ∈ ns := by
  have e : ns[r.toNat]? = some ns[r.toNat] := List.getElem?_eq_getElem (by omega)
  refine ⟨_, ?_, List.mem_of_getElem? e⟩
  have := atI_nat (xs := ns.map V.int) (j := r.toNat) (v := .int ns[r.toNat]) (by rw [List.getElem?_map, e]; rfl)
  rwa [show ((r.toNat : Nat) : Int) = r by omega] at this
end
end Purse

set_option Elab.async false
set_option linter.all false
set_option maxRecDepth 100000
set_option maxHeartbeats 2000000
/-! Small: trees with bounds: list lengths, ints, texts, parts, depth. -/
namespace Small
open PySem PySem.Spec PyProof.Rows L2 GxR Tree Kit Data
mutual
def Bd (L M : Nat) : PyData → Prop
  | .none => True
  | .bool _ => True
  | .int i => i.natAbs ≤ M
  | .str x => (reprText x).length ≤ 140
  | .list xs => xs.length ≤ L ∧ BdAll L M xs
  | .tuple xs => xs.length ≤ L ∧ BdAll L M xs
  | .dict kvs => kvs = []
def BdAll (L M : Nat) : List PyData → Prop
  | [] => True
  | x :: xs => Bd L M x ∧ BdAll L M xs
end
theorem bdAll_iff {L M : Nat} : ∀ {xs : List PyData}, BdAll L M xs ↔ ∀ d ∈ xs, Bd L M d
  | [] => ⟨fun _ d h => (nomatch h), fun _ => trivial⟩
  | x :: xs => by
    simp only [BdAll, List.mem_cons, forall_eq_or_imp, bdAll_iff (xs := xs)]
theorem depthAll_le {D : Nat} : ∀ {xs : List PyData}, PyData.depthAll xs ≤ D ↔ ∀ d ∈ xs, d.depth ≤ D
  | [] => ⟨fun _ d h => (nomatch h), fun _ => Nat.zero_le _⟩
  | x :: xs => by
    simp only [PyData.depthAll, List.mem_cons, forall_eq_or_imp, Nat.max_le, depthAll_le (xs := xs)]
theorem szAll_le {S : Nat} : ∀ {xs : List PyData}, (∀ d ∈ xs, sz d ≤ S) → szAll xs ≤ xs.length * S
  | [], _ => by simp [szAll]
  | x :: xs, h => by
    have h1 := h x (by simp)
    have h2 := szAll_le (xs := xs) (S := S) fun d hd => h d (by simp [hd])
    simp only [szAll, List.length_cons, Nat.succ_mul]
    omega
structure Sm (L M S D : Nat) (d : PyData) : Prop where
  bd : Bd L M d
  sz : sz d ≤ S
  dp : d.depth ≤ D
section
variable {L M S D : Nat}
theorem Sm.mono {L' M' S' D' : Nat} {d : PyData} (h : Sm L M S D d) (hL : L ≤ L') (hM : M ≤ M') (hS : S ≤ S') (hD : D ≤ D') : Sm L' M' S' D' d := by
  refine ⟨?_, Nat.le_trans h.sz hS, Nat.le_trans h.dp hD⟩
  have key : ∀ k (d : PyData), Data.sz d ≤ k → Bd L M d → Bd L' M' d := by
    intro k
    induction k with
    | zero => intro d hk _; have := sz_pos d; omega
    | succ k ih =>
      intro d hk hb
      cases d with
      | list xs =>
        simp only [Bd, Data.sz, bdAll_iff] at hb hk ⊢
        exact ⟨by omega, fun d hd => ih d (by have := szAll_mem hd; omega) (hb.2 d hd)⟩
      | tuple xs =>
        simp only [Bd, Data.sz, bdAll_iff] at hb hk ⊢
        exact ⟨by omega, fun d hd => ih d (by have := szAll_mem hd; omega) (hb.2 d hd)⟩
      | int i => simp only [Bd] at hb ⊢; omega
      | _ => exact hb
  exact key _ d (Nat.le_refl _) h.bd
theorem Sm.int {i : Int} (h : i.natAbs ≤ M) : Sm L M 1 0 (.int i) := ⟨h, Nat.le_refl _, Nat.le_refl _⟩
theorem Sm.none : Sm L M 1 0 .none := ⟨trivial, Nat.le_refl _, Nat.le_refl _⟩
theorem Sm.bool (b : Bool) : Sm L M 1 0 (.bool b) := ⟨trivial, Nat.le_refl _, Nat.le_refl _⟩
theorem Sm.str {x : Str} (h : (reprText x).length ≤ 140) : Sm L M 1 0 (.str x) := ⟨h, Nat.le_refl _, Nat.le_refl _⟩
theorem Sm.dict : Sm L M 1 1 (.dict []) := ⟨rfl, Nat.le_refl _, Nat.le_refl _⟩
theorem Sm.list {N : Nat} {ds : List PyData} (h : ∀ d ∈ ds, Sm L M S D d) (hN : ds.length ≤ N) (hL : N ≤ L) : Sm L M (N * S + 1) (D + 1) (.list ds) := by
  refine ⟨⟨by omega, bdAll_iff.mpr fun d hd => (h d hd).bd⟩, ?_, ?_⟩
  · have := szAll_le (S := S) fun d hd => (h d hd).sz
    simp only [Data.sz]
    have := Nat.mul_le_mul_right S hN
    omega
  · simp only [PyData.depth]
    have := depthAll_le.mpr fun d hd => (h d hd).dp
    omega
theorem Sm.tuple {N : Nat} {ds : List PyData} (h : ∀ d ∈ ds, Sm L M S D d) (hN : ds.length ≤ N) (hL : N ≤ L) : Sm L M (N * S + 1) (D + 1) (.tuple ds) := by
  refine ⟨⟨by omega, bdAll_iff.mpr fun d hd => (h d hd).bd⟩, ?_, ?_⟩
  · have := szAll_le (S := S) fun d hd => (h d hd).sz
    simp only [Data.sz]
    have := Nat.mul_le_mul_right S hN
    omega
  · simp only [PyData.depth]
    have := depthAll_le.mpr fun d hd => (h d hd).dp
    omega
/-- the items of a list: their own bounds -/
theorem Sm.items {ds : List PyData} (h : Sm L M S D (.list ds)) : ds.length ≤ L ∧ szAll ds + 1 ≤ S ∧ ∀ d ∈ ds, Bd L M d ∧ d.depth + 1 ≤ D := by
  have h1 := h.bd
  have h2 := h.sz
  have h3 := h.dp
  simp only [Bd, bdAll_iff, Data.sz, PyData.depth] at h1 h2 h3
  have h4 : PyData.depthAll ds ≤ D - 1 := by omega
  exact ⟨h1.1, h2, fun d hd => ⟨h1.2 d hd, by have := depthAll_le.mp h4 d hd; omega⟩⟩
theorem Sm.itemsT {ds : List PyData} (h : Sm L M S D (.tuple ds)) : ds.length ≤ L ∧ szAll ds + 1 ≤ S ∧ ∀ d ∈ ds, Bd L M d ∧ d.depth + 1 ≤ D := by
  have h1 := h.bd
  have h2 := h.sz
  have h3 := h.dp
  simp only [Bd, bdAll_iff, Data.sz, PyData.depth] at h1 h2 h3
  have h4 : PyData.depthAll ds ≤ D - 1 := by omega
  exact ⟨h1.1, h2, fun d hd => ⟨h1.2 d hd, by have := depthAll_le.mp h4 d hd; omega⟩⟩
/-- made of parts: the sum of their sizes -/
theorem Sm.mkList {ds : List PyData} (hl : ds.length ≤ L) (hs : szAll ds + 1 ≤ S) (h : ∀ d ∈ ds, Bd L M d ∧ d.depth + 1 ≤ D) (hD : 1 ≤ D) : Sm L M S D (.list ds) := by
  refine ⟨⟨hl, bdAll_iff.mpr fun d hd => (h d hd).1⟩, hs, ?_⟩
  simp only [PyData.depth]
  have := depthAll_le (D := D - 1) |>.mpr fun d hd => by have := (h d hd).2; omega
  omega
theorem Sm.mkTuple {ds : List PyData} (hl : ds.length ≤ L) (hs : szAll ds + 1 ≤ S) (h : ∀ d ∈ ds, Bd L M d ∧ d.depth + 1 ≤ D) (hD : 1 ≤ D) : Sm L M S D (.tuple ds) := by
  refine ⟨⟨hl, bdAll_iff.mpr fun d hd => (h d hd).1⟩, hs, ?_⟩
  simp only [PyData.depth]
  have := depthAll_le (D := D - 1) |>.mpr fun d hd => by have := (h d hd).2; omega
  omega
end
end Small

set_option Elab.async false
set_option linter.all false
set_option maxRecDepth 100000
set_option maxHeartbeats 2000000
/-! Ib: truths among ints (+, -), str of either; how long a text of a number is when shown. -/
namespace Ib
open PySem PySem.Spec PyProof.Rows L2 GxR Tree Kit Data Small
def asI : V → Option Int
  | .int i => some i
  | .bl b => some (if b = true then 1 else 0)
  | _ => none
def rAddB : R2 := fun x y H Q => ∃ i j, asI x = some i ∧ y = .int j ∧ Q (.int (i + j)) H
def rSubB : R2 := fun x y H Q => ∃ i j, asI x = some i ∧ y = .int j ∧ Q (.int (i - j)) H
def rSubIB : R2 := fun x y H Q => ∃ i j, x = .int i ∧ asI y = some j ∧ Q (.int (i - j)) H
section
variable {X : Cx}
theorem op_addB : OpR X (binaryOp .Add) rAddB := by
  intro pins s σ H x y v u Q I rx ry h
  obtain ⟨i, j, ex, rfl, q⟩ := h
  obtain ⟨t', rfl⟩ := ry
  cases x with
  | int a =>
    have e : a = i := Option.some.inj ex
    subst e
    obtain ⟨t, rfl⟩ := rx
    exact add_int ⟨.int (a + j), H, I.tok _, ⟨_, rfl⟩, q⟩
  | bl b =>
    cases ex
    cases rx
    exact IntBool.add_bool_int ⟨.int ((if b = true then 1 else 0) + j), H, I.tok _, ⟨_, rfl⟩, q⟩
  | _ => cases ex
theorem op_subB : OpR X (binaryOp .Sub) rSubB := by
  intro pins s σ H x y v u Q I rx ry h
  obtain ⟨i, j, ex, rfl, q⟩ := h
  obtain ⟨t', rfl⟩ := ry
  cases x with
  | int a =>
    have e : a = i := Option.some.inj ex
    subst e
    obtain ⟨t, rfl⟩ := rx
    exact sub_int ⟨.int (a - j), H, I.tok _, ⟨_, rfl⟩, q⟩
  | bl b =>
    cases ex
    cases rx
    exact IntBool.sub_bool_int ⟨.int ((if b = true then 1 else 0) - j), H, I.tok _, ⟨_, rfl⟩, q⟩
  | _ => cases ex
theorem op_subIB : OpR X (binaryOp .Sub) rSubIB := by
  intro pins s σ H x y v u Q I rx ry h
  obtain ⟨i, j, rfl, ey, q⟩ := h
  obtain ⟨t, rfl⟩ := rx
  cases y with
  | int a =>
    have e : a = j := Option.some.inj ey
    subst e
    obtain ⟨t', rfl⟩ := ry
    exact sub_int ⟨.int (i - a), H, I.tok _, ⟨_, rfl⟩, q⟩
  | bl b =>
    cases ey
    cases ry
    exact IntBool.sub_int_bool ⟨.int (i - (if b = true then 1 else 0)), H, I.tok _, ⟨_, rfl⟩, q⟩
  | _ => cases ey
def strB : V → Option Str
  | .int i => if i.natAbs.log2 < 1920 then some (toString i) else none
  | .bl b => some (if b = true then "True" else "False")
  | _ => none
def rStrB : List V → Hp → VK → Prop := fun xs H Q => ∃ x t, xs = [x] ∧ strB x = some t ∧ Q (.str t) H
theorem call_strB : CallR X (.type "str") rStrB := by
  intro pins s σ H xs us Q I r h
  obtain ⟨x, t, rfl, e, q⟩ := h
  cases x with
  | int i =>
    obtain ⟨u, rfl, t', rfl⟩ := vals1 r
    simp only [strB] at e
    split at e
    · cases e
      exact PySem.P.str_of_int (by assumption) ⟨.str _, H, I.tok _, ⟨_, rfl⟩, q⟩
    · cases e
  | bl b =>
    obtain ⟨u, rfl, ru⟩ := vals1 r
    cases ru
    cases e
    exact PySem.P.str_of_bool ⟨.str _, H, I.tok _, ⟨_, rfl⟩, q⟩
  | _ => cases e
end
/-! ### how long -/
theorem reprChar_len {q c : Nat} (h : c < 16 ^ 8) : (Builtin.Str.reprChar q c).length ≤ 10 := by
  have hd : (Nat.toDigits 16 c).length ≤ 8 := (Nat.length_toDigits_le_iff (by decide) (by decide)).mpr h
  unfold Builtin.Str.reprChar
  simp only []
  repeat (first | split | (simp only [List.length_append, List.length_replicate, List.length_map, List.length_cons, List.length_nil]; omega))
theorem reprText_len {x : Str} (h : ∀ c ∈ x.cps.toList, c < 16 ^ 8) : (reprText x).length ≤ 10 * x.length + 2 := by
  rw [← reprLen_eq, ← Array.foldl_toList]
  have key : ∀ (l : List Nat) (n : Nat), (∀ c ∈ l, c < 16 ^ 8) → l.foldl (fun n c => n + (Builtin.Str.reprChar (reprQuote x) c).length) n ≤ 10 * l.length + n := by
    intro l
    induction l with
    | nil => intro n _; simp
    | cons c r ih =>
      intro n hl
      have h1 := reprChar_len (q := reprQuote x) (hl c (by simp))
      have h2 := ih (n + (Builtin.Str.reprChar (reprQuote x) c).length) fun c hc => hl c (by simp [hc])
      simp only [List.foldl_cons, List.length_cons]
      omega
  have := key x.cps.toList 2 h
  have e : x.cps.toList.length = x.length := by rw [Array.length_toList]; rfl
  omega
theorem reprText_of (t : String) : (reprText (Str.ofString t)).length ≤ 10 * t.length + 2 := by
  have e : (Str.ofString t).length = t.length := PySem.ofString_length t
  rw [← e]
  refine reprText_len fun c hc => ?_
  have : ∃ ch ∈ t.toList, c = ch.toNat := by
    rw [Str.ofString_eq_toList] at hc
    simp only [List.mem_map] at hc
    obtain ⟨ch, h1, h2⟩ := hc
    exact ⟨ch, h1, h2.symm⟩
  obtain ⟨ch, _, rfl⟩ := this
  have := ch.valid
  have h3 : ch.toNat < 1114112 := by
    rcases this with h | h
    · exact Nat.lt_trans h (by decide)
    · exact h.2
  omega
theorem repr_int {i : Int} (h : i.natAbs ≤ 100000000000) : (reprText (Str.ofString (toString i))).length ≤ 140 := by
  have h1 := reprText_of (toString i)
  have h2 := int_text_length_le10 (a := i) (k := 12) (by decide) (by omega)
  omega
/-! ### slices -/
theorem cut_hi (xs : List V) (k : Nat) : cutV xs none (some (k : Int)) = xs.take k := by
  unfold cutV
  rw [HT.sIx_none, HT.sIx_nat, List.drop_zero, Nat.sub_zero]
  exact (List.take_eq_take_min).symm
theorem cut_lo (xs : List V) (k : Nat) : cutV xs (some (k : Int)) none = xs.drop k := by
  unfold cutV
  rw [HT.sIx_none, HT.sIx_nat]
  by_cases h : k ≤ xs.length
  · rw [Nat.min_eq_left h]
    exact List.take_of_length_le (by rw [List.length_drop]; omega)
  · rw [Nat.min_eq_right (by omega), List.drop_of_length_le (Nat.le_refl _), List.drop_of_length_le (by omega), List.take_nil]
theorem cut_hi1 (xs : List V) (k : Nat) : cutV xs none (some ((k : Int) + 1)) = xs.take (k + 1) := cut_hi xs (k + 1)
theorem cut_lo1 (xs : List V) (k : Nat) : cutV xs (some ((k : Int) + 1)) none = xs.drop (k + 1) := cut_lo xs (k + 1)
theorem szAll_take (ds : List PyData) (k : Nat) : szAll (ds.take k) + szAll (ds.drop k) = szAll ds := by
  rw [← szAll_append, List.take_append_drop]
theorem szAll_reverse : ∀ ds : List PyData, szAll ds.reverse = szAll ds
  | [] => rfl
  | d :: ds => by
    rw [List.reverse_cons, szAll_append, szAll_reverse ds]
    simp only [szAll]
    omega
/-! ### lists of ints compared -/
theorem dp_ints {K : PySem.W.Frag} {H : Hp} {a : Addr} {ns : List Int} (h : H a = some (.lst (ns.map V.int))) : Dp K H (.ref a) (.list (ns.map .int)) := by
  refine .lst (SqL.of h) ?_
  clear h
  induction ns with
  | nil => exact .nil
  | cons n r ih => exact .cons (.int n) ih
theorem canLay_ints (ns : List Int) : PyData.canLay0 (.list (ns.map .int)) = true := by
  show PyData.canLayAll0 _ = true
  induction ns with
  | nil => rfl
  | cons n r ih =>
    show (PyData.canLay0 (.int n) && PyData.canLayAll0 (r.map .int)) = true
    rw [ih]; rfl
theorem shaped_ints (ns : List Int) : SeqAt.shaped (.list (ns.map .int)) = true := by
  unfold SeqAt.shaped
  rw [canLay_ints ns, Bool.true_and]
  refine decide_eq_true ?_
  show PyData.depthAll _ + 1 ≤ 64
  have : PyData.depthAll (ns.map .int) = 0 := by
    induction ns with
    | nil => rfl
    | cons n r ih =>
      show max (PyData.depth (.int n)) (PyData.depthAll (r.map .int)) = 0
      rw [ih]; rfl
  omega
theorem eqv_ints : ∀ ns ms : List Int, PyData.eqv (.list (ns.map .int)) (.list (ms.map .int)) = decide (ns = ms)
  | [], [] => by decide
  | [], m :: ms => by
    show false = _
    exact (decide_eq_false (by simp)).symm
  | n :: ns, [] => by
    show false = _
    exact (decide_eq_false (by simp)).symm
  | n :: ns, m :: ms => by
    have ih := eqv_ints ns ms
    show ((n == m) && PyData.eqvAll (ns.map .int) (ms.map .int)) = _
    have e : PyData.eqvAll (ns.map .int) (ms.map .int) = decide (ns = ms) := ih
    rw [e, Bool.eq_iff_iff]
    simp
theorem sorted_eq {ns ms : List Int} (hp : ms.Pairwise (· < ·)) (hm : ∀ k : Int, k ∈ ms ↔ k ∈ ns) : decide (ns = ms) = risesB ns := by
  rw [Bool.eq_iff_iff, decide_eq_true_eq]
  unfold risesB
  rw [decide_eq_true_eq]
  constructor
  · intro e
    rw [e]; exact hp
  · intro h
    have nd : ∀ {l : List Int}, l.Pairwise (· < ·) → l.Nodup := fun h => h.imp fun h => Int.ne_of_lt h
    exact List.Perm.eq_of_pairwise (le := (· < ·)) (fun a b _ _ h1 h2 => absurd h1 (by omega)) h hp ((List.perm_ext_iff_of_nodup (nd h) (nd hp)).mpr fun a => (hm a).symm)
section
variable {X : Cx}
theorem cr_sortedSetW (w : World) (h : X.w = w) (hc : X.calm = true) : CallR X (.builtin "sorted") (rSortedSet w) := h ▸ cr_sortedSet hc
end
end Ib

set_option Elab.async false
set_option linter.all false
set_option maxRecDepth 100000
set_option maxHeartbeats 2000000
/-! Lit: expressions that make a tree of what stands, and change nothing. -/
namespace Lit
open PySem PySem.Spec PyProof.Rows L2 GxR GX Tree Kit Comps Purse Ib
/-- te makes the tree d, whatever was added since H -/
def LitE (σ : L2.St) (C : List Addr) (H : Hp) (te : TE) (d : PyData) : Prop := ∀ H1, Kx [] H H1 → ∀ Q : VK, (∀ v H', Kx [] H1 H' → Tr C H' v d → Q v H') → te σ H1 Q
def LitL (σ : L2.St) (C : List Addr) (H : Hp) (ts : TA) (ds : List PyData) : Prop := ∀ H1, Kx [] H H1 → ∀ Q : List V → Hp → Prop, (∀ vs H', Kx [] H1 H' → TrAll C H' vs ds → Q vs H') → ts σ H1 Q
section
variable {σ : L2.St} {C : List Addr} {H : Hp} {te te' : TE} {ts : TA} {d : PyData} {ds es : List PyData} {K : PySem.W.Frag}
theorem lit_use {Q : VK} (l : LitE σ C H te d) (q : ∀ v H', Kx [] H H' → Tr C H' v d → Q v H') : te σ H Q := l H (Kx.refl H) Q q
theorem lit_at {H1 : Hp} {Q : VK} (l : LitE σ C H te d) (k : Kx [] H H1) (q : ∀ v H', Kx [] H1 H' → Tr C H' v d → Q v H') : te σ H1 Q := l H1 k Q q
theorem al_up {H1 : Hp} (al : ∀ c ∈ C, H c ≠ none) (k : Kx [] H H1) : ∀ c ∈ C, H1 c ≠ none := fun c hc => Kx.ne k (al c hc)
theorem lit_int {i : Int} : LitE σ C H (tC (.int i)) (.int i) := fun H1 _ Q q => q _ H1 (Kx.refl _) (.int i)
theorem lit_non : LitE σ C H (tC .non) .none := fun H1 _ Q q => q _ H1 (Kx.refl _) .non
theorem lit_bl {b : Bool} : LitE σ C H (tC (.bl b)) (.bool b) := fun H1 _ Q q => q _ H1 (Kx.refl _) (.bl b)
theorem lit_str {x : Str} : LitE σ C H (tC (.str x)) (.str x) := fun H1 _ Q q => q _ H1 (Kx.refl _) (.str x)
theorem lit_var {j : Nat} {v : V} (hσ : σ[j]? = some (some v)) (t : Tr C H v d) : LitE σ C H (tVar j) d := fun H1 k Q q => ⟨v, hσ, q v H1 (Kx.refl _) (t.up k)⟩
theorem lit_nil : LitL σ C H tNil [] := fun H1 _ Q q => q [] H1 (Kx.refl _) .nil
theorem lit_cons (a : LitE σ C H te d) (b : LitL σ C H ts ds) : LitL σ C H (tCons te ts) (d :: ds) := fun H1 k Q q =>
  st_cons (a H1 k _ fun v H2 k2 t => b H2 (k.trans k2) _ fun vs H3 k3 t3 => q _ H3 (k2.trans k3) (.cons (t.up k3) t3))
theorem lit_lst (al : ∀ c ∈ C, H c ≠ none) (b : LitL σ C H ts ds) (hl : ds.length ≤ 1000) : LitE σ C H (tLst ts) (.list ds) := fun H1 k Q q =>
  b H1 k _ fun vs H2 k2 t => ⟨by have := t.length; unfold sizeLine; omega, fun p hp => by
    obtain ⟨k3, e3, t3⟩ := mk_lst (al_up al (k.trans k2)) t hp
    exact q _ _ (k2.trans k3) t3⟩
theorem lit_tup (al : ∀ c ∈ C, H c ≠ none) (b : LitL σ C H ts ds) (hl : ds.length ≤ 1000) : LitE σ C H (tTup ts) (.tuple ds) := fun H1 k Q q =>
  b H1 k _ fun vs H2 k2 t => ⟨by have := t.length; unfold sizeLine; omega, fun p hp => by
    obtain ⟨k3, e3, t3⟩ := mk_tup (al_up al (k.trans k2)) t hp
    exact q _ _ (k2.trans k3) t3⟩
theorem lit_dict (al : ∀ c ∈ C, H c ≠ none) : LitE σ C H tDNewK (.dict []) := fun H1 k Q q p hp => by
  obtain ⟨k3, e3, t3⟩ := mk_dic (al_up al k) hp
  exact q _ _ k3 t3
theorem lit_cat (al : ∀ c ∈ C, H c ≠ none) (a : LitE σ C H te (.list ds)) (b : LitE σ C H te' (.list es)) (hl : ds.length + es.length ≤ 100000) : LitE σ C H (tOp rCat te te') (.list (ds ++ es)) := fun H1 k Q q =>
  st_op (a H1 k _ fun v H2 k2 t => b H2 (k.trans k2) _ fun u H3 k3 t3 => by
    obtain ⟨x, xs, rfl, ex, tx⟩ := (t.up k3).listV
    obtain ⟨y, ys, rfl, ey, ty⟩ := t3.listV
    refine ⟨x, y, xs, ys, rfl, rfl, ex, ey, by have h1 := tx.length; have h2 := ty.length; unfold sizeLine; omega, fun p hp => ?_⟩
    obtain ⟨k4, e4, t4⟩ := mk_lst (al_up al (k.trans (k2.trans k3))) (tx.append ty) hp
    exact q _ _ (k2.trans (k3.trans k4)) t4)
theorem trAll_rep {vs : List V} (t : TrAll C H vs ds) : ∀ n : Nat, TrAll C H (List.replicate n vs).flatten (List.replicate n ds).flatten
  | 0 => .nil
  | n + 1 => by
    rw [List.replicate_succ, List.replicate_succ, List.flatten_cons, List.flatten_cons]
    exact t.append (trAll_rep t n)
theorem lit_rep (al : ∀ c ∈ C, H c ≠ none) {n : Nat} (a : LitE σ C H te (.list ds)) (hl : ds.length ≤ 1000) (hn : n ≤ 1000) : LitE σ C H (tOp rRep te (tC (.int (n : Int)))) (.list (List.replicate n ds).flatten) := fun H1 k Q q =>
  st_op (a H1 k _ fun v H2 k2 t => by
    obtain ⟨x, xs, rfl, ex, tx⟩ := t.listV
    have h1 := tx.length
    refine ⟨x, (n : Int), xs, rfl, rfl, ex, by omega, by omega, ?_, fun p hp => ?_⟩
    · have : xs.length * n ≤ 1000 * 1000 := Nat.mul_le_mul (by omega) hn
      rw [Int.toNat_natCast]
      unfold sizeLine
      omega
    · rw [Int.toNat_natCast]
      obtain ⟨k4, e4, t4⟩ := mk_lst (al_up al (k.trans k2)) (trAll_rep tx n) hp
      exact q _ _ (k2.trans k4) t4)
theorem lit_take (al : ∀ c ∈ C, H c ≠ none) {n : Nat} (a : LitE σ C H te (.list ds)) : LitE σ C H (tSl (rSlL K) te tNoPart (tPart (tC (.int (n : Int))))) (.list (ds.take n)) := fun H1 k Q q =>
  a H1 k _ fun v H2 k2 t => by
    obtain ⟨x, xs, rfl, ex, tx⟩ := t.listV
    refine ⟨_, rfl, x, xs, rfl, SqL.of ex, fun p hp => ?_⟩
    rw [cut_hi]
    obtain ⟨k4, e4, t4⟩ := mk_lst (al_up al (k.trans k2)) (tx.take n) hp
    exact q _ _ (k2.trans k4) t4
theorem lit_drop (al : ∀ c ∈ C, H c ≠ none) {n : Nat} (a : LitE σ C H te (.list ds)) : LitE σ C H (tSl (rSlL K) te (tPart (tC (.int (n : Int)))) tNoPart) (.list (ds.drop n)) := fun H1 k Q q =>
  a H1 k _ fun v H2 k2 t => by
    obtain ⟨x, xs, rfl, ex, tx⟩ := t.listV
    refine ⟨_, rfl, x, xs, rfl, SqL.of ex, fun p hp => ?_⟩
    rw [cut_lo]
    obtain ⟨k4, e4, t4⟩ := mk_lst (al_up al (k.trans k2)) (tx.drop n) hp
    exact q _ _ (k2.trans k4) t4
theorem lit_sub {i j : Int} (a : LitE σ C H te (.int i)) : LitE σ C H (tOp (rI0 fun i j => .int (i - j)) te (tC (.int j))) (.int (i - j)) := fun H1 k Q q =>
  st_op (a H1 k _ fun v H2 k2 t => by
    rw [Tree.Tr.intV t]
    exact ⟨i, j, rfl, rfl, q _ _ k2 (.int _)⟩)
theorem lit_len {j : Nat} {a : Addr} (hσ : σ[j]? = some (some (.ref a))) (t : Tr C H (.ref a) (.list ds)) : LitE σ C H (tCB (rLenK K) (tCons (tVar j) tNil)) (.int ds.length) := fun H1 k Q q => by
  obtain ⟨xs, ex, tx⟩ := (t.up k).items
  refine ⟨.ref a, hσ, a, xs, rfl, .inl (SqL.of ex), ?_⟩
  rw [tx.length]
  exact q _ H1 (Kx.refl _) (.int _)
end

mutual
theorem avoid {B : List Addr} {H : Hp} {F : Addr} (hF : H F = none) : ∀ (d : PyData) (v : V), Tr B H v d → Tr (F :: B) H v d
  | _, _, .non => .non
  | _, _, .bl b => .bl b
  | _, _, .int i => .int i
  | _, _, .str x => .str x
  | .list ds, _, .lst n h l => .lst (fun z => (List.mem_cons.mp z).elim (fun e => by rw [e, hF] at h; cases h) n) h (avoidAll hF ds _ l)
  | .tuple ds, _, .tup n h l => .tup (fun z => (List.mem_cons.mp z).elim (fun e => by rw [e, hF] at h; cases h) n) h (avoidAll hF ds _ l)
  | _, _, .dic n h => .dic (fun z => (List.mem_cons.mp z).elim (fun e => by rw [e, hF] at h; cases h) n) h
theorem avoidAll {B : List Addr} {H : Hp} {F : Addr} (hF : H F = none) : ∀ (ds : List PyData) (vs : List V), TrAll B H vs ds → TrAll (F :: B) H vs ds
  | _, _, .nil => .nil
  | d :: ds, _, .cons h t => .cons (avoid hF d _ h) (avoidAll hF ds _ t)
end
end Lit

set_option Elab.async false
set_option linter.all false
set_option maxRecDepth 100000
set_option maxHeartbeats 2000000
/-! Shown: a small tree can be shown, and in how many signs. -/
namespace Shown
open PySem PySem.Spec PyProof.Rows L2 GxR Tree Kit Data Small
theorem shown_le {L M : Nat} (hM : M ≤ 10000000000) : ∀ (k : Nat) (d : PyData), sz d ≤ k → Bd L M d → d.shown.length + 2 ≤ 160 * sz d ∧ d.showable = true := by
  intro k
  induction k with
  | zero => intro d hk _; have := sz_pos d; omega
  | succ k ih =>
    have all : ∀ xs : List PyData, szAll xs ≤ k → BdAll L M xs → ((PyData.shownAll xs).map (·.length)).sum + 2 * xs.length ≤ 160 * szAll xs ∧ PyData.showableAll xs = true := by
      intro xs
      induction xs with
      | nil => intro _ _; exact ⟨Nat.zero_le _, rfl⟩
      | cons x r ih2 =>
        intro hk hb
        simp only [szAll] at hk
        obtain ⟨b1, b2⟩ := hb
        obtain ⟨h1, h2⟩ := ih x (by omega) b1
        obtain ⟨h3, h4⟩ := ih2 (by omega) b2
        refine ⟨?_, ?_⟩
        · simp only [PyData.shownAll, List.map_cons, List.sum_cons, List.length_cons, szAll]
          omega
        · simp only [PyData.showableAll, h2, h4, Bool.and_self]
    intro d hk hb
    cases d with
    | none => exact ⟨by decide, rfl⟩
    | bool b => exact ⟨by cases b <;> decide, rfl⟩
    | int i =>
      have hi : i.natAbs ≤ M := hb
      refine ⟨?_, ?_⟩
      · have h1 := int_text_length_le10 (a := i) (k := 12) (by decide) (by omega)
        have h2 : (PyData.shown (.int i)).length = (toString i).length := by
          show (Str.ofString (toString i)).length = _
          exact PySem.ofString_length _
        simp only [sz]
        omega
      · show decide (i.natAbs.log2 < 1920) = true
        have h3 : i.natAbs < 2 ^ 40 := by omega
        exact decide_eq_true (Nat.lt_of_lt_of_le (PySem.Flt.log2_lt_of (by decide) h3) (by decide))
    | str x =>
      have hx : (reprText x).length ≤ 140 := hb
      refine ⟨?_, rfl⟩
      show (reprText x).length + 2 ≤ 160 * 1
      omega
    | list xs =>
      simp only [sz] at hk ⊢
      obtain ⟨h1, h2⟩ := all xs (by omega) hb.2
      have h3 := listText_len_le (PyData.shownAll xs)
      have h4 := PyData.shownAll_length xs
      refine ⟨?_, h2⟩
      show (listText (PyData.shownAll xs)).length + 2 ≤ _
      omega
    | tuple xs =>
      simp only [sz] at hk ⊢
      obtain ⟨h1, h2⟩ := all xs (by omega) hb.2
      have h3 := tupleText_len_le (PyData.shownAll xs)
      have h4 := PyData.shownAll_length xs
      refine ⟨?_, h2⟩
      show (tupleText (PyData.shownAll xs)).length + 2 ≤ _
      omega
    | dict kvs =>
      obtain rfl : kvs = [] := hb
      exact ⟨by decide, rfl⟩
theorem shows {L M S D : Nat} {d : PyData} (h : Sm L M S D d) (hM : M ≤ 10000000000) (hS : S ≤ 2000) (hD : D ≤ 40) : d.showable = true ∧ d.depth ≤ 40 ∧ d.shown.length ≤ sizeLine := by
  obtain ⟨h1, h2⟩ := shown_le hM _ d (Nat.le_refl _) h.bd
  have := h.sz
  exact ⟨h2, Nat.le_trans h.dp hD, by unfold sizeLine; omega⟩
end Shown

set_option Elab.async false
set_option linter.all false
set_option maxRecDepth 100000
set_option maxHeartbeats 2000000
namespace Law
open PySem PySem.Spec PyProof.Rows L2 GxR GX Tree Kit
def topS (i : Nat) : Stmt := PySem.Challenge.pw_skyprices_k01_what_is_a_day.main.body.getD i (.Pass ⟨0, 0, 0, 0⟩)
abbrev s_is_number : Stmt := topS 9
theorem sc_is_number : FnScope ["thing"] ["thing"] (defScope s_is_number) := ⟨rfl, rfl, rfl, by decide +kernel, rfl, by decide +kernel, by decide +kernel⟩
abbrev s_is_whole : Stmt := topS 10
theorem sc_is_whole : FnScope ["thing", "least", "most"] ["thing", "least", "most"] (defScope s_is_whole) := ⟨rfl, rfl, rfl, by decide +kernel, rfl, by decide +kernel, by decide +kernel⟩
abbrev s_is_list : Stmt := topS 11
theorem sc_is_list : FnScope ["thing", "least", "most"] ["thing", "least", "most"] (defScope s_is_list) := ⟨rfl, rfl, rfl, by decide +kernel, rfl, by decide +kernel, by decide +kernel⟩
abbrev s_is_tuple : Stmt := topS 12
theorem sc_is_tuple : FnScope ["thing", "many"] ["thing", "many"] (defScope s_is_tuple) := ⟨rfl, rfl, rfl, by decide +kernel, rfl, by decide +kernel, by decide +kernel⟩
abbrev s_rises : Stmt := topS 13
theorem sc_rises : FnScope ["things", "at"] ["things"] (defScope s_rises) := ⟨rfl, rfl, rfl, by decide +kernel, rfl, by decide +kernel, by decide +kernel⟩
abbrev s_is_day : Stmt := topS 14
theorem sc_is_day : FnScope ["thing", "hours", "stores", "sights", "asks", "blocks"] ["thing"] (defScope s_is_day) := ⟨rfl, rfl, rfl, by decide +kernel, rfl, by decide +kernel, by decide +kernel⟩
abbrev s__are_stores : Stmt := topS 15
theorem sc__are_stores : FnScope ["thing", "store"] ["thing"] (defScope s__are_stores) := ⟨rfl, rfl, rfl, by decide +kernel, rfl, by decide +kernel, by decide +kernel⟩
abbrev s__are_sights : Stmt := topS 16
theorem sc__are_sights : FnScope ["thing", "hours", "craft", "sight"] ["thing", "hours", "craft"] (defScope s__are_sights) := ⟨rfl, rfl, rfl, by decide +kernel, rfl, by decide +kernel, by decide +kernel⟩
abbrev s__is_sight : Stmt := topS 17
theorem sc__is_sight : FnScope ["thing", "hours", "craft", "heard"] ["thing", "hours", "craft"] (defScope s__is_sight) := ⟨rfl, rfl, rfl, by decide +kernel, rfl, by decide +kernel, by decide +kernel⟩
abbrev s__are_heard : Stmt := topS 18
theorem sc__are_heard : FnScope ["thing", "craft", "number"] ["thing", "craft"] (defScope s__are_heard) := ⟨rfl, rfl, rfl, by decide +kernel, rfl, by decide +kernel, by decide +kernel⟩
abbrev s__are_asks : Stmt := topS 19
theorem sc__are_asks : FnScope ["thing", "dishes", "ask"] ["thing", "dishes"] (defScope s__are_asks) := ⟨rfl, rfl, rfl, by decide +kernel, rfl, by decide +kernel, by decide +kernel⟩
abbrev s__are_blocks : Stmt := topS 20
theorem sc__are_blocks : FnScope ["thing", "hours", "craft", "block"] ["thing", "hours", "craft"] (defScope s__are_blocks) := ⟨rfl, rfl, rfl, by decide +kernel, rfl, by decide +kernel, by decide +kernel⟩
abbrev s_is_block : Stmt := topS 21
theorem sc_is_block : FnScope ["thing", "hours", "craft", "house", "number", "ready", "due", "worth"] ["thing", "hours", "craft"] (defScope s_is_block) := ⟨rfl, rfl, rfl, by decide +kernel, rfl, by decide +kernel, by decide +kernel⟩
abbrev s__law_purse : Stmt := topS 23
theorem sc__law_purse : FnScope ["script", "k", "cell"] ["script", "k"] (defScope s__law_purse) := ⟨rfl, rfl, rfl, by decide +kernel, rfl, by decide +kernel, by decide +kernel⟩
abbrev s__law_coin : Stmt := topS 24
theorem sc__law_coin : FnScope ["purse", "many", "found", "mixed"] ["purse", "many"] (defScope s__law_coin) := ⟨rfl, rfl, rfl, by decide +kernel, rfl, by decide +kernel, by decide +kernel⟩
abbrev s__law_sight : Stmt := topS 25
theorem sc__law_sight : FnScope ["purse", "hours", "craft", "found", "hour", "some", "one"] ["purse", "hours", "craft"] (defScope s__law_sight) := ⟨rfl, rfl, rfl, by decide +kernel, rfl, by decide +kernel, by decide +kernel⟩
abbrev s__law_block : Stmt := topS 26
theorem sc__law_block : FnScope ["purse", "hours", "craft", "ready", "due", "worth"] ["purse", "hours", "craft"] (defScope s__law_block) := ⟨rfl, rfl, rfl, by decide +kernel, rfl, by decide +kernel, by decide +kernel⟩
abbrev s__law_day : Stmt := topS 27
theorem sc__law_day : FnScope ["purse", "most", "blocks", "full", "hours", "craft", "stores", "dishes", "sights", "asks", "many", "one", "dish"] ["purse", "most", "blocks"] (defScope s__law_day) := ⟨rfl, rfl, rfl, by decide +kernel, rfl, by decide +kernel, by decide +kernel⟩
abbrev s__law_other : Stmt := topS 28
theorem sc__law_other : FnScope ["purse", "thing", "odd"] ["purse", "thing"] (defScope s__law_other) := ⟨rfl, rfl, rfl, by decide +kernel, rfl, by decide +kernel, by decide +kernel⟩
abbrev s__law_bent_row : Stmt := topS 29
theorem sc__law_bent_row : FnScope ["purse", "thing", "some", "at", "odds", "odd", "rows", "way"] ["purse", "thing"] (defScope s__law_bent_row) := ⟨rfl, rfl, rfl, by decide +kernel, rfl, by decide +kernel, by decide +kernel⟩
abbrev s__law_bent : Stmt := topS 30
theorem sc__law_bent : FnScope ["purse", "thing", "at", "some"] ["purse", "thing"] (defScope s__law_bent) := ⟨rfl, rfl, rfl, by decide +kernel, rfl, by decide +kernel, by decide +kernel⟩
abbrev s__law_whole : Stmt := topS 31
theorem sc__law_whole : FnScope ["thing", "low", "high"] ["thing", "low", "high"] (defScope s__law_whole) := ⟨rfl, rfl, rfl, by decide +kernel, rfl, by decide +kernel, by decide +kernel⟩
abbrev s__law_each : Stmt := topS 32
theorem sc__law_each : FnScope ["things", "low", "high", "one"] ["things", "low", "high"] (defScope s__law_each) := ⟨rfl, rfl, rfl, by decide +kernel, rfl, by decide +kernel, by decide +kernel⟩
abbrev s__law_is_sight : Stmt := topS 33
theorem sc__law_is_sight : FnScope ["sight", "hours", "craft", "heard"] ["sight", "hours", "craft"] (defScope s__law_is_sight) := ⟨rfl, rfl, rfl, by decide +kernel, rfl, by decide +kernel, by decide +kernel⟩
abbrev s__law_is_block : Stmt := topS 34
theorem sc__law_is_block : FnScope ["block", "hours", "craft", "house", "own", "ready", "due", "worth"] ["block", "hours", "craft"] (defScope s__law_is_block) := ⟨rfl, rfl, rfl, by decide +kernel, rfl, by decide +kernel, by decide +kernel⟩
abbrev s__law_is_day : Stmt := topS 35
theorem sc__law_is_day : FnScope ["thing", "hours", "stores", "sights", "asks", "blocks", "sight", "block", "one"] ["thing"] (defScope s__law_is_day) := ⟨rfl, rfl, rfl, by decide +kernel, rfl, by decide +kernel, by decide +kernel⟩
abbrev s__law_near : Stmt := topS 36
theorem sc__law_near : FnScope ["purse", "day", "hours", "stores", "sights", "asks", "blocks", "sight", "found", "ready", "due", "worth", "house", "hour"] ["purse", "day"] (defScope s__law_near) := ⟨rfl, rfl, rfl, by decide +kernel, rfl, by decide +kernel, by decide +kernel⟩
abbrev s_law : Stmt := topS 37
theorem sc_law : FnScope ["script", "k", "purse", "day", "things", "turn", "one", "thing", "text", "found"] ["script"] (defScope s_law) := ⟨rfl, rfl, rfl, by decide +kernel, rfl, by decide +kernel, by decide +kernel⟩
/-- what stands behind the top: each def, its function object, its code's table; the constants; the built-in names -/
structure Facts (K : PySem.W.Frag) (mg : Str → Option Value) (base : Heap) (fa : String → Addr) (fd : String → FuncData) (ca ta : String → Addr) : Prop where
  b : Bt mg
  c_MOST_HOURS : ∃ t, mg "MOST_HOURS" = some (.int 10 t)
  c_MOST_CRAFT : ∃ t, mg "MOST_CRAFT" = some (.int 4 t)
  c_MOST_STORE : ∃ t, mg "MOST_STORE" = some (.int 5 t)
  c_MOST_DISHES : ∃ t, mg "MOST_DISHES" = some (.int 3 t)
  c_MOST_ASK : ∃ t, mg "MOST_ASK" = some (.int 999 t)
  c_MOST_BLOCKS : ∃ t, mg "MOST_BLOCKS" = some (.int 14 t)
  c_MOST_HOUSE : ∃ t, mg "MOST_HOUSE" = some (.int 5 t)
  c_MOST_WORTH : ∃ t, mg "MOST_WORTH" = some (.int 9999 t)
  d_is_number : DefAt K mg "is_number" s_is_number ["thing"] (fa "is_number") (fd "is_number")
  d_is_whole : DefAt K mg "is_whole" s_is_whole ["thing", "least", "most"] (fa "is_whole") (fd "is_whole")
  d_is_list : DefAt K mg "is_list" s_is_list ["thing", "least", "most"] (fa "is_list") (fd "is_list")
  d_is_tuple : DefAt K mg "is_tuple" s_is_tuple ["thing", "many"] (fa "is_tuple") (fd "is_tuple")
  d_rises : DefAt K mg "rises" s_rises ["things"] (fa "rises") (fd "rises")
  d_is_day : DefAt K mg "is_day" s_is_day ["thing"] (fa "is_day") (fd "is_day")
  d__are_stores : DefAt K mg "_are_stores" s__are_stores ["thing"] (fa "_are_stores") (fd "_are_stores")
  d__are_sights : DefAt K mg "_are_sights" s__are_sights ["thing", "hours", "craft"] (fa "_are_sights") (fd "_are_sights")
  d__is_sight : DefAt K mg "_is_sight" s__is_sight ["thing", "hours", "craft"] (fa "_is_sight") (fd "_is_sight")
  d__are_heard : DefAt K mg "_are_heard" s__are_heard ["thing", "craft"] (fa "_are_heard") (fd "_are_heard")
  d__are_asks : DefAt K mg "_are_asks" s__are_asks ["thing", "dishes"] (fa "_are_asks") (fd "_are_asks")
  d__are_blocks : DefAt K mg "_are_blocks" s__are_blocks ["thing", "hours", "craft"] (fa "_are_blocks") (fd "_are_blocks")
  d_is_block : DefAt K mg "is_block" s_is_block ["thing", "hours", "craft"] (fa "is_block") (fd "is_block")
  d__law_purse : DefAt K mg "_law_purse" s__law_purse ["script", "k"] (fa "_law_purse") (fd "_law_purse")
  d__law_coin : DefAt K mg "_law_coin" s__law_coin ["purse", "many"] (fa "_law_coin") (fd "_law_coin")
  d__law_sight : DefAt K mg "_law_sight" s__law_sight ["purse", "hours", "craft"] (fa "_law_sight") (fd "_law_sight")
  d__law_block : DefAt K mg "_law_block" s__law_block ["purse", "hours", "craft"] (fa "_law_block") (fd "_law_block")
  d__law_day : DefAt K mg "_law_day" s__law_day ["purse", "most", "blocks"] (fa "_law_day") (fd "_law_day")
  d__law_other : DefAt K mg "_law_other" s__law_other ["purse", "thing"] (fa "_law_other") (fd "_law_other")
  d__law_bent_row : DefAt K mg "_law_bent_row" s__law_bent_row ["purse", "thing"] (fa "_law_bent_row") (fd "_law_bent_row")
  d__law_bent : DefAt K mg "_law_bent" s__law_bent ["purse", "thing"] (fa "_law_bent") (fd "_law_bent")
  d__law_whole : DefAt K mg "_law_whole" s__law_whole ["thing", "low", "high"] (fa "_law_whole") (fd "_law_whole")
  d__law_each : DefAt K mg "_law_each" s__law_each ["things", "low", "high"] (fa "_law_each") (fd "_law_each")
  d__law_is_sight : DefAt K mg "_law_is_sight" s__law_is_sight ["sight", "hours", "craft"] (fa "_law_is_sight") (fd "_law_is_sight")
  d__law_is_block : DefAt K mg "_law_is_block" s__law_is_block ["block", "hours", "craft"] (fa "_law_is_block") (fd "_law_is_block")
  d__law_is_day : DefAt K mg "_law_is_day" s__law_is_day ["thing"] (fa "_law_is_day") (fd "_law_is_day")
  d__law_near : DefAt K mg "_law_near" s__law_near ["purse", "day"] (fa "_law_near") (fd "_law_near")
  t_rises : TabAt base mg (fd "rises") (ca "rises") (ta "rises")
  t__are_stores : TabAt base mg (fd "_are_stores") (ca "_are_stores") (ta "_are_stores")
  t__are_sights : TabAt base mg (fd "_are_sights") (ca "_are_sights") (ta "_are_sights")
  t__is_sight : TabAt base mg (fd "_is_sight") (ca "_is_sight") (ta "_is_sight")
  t__are_heard : TabAt base mg (fd "_are_heard") (ca "_are_heard") (ta "_are_heard")
  t__are_asks : TabAt base mg (fd "_are_asks") (ca "_are_asks") (ta "_are_asks")
  t__are_blocks : TabAt base mg (fd "_are_blocks") (ca "_are_blocks") (ta "_are_blocks")
/-- all tables -/
def Ts (ta : String → Addr) : List Addr := [ta "rises", ta "_are_stores", ta "_are_sights", ta "_is_sight", ta "_are_heard", ta "_are_asks", ta "_are_blocks"]
theorem tab_rises {ta : String → Addr} {H : Hp} (h : Tb (Ts ta) H) : TabG H (ta "rises") := h _ (by simp [Ts])
theorem tab__are_stores {ta : String → Addr} {H : Hp} (h : Tb (Ts ta) H) : TabG H (ta "_are_stores") := h _ (by simp [Ts])
theorem tab__are_sights {ta : String → Addr} {H : Hp} (h : Tb (Ts ta) H) : TabG H (ta "_are_sights") := h _ (by simp [Ts])
theorem tab__is_sight {ta : String → Addr} {H : Hp} (h : Tb (Ts ta) H) : TabG H (ta "_is_sight") := h _ (by simp [Ts])
theorem tab__are_heard {ta : String → Addr} {H : Hp} (h : Tb (Ts ta) H) : TabG H (ta "_are_heard") := h _ (by simp [Ts])
theorem tab__are_asks {ta : String → Addr} {H : Hp} (h : Tb (Ts ta) H) : TabG H (ta "_are_asks") := h _ (by simp [Ts])
theorem tab__are_blocks {ta : String → Addr} {H : Hp} (h : Tb (Ts ta) H) : TabG H (ta "_are_blocks") := h _ (by simp [Ts])
end Law

set_option Elab.async false
set_option linter.all false
set_option maxRecDepth 100000
set_option maxHeartbeats 4000000
namespace Law
open PySem PySem.Spec PyProof.Rows L2 GxR GX Tree Kit Data Loops
section
variable {P : Program} {w : World} {K : PySem.W.Frag} {mg : Str → Option Value} {base : Heap} {fa : String → Addr} {fd : String → FuncData} {ca ta : String → Addr}
/-! ### numbers, lists, tuples -/
def sp_is_number : Sp := fun vs H Q _ => ∃ v d, vs = [v] ∧ Tr [] H v d ∧ Q (.bl (isNum d)) H
theorem ok_is_number (Y : Facts K mg base fa fd ca ta) : FnOk P w K mg base CX0 1 (fa "is_number") (fd "is_number") ["thing"] sp_is_number := by
  refine Y.d_is_number.ok sc_is_number (fun vs H Q E h => ?_) (fun cdv A outer s H vs Q E hcd hr h => ?_)
  · obtain ⟨v, d, rfl, _⟩ := h; rfl
  · obtain ⟨v, d, rfl, ht, q⟩ := h
    refine ⟨_, (pss_one (ps_ret (pe_and (pe_callB (call_isiK' K rfl) (by rfl) Y.b.isinstance (by decide +kernel) (pa_cons (pv 0) (pa_cons (pe_bltn (v := .ty "int") (by rfl) Y.b.int (by decide +kernel) rfl) pa_nil))) (pe_one (pe_not (pe_callB (call_isiK' K rfl) (by rfl) Y.b.isinstance (by decide +kernel) (pa_cons (pv 0) (pa_cons (pe_bltn (v := .ty "bool") (by rfl) Y.b.bool (by decide +kernel) rfl) pa_nil)))))))), ?_⟩
    refine ⟨v, rfl, v, .ty "int", _, _, _, rfl, .ty _, ht.ty, kit_int d, _, rfl, ?_⟩
    have e : isNum d = (isiD "int" d && !isiD "bool" d) := by cases d <;> rfl
    rw [e] at q
    refine ite2 (fun c => ?_) (fun c => ?_)
    · rw [c] at q
      exact ⟨v, rfl, v, .ty "bool", _, _, _, rfl, .ty _, ht.ty, kit_bool d, _, rfl, q⟩
    · rw [Bool.not_eq_true] at c
      rw [c] at q
      exact q
def sp_is_whole : Sp := fun vs H Q _ => ∃ v d lo hi, vs = [v, .int lo, .int hi] ∧ Tr [] H v d ∧ Q (.bl (isWh lo hi d)) H
theorem ok_is_whole (Y : Facts K mg base fa fd ca ta) : FnOk P w K mg base CX0 2 (fa "is_whole") (fd "is_whole") ["thing", "least", "most"] sp_is_whole := by
  refine Y.d_is_whole.ok sc_is_whole (fun vs H Q E h => ?_) (fun cdv A outer s H vs Q E hcd hr h => ?_)
  · obtain ⟨v, d, lo, hi, rfl, _⟩ := h; rfl
  · obtain ⟨v, d, lo, hi, rfl, ht, q⟩ := h
    refine ⟨_, (pss_one (ps_ret (pe_and (pe_call (ok_is_number Y) (hr.mono (by decide)) (by rfl) Y.d_is_number.g Y.d_is_number.kp Y.d_is_number.b .nil pass0 (pa_cons (pv 0) pa_nil)) (pe_one (pe_chain op_le op_le (pv 1) (pv 0) (pv 2)))))), ?_⟩
    refine ⟨v, rfl, v, d, rfl, ht, _, rfl, ?_⟩
    refine ite2 (fun c => ?_) (fun c => ?_)
    · cases ht with
      | int i =>
        refine ⟨_, rfl, _, rfl, _, _, rfl, rfl, _, rfl, ?_⟩
        refine ite2 (fun c1 => ?_) (fun c1 => ?_)
        · refine ⟨_, rfl, _, _, rfl, rfl, ?_⟩
          have q' : Q (.bl (decide (lo ≤ i) && decide (i ≤ hi))) H := q
          rw [c1] at q'
          exact q'
        · have q' : Q (.bl (decide (lo ≤ i) && decide (i ≤ hi))) H := q
          rw [Bool.not_eq_true] at c1
          rw [c1] at q'
          exact q'
      | _ => cases c
    · have e : isWh lo hi d = false := by cases d <;> first | rfl | exact absurd rfl c
      rw [e] at q
      exact q
def sp_is_list : Sp := fun vs H Q _ => ∃ v d lo hi, vs = [v, .int lo, .int hi] ∧ Tr [] H v d ∧ Q (.bl (isLs lo hi d)) H
theorem ok_is_list (Y : Facts K mg base fa fd ca ta) : FnOk P w K mg base CX0 1 (fa "is_list") (fd "is_list") ["thing", "least", "most"] sp_is_list := by
  refine Y.d_is_list.ok sc_is_list (fun vs H Q E h => ?_) (fun cdv A outer s H vs Q E hcd hr h => ?_)
  · obtain ⟨v, d, lo, hi, rfl, _⟩ := h; rfl
  · obtain ⟨v, d, lo, hi, rfl, ht, q⟩ := h
    refine ⟨_, (pss_one (ps_ret (pe_and (pe_callB (call_isiK' K rfl) (by rfl) Y.b.isinstance (by decide +kernel) (pa_cons (pv 0) (pa_cons (pe_bltn (v := .ty "list") (by rfl) Y.b.list (by decide +kernel) rfl) pa_nil))) (pe_one (pe_chain op_le op_le (pv 1) (pe_callB (call_lenK K rfl) (by rfl) Y.b.len (by decide +kernel) (pa_cons (pv 0) pa_nil)) (pv 2)))))), ?_⟩
    refine ⟨v, rfl, v, .ty "list", _, _, _, rfl, .ty _, ht.ty, kit_list d, _, rfl, ?_⟩
    refine ite2 (fun c => ?_) (fun c => ?_)
    · cases ht with
      | lst n h l =>
        rename_i a xs ds
        have hl := l.length
        refine ⟨_, rfl, _, rfl, a, xs, rfl, .inl (SqL.of h), _, _, rfl, rfl, _, rfl, ?_⟩
        have q' : Q (.bl (decide (lo ≤ (ds.length : Int)) && decide ((ds.length : Int) ≤ hi))) H := q
        rw [← hl] at q'
        refine ite2 (fun c1 => ?_) (fun c1 => ?_)
        · refine ⟨_, rfl, _, _, rfl, rfl, ?_⟩
          rw [c1] at q'
          exact q'
        · rw [Bool.not_eq_true] at c1
          rw [c1] at q'
          exact q'
      | _ => cases c
    · have e : isLs lo hi d = false := by cases d <;> first | rfl | exact absurd rfl c
      rw [e] at q
      exact q
def sp_is_tuple : Sp := fun vs H Q _ => ∃ v d n, vs = [v, .int n] ∧ Tr [] H v d ∧ Q (.bl (isTp n d)) H
theorem ok_is_tuple (Y : Facts K mg base fa fd ca ta) : FnOk P w K mg base CX0 1 (fa "is_tuple") (fd "is_tuple") ["thing", "many"] sp_is_tuple := by
  refine Y.d_is_tuple.ok sc_is_tuple (fun vs H Q E h => ?_) (fun cdv A outer s H vs Q E hcd hr h => ?_)
  · obtain ⟨v, d, n, rfl, _⟩ := h; rfl
  · obtain ⟨v, d, n, rfl, ht, q⟩ := h
    refine ⟨_, (pss_one (ps_ret (pe_and (pe_callB (call_isiK' K rfl) (by rfl) Y.b.isinstance (by decide +kernel) (pa_cons (pv 0) (pa_cons (pe_bltn (v := .ty "tuple") (by rfl) Y.b.tuple (by decide +kernel) rfl) pa_nil))) (pe_one (pe_cmpR op_eq (pe_callB (call_lenK K rfl) (by rfl) Y.b.len (by decide +kernel) (pa_cons (pv 0) pa_nil)) (pv 1) (nomark _)))))), ?_⟩
    refine ⟨v, rfl, v, .ty "tuple", _, _, _, rfl, .ty _, ht.ty, kit_tuple d, _, rfl, ?_⟩
    refine ite2 (fun c => ?_) (fun c => ?_)
    · cases ht with
      | tup m h l =>
        rename_i a xs ds
        have hl := l.length
        refine ⟨_, rfl, a, xs, rfl, .inr (SqT.of h), _, rfl, rfl, ?_⟩
        have e : decide (V.int (xs.length : Int) = V.int n) = decide ((ds.length : Int) = n) := by
          rw [hl]
          by_cases z : (ds.length : Int) = n
          · rw [decide_eq_true z, z, decide_eq_true rfl]
          · rw [decide_eq_false z, decide_eq_false (fun y => z (V.int.inj y))]
        rw [e]
        exact q
      | _ => cases c
    · have e : isTp n d = false := by cases d <;> first | rfl | exact absurd rfl c
      rw [e] at q
      exact q
/-! ### rising -/
theorem getD_at {α : Type} : ∀ (l : List α) (d : α) {i : Nat} (h : i < l.length), l.getD i d = l[i]
  | [], _, _, h => absurd h (Nat.not_lt_zero _)
  | _ :: _, _, 0, _ => rfl
  | _ :: r, d, i + 1, h => getD_at r d (Nat.lt_of_succ_lt_succ h)
def risesN (ns : List Int) : Bool := (List.range (ns.length - 1)).all fun i => decide (ns.getD i 0 < ns.getD (i + 1) 0)
theorem risesN_eq : ∀ ns : List Int, risesN ns = risesB ns := by
  intro ns
  unfold risesN risesB
  rw [Bool.eq_iff_iff, List.all_eq_true, decide_eq_true_eq]
  constructor
  · intro h
    rw [List.pairwise_iff_getElem]
    have key : ∀ j i (hij : i < j) (hj : j < ns.length), ns[i]'(by omega) < ns[j] := by
      intro j
      induction j with
      | zero => intro i hij; omega
      | succ j ih =>
        intro i hij hj
        have h1 := of_decide_eq_true (h j (List.mem_range.mpr (by omega)))
        rw [getD_at _ _ (by omega), getD_at _ _ hj] at h1
        rcases Nat.lt_or_eq_of_le (Nat.le_of_lt_succ hij) with z | z
        · have := ih i z (by omega)
          omega
        · subst z
          exact h1
    intro i j hi hj hij
    exact key j i hij hj
  · intro h i hi
    have hi' := List.mem_range.mp hi
    rw [getD_at _ _ (by omega), getD_at _ _ (by omega)]
    exact decide_eq_true (List.pairwise_iff_getElem.mp h i (i + 1) (by omega) (by omega) (by omega))
def sp_rises (ta : String → Addr) : Sp := fun vs H Q _ => ∃ a ns, vs = [.ref a] ∧ H a = some (.lst (ns.map V.int)) ∧ ns.length ≤ 100000 ∧ Tb (Ts ta) H ∧ ∀ H', Kx [] H H' → Q (.bl (risesB ns)) H'
theorem ok_rises (Y : Facts K mg base fa fd ca ta) : FnOk P w K mg base CX0 2 (fa "rises") (fd "rises") ["things"] (sp_rises ta) := by
  refine Y.d_rises.ok sc_rises (fun vs H Q E h => ?_) (fun cdv A outer s H vs Q E hcd hr h => ?_)
  · obtain ⟨a, ns, rfl, _⟩ := h; rfl
  · obtain ⟨a, ns, rfl, ha, hz, hT, q⟩ := h
    refine ⟨_, (pss_one (ps_ret (pe_allG (own := [("at", 1)]) (g := gName 1) (tt := tYes) (hr.mono (by decide)) rfl sc_rises.nd (by rfl) Y.b.all Y.t_rises.tb (hcd.symm.trans Y.t_rises.code) (gok_by (N := ["things", "at"]) (sc := defScope s_rises) (by decide +kernel)) (pi_range1 (by rfl) Y.b.range (pa_cons (pe_op op_sub (pe_callB (call_lenK K rfl) (by rfl) Y.b.len (by decide +kernel) (pa_cons (pv 0) pa_nil)) pe_int) pa_nil)) (fun _ _ _ _ _ _ _ => (pg_name (i := 1) sc_rises.nd rfl (by first | exact Or.inl rfl | exact Or.inr rfl))) (fun _ _ _ _ _ _ _ => pts_nil) (fun _ _ _ _ _ _ _ => (pe_cmpR op_lt (pe_ix (ix_listK K rfl) (pv 0) (pv 1) (fun _ _ => rfl)) (pe_ix (ix_listK K rfl) (pv 0) (pe_op op_add (pv 1) pe_int) (fun _ _ => rfl)) (nomark _)))))), ?_⟩
    refine ⟨_, rfl, a, _, rfl, .inl (SqL.of ha), _, _, rfl, rfl, (ns.length : Int) - 1, by rw [List.length_map], ?_, ?_, ?_⟩
    · omega
    · omega
    · rw [show ((ns.length : Int) - 1).toNat = ns.length - 1 by omega]
      refine all_range (p := fun i => decide (ns.getD i 0 < ns.getD (i + 1) 0)) (tab_rises hT) (fun i H' hi k R hR => ?_) fun H' k => ?_
      · have ha' := k.lst (by simp) ha
        refine ⟨rfl, _, rfl, _, rfl, a, _, _, _, rfl, rfl, SqL.of ha', atI_nat (j := i) (by rw [List.getElem?_map, List.getElem?_eq_getElem (by omega)]; rfl), _, rfl, _, rfl, _, _, rfl, rfl, a, _, _, _, rfl, rfl, SqL.of ha', at_of (j := i + 1) (by simp) (by rw [List.getElem?_map, List.getElem?_eq_getElem (by omega)]; rfl), _, _, rfl, rfl, _, rfl, ?_⟩
        have := hR H' (Kx.refl _)
        simp only [getD_at _ _ (show i < ns.length by omega), getD_at _ _ (show i + 1 < ns.length by omega)] at this
        exact this
      · have := q H' k
        rw [← risesN_eq] at this
        exact this
/-! ### the parts of a day -/
theorem TrAll.intsV {B : List Addr} {H : Hp} {xs : List V} {ds : List PyData} (h : TrAll B H xs ds) (e : ds = (intsD ds).map PyData.int) : xs = (intsD ds).map V.int := by
  have key : ∀ (ns : List Int) (xs : List V), TrAll B H xs (ns.map PyData.int) → xs = ns.map V.int := by
    intro ns
    induction ns with
    | nil => intro xs h; cases h; rfl
    | cons n r ih =>
      intro xs h
      cases h with
      | cons h1 h2 =>
        cases h1
        rw [ih _ h2]
        rfl
  rw [e] at h
  exact key _ _ h
def sp_are_heard (ta : String → Addr) : Sp := fun vs H Q _ => ∃ v d craft, vs = [v, .int craft] ∧ Tr [] H v d ∧ sz d ≤ 100000 ∧ Tb (Ts ta) H ∧ ∀ H', Kx [] H H' → Q (.bl (heardB craft d)) H'
theorem ok__are_heard (Y : Facts K mg base fa fd ca ta) : FnOk P w K mg base CX0 4 (fa "_are_heard") (fd "_are_heard") ["thing", "craft"] (sp_are_heard ta) := by
  refine Y.d__are_heard.ok sc__are_heard (fun vs H Q E h => ?_) (fun cdv A outer s H vs Q E hcd hr h => ?_)
  · obtain ⟨v, d, cr, rfl, _⟩ := h; rfl
  · obtain ⟨v, d, cr, rfl, ht, hz, hT, q⟩ := h
    refine ⟨_, (pss_one (ps_ret (pe_and (pe_callB (call_isiK' K rfl) (by rfl) Y.b.isinstance (by decide +kernel) (pa_cons (pv 0) (pa_cons (pe_bltn (v := .ty "list") (by rfl) Y.b.list (by decide +kernel) rfl) pa_nil))) (pe_and (pe_allG (own := [("number", 2)]) (g := gName 2) (tt := tYes) (hr.mono (by decide)) rfl sc__are_heard.nd (by rfl) Y.b.all Y.t__are_heard.tb (hcd.symm.trans Y.t__are_heard.code) (gok_by (N := ["thing", "craft", "number"]) (sc := defScope s__are_heard) (by decide +kernel)) (pi_listK K rfl (pv 0)) (fun _ _ _ _ _ _ _ => (pg_name (i := 2) sc__are_heard.nd rfl (by first | exact Or.inl rfl | exact Or.inr rfl))) (fun _ _ _ _ _ _ _ => pts_nil) (fun _ _ _ _ _ _ _ => (pe_call (ok_is_whole Y) ((room_gen (k := 2) (hr.mono (by decide)) _).mono (by decide)) (by rfl) Y.d_is_whole.g Y.d_is_whole.kp Y.d_is_whole.b .nil pass0 (pa_cons (pv 2) (pa_cons pe_int (pa_cons (pe_op op_sub (pv 1) pe_int) pa_nil)))))) (pe_one (pe_call (ok_rises Y) (hr.mono (by decide)) (by rfl) Y.d_rises.g Y.d_rises.kp Y.d_rises.b .nil pass0 (pa_cons (pv 0) pa_nil))))))), ?_⟩
    refine ⟨v, rfl, v, .ty "list", _, _, _, rfl, .ty _, ht.ty, kit_list d, _, rfl, ?_⟩
    refine ite2 (fun c => ?_) (fun c => ?_)
    · cases ht with
      | lst n h l =>
        rename_i a xs ds
        refine all_treeV (isWh 0 (cr - 1)) rfl h l (tab__are_heard hT) (fun x d H' hd t k R hR => ?_) fun H' k => ⟨_, rfl, ?_⟩
        · exact ⟨rfl, x, rfl, _, rfl, _, _, rfl, rfl, x, d, 0, cr - 1, rfl, t, _, rfl, hR H' (Kx.refl _)⟩
        · refine ite2 (fun c => ?_) (fun c => ?_)
          · have ei := all_ints c
            refine ⟨_, rfl, a, intsD ds, rfl, ?_, ?_, hT.kx k, fun H'' k2 => ?_⟩
            · rw [← TrAll.intsV l ei]
              exact k.lst (by simp) h
            · have h1 := intsD_length ds
              have h2 := szAll_len ds
              simp only [sz] at hz
              omega
            · have := q H'' (k.trans k2)
              simp only [heardB, c, Bool.true_and] at this
              exact this
          · rw [Bool.not_eq_true] at c
            have := q H' k
            simp only [heardB, c, Bool.false_and] at this
            exact this
      | _ => cases c
    · have e : heardB cr d = false := by cases d <;> first | rfl | exact absurd rfl c
      have := q H (Kx.refl _)
      rw [e] at this
      exact this
theorem sz_in {d : PyData} {ds : List PyData} (h : d ∈ ds) (hz : sz (.list ds) ≤ 100000) : sz d ≤ 100000 := by
  have h1 := szAll_mem h
  simp only [sz] at hz
  omega
theorem sz_inT {d : PyData} {ds : List PyData} (h : d ∈ ds) (hz : sz (.tuple ds) ≤ 100000) : sz d ≤ 100000 := by
  have h1 := szAll_mem h
  simp only [sz] at hz
  omega
/-- a list's test by its length, then by its items -/
theorem lsall_false {lo hi : Int} {p : PyData → Bool} {d : PyData} (h : isLs lo hi d = false) : (isLs lo hi d && listAll p d) = false := by rw [h]; rfl
def sp_is_sight (ta : String → Addr) : Sp := fun vs H Q _ => ∃ v d h cr, vs = [v, .int h, .int cr] ∧ Tr [] H v d ∧ sz d ≤ 100000 ∧ Tb (Ts ta) H ∧ ∀ H', Kx [] H H' → Q (.bl (sightB h cr d)) H'
theorem ok__is_sight (Y : Facts K mg base fa fd ca ta) : FnOk P w K mg base CX0 6 (fa "_is_sight") (fd "_is_sight") ["thing", "hours", "craft"] (sp_is_sight ta) := by
  refine Y.d__is_sight.ok sc__is_sight (fun vs H Q E h => ?_) (fun cdv A outer s H vs Q E hcd hr h => ?_)
  · obtain ⟨v, d, h, cr, rfl, _⟩ := h; rfl
  · obtain ⟨v, d, h, cr, rfl, ht, hz, hT, q⟩ := h
    refine ⟨_, (pss_one (ps_ret (pe_and (pe_call (ok_is_list Y) (hr.mono (by decide)) (by rfl) Y.d_is_list.g Y.d_is_list.kp Y.d_is_list.b .nil pass0 (pa_cons (pv 0) (pa_cons (pv 1) (pa_cons (pv 1) pa_nil)))) (pe_one (pe_allG (own := [("heard", 3)]) (g := gName 3) (tt := tYes) (hr.mono (by decide)) rfl sc__is_sight.nd (by rfl) Y.b.all Y.t__is_sight.tb (hcd.symm.trans Y.t__is_sight.code) (gok_by (N := ["thing", "hours", "craft", "heard"]) (sc := defScope s__is_sight) (by decide +kernel)) (pi_listK K rfl (pv 0)) (fun _ _ _ _ _ _ _ => (pg_name (i := 3) sc__is_sight.nd rfl (by first | exact Or.inl rfl | exact Or.inr rfl))) (fun _ _ _ _ _ _ _ => pts_nil) (fun _ _ _ _ _ _ _ => (pe_call (ok__are_heard Y) ((room_gen (k := 4) (hr.mono (by decide)) _).mono (by decide)) (by rfl) Y.d__are_heard.g Y.d__are_heard.kp Y.d__are_heard.b .nil pass0 (pa_cons (pv 3) (pa_cons (pv 2) pa_nil))))))))), ?_⟩
    refine ⟨v, rfl, _, rfl, _, rfl, v, d, h, h, rfl, ht, _, rfl, ?_⟩
    refine ite2 (fun c => ?_) (fun c => ?_)
    · obtain ⟨ds, rfl, _, _⟩ := isLs_list c
      cases ht with
      | lst n ha l =>
        refine all_treeV (heardB cr) rfl ha l (tab__is_sight hT) (fun x d H' hd t k R hR => ?_) fun H' k => ?_
        · exact ⟨rfl, x, rfl, _, rfl, x, d, cr, rfl, t, sz_in hd hz, hT.kx k, fun H'' k2 => ⟨_, rfl, hR H'' k2⟩⟩
        · have := q H' k
          simp only [sightB, c, Bool.true_and] at this
          exact this
    · rw [Bool.not_eq_true] at c
      have := q H (Kx.refl _)
      rw [show sightB h cr d = false from lsall_false c] at this
      exact this
def sp_are_sights (ta : String → Addr) : Sp := fun vs H Q _ => ∃ v d h cr, vs = [v, .int h, .int cr] ∧ Tr [] H v d ∧ sz d ≤ 100000 ∧ Tb (Ts ta) H ∧ ∀ H', Kx [] H H' → Q (.bl (sightsB h cr d)) H'
theorem ok__are_sights (Y : Facts K mg base fa fd ca ta) : FnOk P w K mg base CX0 8 (fa "_are_sights") (fd "_are_sights") ["thing", "hours", "craft"] (sp_are_sights ta) := by
  refine Y.d__are_sights.ok sc__are_sights (fun vs H Q E h => ?_) (fun cdv A outer s H vs Q E hcd hr h => ?_)
  · obtain ⟨v, d, h, cr, rfl, _⟩ := h; rfl
  · obtain ⟨v, d, h, cr, rfl, ht, hz, hT, q⟩ := h
    refine ⟨_, (pss_one (ps_ret (pe_and (pe_call (ok_is_list Y) (hr.mono (by decide)) (by rfl) Y.d_is_list.g Y.d_is_list.kp Y.d_is_list.b .nil pass0 (pa_cons (pv 0) (pa_cons pe_int (pa_cons (pe_gint (by rfl) Y.c_MOST_DISHES) pa_nil)))) (pe_one (pe_allG (own := [("sight", 3)]) (g := gName 3) (tt := tYes) (hr.mono (by decide)) rfl sc__are_sights.nd (by rfl) Y.b.all Y.t__are_sights.tb (hcd.symm.trans Y.t__are_sights.code) (gok_by (N := ["thing", "hours", "craft", "sight"]) (sc := defScope s__are_sights) (by decide +kernel)) (pi_listK K rfl (pv 0)) (fun _ _ _ _ _ _ _ => (pg_name (i := 3) sc__are_sights.nd rfl (by first | exact Or.inl rfl | exact Or.inr rfl))) (fun _ _ _ _ _ _ _ => pts_nil) (fun _ _ _ _ _ _ _ => (pe_call (ok__is_sight Y) ((room_gen (k := 6) (hr.mono (by decide)) _).mono (by decide)) (by rfl) Y.d__is_sight.g Y.d__is_sight.kp Y.d__is_sight.b .nil pass0 (pa_cons (pv 3) (pa_cons (pv 1) (pa_cons (pv 2) pa_nil)))))))))), ?_⟩
    refine ⟨v, rfl, v, d, 1, 3, rfl, ht, _, rfl, ?_⟩
    refine ite2 (fun c => ?_) (fun c => ?_)
    · obtain ⟨ds, rfl, _, _⟩ := isLs_list c
      cases ht with
      | lst n ha l =>
        refine all_treeV (sightB h cr) rfl ha l (tab__are_sights hT) (fun x d H' hd t k R hR => ?_) fun H' k => ?_
        · exact ⟨rfl, x, rfl, _, rfl, _, rfl, x, d, h, cr, rfl, t, sz_in hd hz, hT.kx k, fun H'' k2 => ⟨_, rfl, hR H'' k2⟩⟩
        · have := q H' k
          simp only [sightsB, c, Bool.true_and] at this
          exact this
    · rw [Bool.not_eq_true] at c
      have := q H (Kx.refl _)
      rw [show sightsB h cr d = false from lsall_false c] at this
      exact this
def sp_are_stores (ta : String → Addr) : Sp := fun vs H Q _ => ∃ v d, vs = [v] ∧ Tr [] H v d ∧ Tb (Ts ta) H ∧ ∀ H', Kx [] H H' → Q (.bl (storesB d)) H'
theorem ok__are_stores (Y : Facts K mg base fa fd ca ta) : FnOk P w K mg base CX0 4 (fa "_are_stores") (fd "_are_stores") ["thing"] (sp_are_stores ta) := by
  refine Y.d__are_stores.ok sc__are_stores (fun vs H Q E h => ?_) (fun cdv A outer s H vs Q E hcd hr h => ?_)
  · obtain ⟨v, d, rfl, _⟩ := h; rfl
  · obtain ⟨v, d, rfl, ht, hT, q⟩ := h
    refine ⟨_, (pss_one (ps_ret (pe_and (pe_call (ok_is_list Y) (hr.mono (by decide)) (by rfl) Y.d_is_list.g Y.d_is_list.kp Y.d_is_list.b .nil pass0 (pa_cons (pv 0) (pa_cons pe_int (pa_cons (pe_gint (by rfl) Y.c_MOST_CRAFT) pa_nil)))) (pe_one (pe_allG (own := [("store", 1)]) (g := gName 1) (tt := tYes) (hr.mono (by decide)) rfl sc__are_stores.nd (by rfl) Y.b.all Y.t__are_stores.tb (hcd.symm.trans Y.t__are_stores.code) (gok_by (N := ["thing", "store"]) (sc := defScope s__are_stores) (by decide +kernel)) (pi_listK K rfl (pv 0)) (fun _ _ _ _ _ _ _ => (pg_name (i := 1) sc__are_stores.nd rfl (by first | exact Or.inl rfl | exact Or.inr rfl))) (fun _ _ _ _ _ _ _ => pts_nil) (fun _ _ _ _ _ _ _ => (pe_call (ok_is_whole Y) ((room_gen (k := 2) (hr.mono (by decide)) _).mono (by decide)) (by rfl) Y.d_is_whole.g Y.d_is_whole.kp Y.d_is_whole.b .nil pass0 (pa_cons (pv 1) (pa_cons pe_int (pa_cons (pe_gint (by rfl) Y.c_MOST_STORE) pa_nil)))))))))), ?_⟩
    refine ⟨v, rfl, v, d, 1, 4, rfl, ht, _, rfl, ?_⟩
    refine ite2 (fun c => ?_) (fun c => ?_)
    · obtain ⟨ds, rfl, _, _⟩ := isLs_list c
      cases ht with
      | lst n ha l =>
        refine all_treeV (isWh 0 5) rfl ha l (tab__are_stores hT) (fun x d H' hd t k R hR => ?_) fun H' k => ?_
        · exact ⟨rfl, x, rfl, x, d, 0, 5, rfl, t, _, rfl, hR H' (Kx.refl _)⟩
        · have := q H' k
          simp only [storesB, c, Bool.true_and] at this
          exact this
    · rw [Bool.not_eq_true] at c
      have := q H (Kx.refl _)
      rw [show storesB d = false from lsall_false c] at this
      exact this
def sp_are_asks (ta : String → Addr) : Sp := fun vs H Q _ => ∃ v d n, vs = [v, .int n] ∧ Tr [] H v d ∧ Tb (Ts ta) H ∧ ∀ H', Kx [] H H' → Q (.bl (asksB n d)) H'
theorem isNone_v {B : List Addr} {H : Hp} {x : V} {d : PyData} (t : Tr B H x d) : decide (x = V.non) = isNone d := by
  cases t <;> first | rfl | exact decide_eq_false (fun z => by cases z)
theorem ok__are_asks (Y : Facts K mg base fa fd ca ta) : FnOk P w K mg base CX0 4 (fa "_are_asks") (fd "_are_asks") ["thing", "dishes"] (sp_are_asks ta) := by
  refine Y.d__are_asks.ok sc__are_asks (fun vs H Q E h => ?_) (fun cdv A outer s H vs Q E hcd hr h => ?_)
  · obtain ⟨v, d, n, rfl, _⟩ := h; rfl
  · obtain ⟨v, d, n, rfl, ht, hT, q⟩ := h
    refine ⟨_, (pss_one (ps_ret (pe_and (pe_call (ok_is_list Y) (hr.mono (by decide)) (by rfl) Y.d_is_list.g Y.d_is_list.kp Y.d_is_list.b .nil pass0 (pa_cons (pv 0) (pa_cons (pv 1) (pa_cons (pv 1) pa_nil)))) (pe_one (pe_allG (own := [("ask", 2)]) (g := gName 2) (tt := tYes) (hr.mono (by decide)) rfl sc__are_asks.nd (by rfl) Y.b.all Y.t__are_asks.tb (hcd.symm.trans Y.t__are_asks.code) (gok_by (N := ["thing", "dishes", "ask"]) (sc := defScope s__are_asks) (by decide +kernel)) (pi_listK K rfl (pv 0)) (fun _ _ _ _ _ _ _ => (pg_name (i := 2) sc__are_asks.nd rfl (by first | exact Or.inl rfl | exact Or.inr rfl))) (fun _ _ _ _ _ _ _ => pts_nil) (fun _ _ _ _ _ _ _ => (pe_or (pe_cmpR op_isN (pv 2) pe_non (nomark _)) (pe_one (pe_call (ok_is_whole Y) ((room_gen (k := 2) (hr.mono (by decide)) _).mono (by decide)) (by rfl) Y.d_is_whole.g Y.d_is_whole.kp Y.d_is_whole.b .nil pass0 (pa_cons (pv 2) (pa_cons pe_int (pa_cons (pe_gint (by rfl) Y.c_MOST_ASK) pa_nil)))))))))))), ?_⟩
    refine ⟨v, rfl, _, rfl, _, rfl, v, d, n, n, rfl, ht, _, rfl, ?_⟩
    refine ite2 (fun c => ?_) (fun c => ?_)
    · obtain ⟨ds, rfl, _, _⟩ := isLs_list c
      cases ht with
      | lst m ha l =>
        refine all_treeV (fun a => isNone a || isWh 0 999 a) rfl ha l (tab__are_asks hT) (fun x d H' hd t k R hR => ?_) fun H' k => ?_
        · refine ⟨rfl, x, rfl, rfl, _, rfl, ?_⟩
          rw [isNone_v t]
          refine ite2 (fun c => ?_) (fun c => ?_)
          · refine ⟨_, rfl, ?_⟩
            have := hR H' (Kx.refl _)
            rw [c] at this
            exact this
          · rw [Bool.not_eq_true] at c
            refine ⟨x, rfl, x, d, 0, 999, rfl, t, _, rfl, ?_⟩
            have := hR H' (Kx.refl _)
            rw [c] at this
            exact this
        · have := q H' k
          simp only [asksB, c, Bool.true_and] at this
          exact this
    · rw [Bool.not_eq_true] at c
      have := q H (Kx.refl _)
      rw [show asksB n d = false from lsall_false c] at this
      exact this
def sp_is_block : Sp := fun vs H Q _ => ∃ v d h cr, vs = [v, .int h, .int cr] ∧ Tr [] H v d ∧ Q (.bl (blockB h cr d)) H
theorem TrAll.five {B : List Addr} {H : Hp} {xs : List V} {a b c d e : PyData} (h : TrAll B H xs [a, b, c, d, e]) : ∃ v1 v2 v3 v4 v5, xs = [v1, v2, v3, v4, v5] ∧ Tr B H v1 a ∧ Tr B H v2 b ∧ Tr B H v3 c ∧ Tr B H v4 d ∧ Tr B H v5 e := by
  cases h with
  | cons h1 r => cases r with
    | cons h2 r => cases r with
      | cons h3 r => cases r with
        | cons h4 r => cases r with
          | cons h5 r => cases r; exact ⟨_, _, _, _, _, rfl, h1, h2, h3, h4, h5⟩
/-- a && .. answered from the left -/
theorem andV {a b : Bool} {A : Prop} {R : Bool → Prop} (q : R (a && b)) (h1 : a = true → R b → A) : if a = true then A else R false := by
  cases a with
  | true => exact iteT (h1 rfl q)
  | false => exact iteF q
theorem orV {a b : Bool} {A : Prop} {R : Bool → Prop} (q : R (a || b)) (h1 : a = false → R b → A) : if a = true then R true else A := by
  cases a with
  | true => exact iteT q
  | false => exact iteF (h1 rfl q)
theorem ok_is_block (Y : Facts K mg base fa fd ca ta) : FnOk P w K mg base CX0 3 (fa "is_block") (fd "is_block") ["thing", "hours", "craft"] sp_is_block := by
  refine Y.d_is_block.ok sc_is_block (fun vs H Q E h => ?_) (fun cdv A outer s H vs Q E hcd hr h => ?_)
  · obtain ⟨v, d, h, cr, rfl, _⟩ := h; rfl
  · obtain ⟨v, d, h, cr, rfl, ht, q⟩ := h
    refine ⟨_, (pss_cons (ps_if (pt_not (pt_val (pe_call (ok_is_tuple Y) (hr.mono (by decide)) (by rfl) Y.d_is_tuple.g Y.d_is_tuple.kp Y.d_is_tuple.b .nil pass0 (pa_cons (pv 0) (pa_cons pe_int pa_nil))))) (pss_one (ps_ret pe_bl)) pss_nil)
      (pss_cons (ps_asg (pv 0) (pg_tupK (n := 5) K rfl rfl (pgs_cons (pg_name (i := 3) sc_is_block.nd rfl (by first | exact Or.inl rfl | exact Or.inr rfl)) (pgs_cons (pg_name (i := 4) sc_is_block.nd rfl (by first | exact Or.inl rfl | exact Or.inr rfl)) (pgs_cons (pg_name (i := 5) sc_is_block.nd rfl (by first | exact Or.inl rfl | exact Or.inr rfl)) (pgs_cons (pg_name (i := 6) sc_is_block.nd rfl (by first | exact Or.inl rfl | exact Or.inr rfl)) (pgs_cons (pg_name (i := 7) sc_is_block.nd rfl (by first | exact Or.inl rfl | exact Or.inr rfl)) pgs_nil)))))))
      (pss_one (ps_ret (pe_and (pe_call (ok_is_whole Y) (hr.mono (by decide)) (by rfl) Y.d_is_whole.g Y.d_is_whole.kp Y.d_is_whole.b .nil pass0 (pa_cons (pv 3) (pa_cons pe_int (pa_cons (pe_gint (by rfl) Y.c_MOST_HOUSE) pa_nil)))) (pe_and (pe_call (ok_is_whole Y) (hr.mono (by decide)) (by rfl) Y.d_is_whole.g Y.d_is_whole.kp Y.d_is_whole.b .nil pass0 (pa_cons (pv 4) (pa_cons pe_int (pa_cons (pe_op op_sub (pv 2) pe_int) pa_nil)))) (pe_and (pe_call (ok_is_whole Y) (hr.mono (by decide)) (by rfl) Y.d_is_whole.g Y.d_is_whole.kp Y.d_is_whole.b .nil pass0 (pa_cons (pv 5) (pa_cons pe_int (pa_cons (pe_op op_sub (pv 1) pe_int) pa_nil)))) (pe_and (pe_or (pe_cmpR op_isN (pv 6) pe_non (nomark _)) (pe_one (pe_call (ok_is_whole Y) (hr.mono (by decide)) (by rfl) Y.d_is_whole.g Y.d_is_whole.kp Y.d_is_whole.b .nil pass0 (pa_cons (pv 6) (pa_cons (pv 5) (pa_cons (pe_op op_sub (pv 1) pe_int) pa_nil)))))) (pe_one (pe_call (ok_is_whole Y) (hr.mono (by decide)) (by rfl) Y.d_is_whole.g Y.d_is_whole.kp Y.d_is_whole.b .nil pass0 (pa_cons (pv 7) (pa_cons pe_int (pa_cons (pe_gint (by rfl) Y.c_MOST_WORTH) pa_nil))))))))))))), ?_⟩
    refine ⟨v, rfl, v, d, 5, rfl, ht, _, rfl, ?_⟩
    refine ite2 (fun c => ?_) (fun c => ?_)
    · have e : blockB h cr d = false := by
        cases d with
        | tuple xs =>
          match xs with
          | [a, b, c', d', e'] => cases c
          | [] => rfl
          | [_] => rfl
          | [_, _] => rfl
          | [_, _, _] => rfl
          | [_, _, _, _] => rfl
          | _ :: _ :: _ :: _ :: _ :: _ :: _ => rfl
        | _ => rfl
      rw [e] at q
      exact q
    · have c : isTp 5 d = true := by
        cases z : isTp 5 d with
        | true => rfl
        | false => rw [z] at c; exact absurd rfl c
      obtain ⟨ds, rfl, hl⟩ := isTp_tuple c
      obtain ⟨ho, nu, re, du, wo, rfl⟩ := tuple5 hl
      cases ht with
      | tup m ha l =>
        rename_i a xs
        obtain ⟨v1, v2, v3, v4, v5, rfl, t1, t2, t3, t4, t5⟩ := TrAll.five l
        refine ⟨.ref a, rfl, a, _, rfl, SqT.of ha, rfl, v1, _, rfl, v2, _, rfl, v3, _, rfl, v4, _, rfl, v5, _, rfl, rfl, ?_⟩
        refine ⟨_, rfl, _, ho, 0, 5, rfl, t1, _, rfl, andV (R := fun b => Q (.bl b) H) q fun _ q => ?_⟩
        refine ⟨_, rfl, _, rfl, _, _, rfl, rfl, _, nu, 0, cr - 1, rfl, t2, _, rfl, andV (R := fun b => Q (.bl b) H) q fun _ q => ?_⟩
        refine ⟨_, rfl, _, rfl, _, _, rfl, rfl, _, re, 0, h - 1, rfl, t3, _, rfl, andV (R := fun b => Q (.bl b) H) q fun c3 q => ?_⟩
        obtain ⟨r, rfl, _, _⟩ := isWh_int c3
        cases t3
        refine ⟨_, rfl, rfl, _, rfl, ?_⟩
        rw [isNone_v t4]
        cases hn : isNone du with
        | true =>
          rw [hn] at q
          refine iteT ⟨_, rfl, andV (R := fun b => Q (.bl b) H) q fun _ q => ?_⟩
          exact ⟨v5, rfl, v5, wo, 1, 9999, rfl, t5, q⟩
        | false =>
          rw [hn] at q
          refine iteF ⟨v4, rfl, _, rfl, _, rfl, _, _, rfl, rfl, v4, du, r, h - 1, rfl, t4, _, rfl, andV (R := fun b => Q (.bl b) H) q fun _ q => ?_⟩
          exact ⟨v5, rfl, v5, wo, 1, 9999, rfl, t5, q⟩
      | _ => cases c
def sp_are_blocks (ta : String → Addr) : Sp := fun vs H Q _ => ∃ v d h cr, vs = [v, .int h, .int cr] ∧ Tr [] H v d ∧ Tb (Ts ta) H ∧ ∀ H', Kx [] H H' → Q (.bl (blocksB h cr d)) H'
theorem ok__are_blocks (Y : Facts K mg base fa fd ca ta) : FnOk P w K mg base CX0 5 (fa "_are_blocks") (fd "_are_blocks") ["thing", "hours", "craft"] (sp_are_blocks ta) := by
  refine Y.d__are_blocks.ok sc__are_blocks (fun vs H Q E h => ?_) (fun cdv A outer s H vs Q E hcd hr h => ?_)
  · obtain ⟨v, d, h, cr, rfl, _⟩ := h; rfl
  · obtain ⟨v, d, h, cr, rfl, ht, hT, q⟩ := h
    refine ⟨_, (pss_one (ps_ret (pe_and (pe_call (ok_is_list Y) (hr.mono (by decide)) (by rfl) Y.d_is_list.g Y.d_is_list.kp Y.d_is_list.b .nil pass0 (pa_cons (pv 0) (pa_cons pe_int (pa_cons (pe_gint (by rfl) Y.c_MOST_BLOCKS) pa_nil)))) (pe_one (pe_allG (own := [("block", 3)]) (g := gName 3) (tt := tYes) (hr.mono (by decide)) rfl sc__are_blocks.nd (by rfl) Y.b.all Y.t__are_blocks.tb (hcd.symm.trans Y.t__are_blocks.code) (gok_by (N := ["thing", "hours", "craft", "block"]) (sc := defScope s__are_blocks) (by decide +kernel)) (pi_listK K rfl (pv 0)) (fun _ _ _ _ _ _ _ => (pg_name (i := 3) sc__are_blocks.nd rfl (by first | exact Or.inl rfl | exact Or.inr rfl))) (fun _ _ _ _ _ _ _ => pts_nil) (fun _ _ _ _ _ _ _ => (pe_call (ok_is_block Y) ((room_gen (k := 3) (hr.mono (by decide)) _).mono (by decide)) (by rfl) Y.d_is_block.g Y.d_is_block.kp Y.d_is_block.b .nil pass0 (pa_cons (pv 3) (pa_cons (pv 1) (pa_cons (pv 2) pa_nil)))))))))), ?_⟩
    refine ⟨v, rfl, v, d, 0, 14, rfl, ht, _, rfl, ?_⟩
    refine ite2 (fun c => ?_) (fun c => ?_)
    · obtain ⟨ds, rfl, _, _⟩ := isLs_list c
      cases ht with
      | lst n ha l =>
        refine all_treeV (blockB h cr) rfl ha l (tab__are_blocks hT) (fun x d H' hd t k R hR => ?_) fun H' k => ?_
        · exact ⟨rfl, x, rfl, _, rfl, _, rfl, x, d, h, cr, rfl, t, _, rfl, hR H' (Kx.refl _)⟩
        · have := q H' k
          simp only [blocksB, c, Bool.true_and] at this
          exact this
    · rw [Bool.not_eq_true] at c
      have := q H (Kx.refl _)
      rw [show blocksB h cr d = false from lsall_false c] at this
      exact this
/-! ### a day -/
theorem storesB_list {d : PyData} (h : storesB d = true) : ∃ xs, d = .list xs := by
  have h1 : isLs 1 4 d = true := (Bool.and_eq_true_iff.mp h).1
  obtain ⟨xs, e, _⟩ := isLs_list h1
  exact ⟨xs, e⟩
theorem sightsB_list {a b : Int} {d : PyData} (h : sightsB a b d = true) : ∃ xs, d = .list xs := by
  have h1 : isLs 1 3 d = true := (Bool.and_eq_true_iff.mp h).1
  obtain ⟨xs, e, _⟩ := isLs_list h1
  exact ⟨xs, e⟩
def sp_is_day (ta : String → Addr) : Sp := fun vs H Q _ => ∃ v d, vs = [v] ∧ Tr [] H v d ∧ sz d ≤ 100000 ∧ Tb (Ts ta) H ∧ ∀ H', Kx [] H H' → Q (.bl (isDayB d)) H'
theorem ok_is_day (Y : Facts K mg base fa fd ca ta) : FnOk P w K mg base CX0 9 (fa "is_day") (fd "is_day") ["thing"] (sp_is_day ta) := by
  refine Y.d_is_day.ok sc_is_day (fun vs H Q E h => ?_) (fun cdv A outer s H vs Q E hcd hr h => ?_)
  · obtain ⟨v, d, rfl, _⟩ := h; rfl
  · obtain ⟨v, d, rfl, ht, hz, hT, q⟩ := h
    refine ⟨_, (pss_cons (ps_if (pt_not (pt_val (pe_call (ok_is_tuple Y) (hr.mono (by decide)) (by rfl) Y.d_is_tuple.g Y.d_is_tuple.kp Y.d_is_tuple.b .nil pass0 (pa_cons (pv 0) (pa_cons pe_int pa_nil))))) (pss_one (ps_ret pe_bl)) pss_nil)
      (pss_cons (ps_asg (pv 0) (pg_tupK (n := 5) K rfl rfl (pgs_cons (pg_name (i := 1) sc_is_day.nd rfl (by first | exact Or.inl rfl | exact Or.inr rfl)) (pgs_cons (pg_name (i := 2) sc_is_day.nd rfl (by first | exact Or.inl rfl | exact Or.inr rfl)) (pgs_cons (pg_name (i := 3) sc_is_day.nd rfl (by first | exact Or.inl rfl | exact Or.inr rfl)) (pgs_cons (pg_name (i := 4) sc_is_day.nd rfl (by first | exact Or.inl rfl | exact Or.inr rfl)) (pgs_cons (pg_name (i := 5) sc_is_day.nd rfl (by first | exact Or.inl rfl | exact Or.inr rfl)) pgs_nil)))))))
      (pss_one (ps_ret (pe_and (pe_call (ok_is_whole Y) (hr.mono (by decide)) (by rfl) Y.d_is_whole.g Y.d_is_whole.kp Y.d_is_whole.b .nil pass0 (pa_cons (pv 1) (pa_cons pe_int (pa_cons (pe_gint (by rfl) Y.c_MOST_HOURS) pa_nil)))) (pe_and (pe_call (ok__are_stores Y) (hr.mono (by decide)) (by rfl) Y.d__are_stores.g Y.d__are_stores.kp Y.d__are_stores.b .nil pass0 (pa_cons (pv 2) pa_nil)) (pe_and (pe_call (ok__are_sights Y) (hr.mono (by decide)) (by rfl) Y.d__are_sights.g Y.d__are_sights.kp Y.d__are_sights.b .nil pass0 (pa_cons (pv 3) (pa_cons (pv 1) (pa_cons (pe_callB (call_lenK K rfl) (by rfl) Y.b.len (by decide +kernel) (pa_cons (pv 2) pa_nil)) pa_nil)))) (pe_and (pe_call (ok__are_asks Y) (hr.mono (by decide)) (by rfl) Y.d__are_asks.g Y.d__are_asks.kp Y.d__are_asks.b .nil pass0 (pa_cons (pv 4) (pa_cons (pe_callB (call_lenK K rfl) (by rfl) Y.b.len (by decide +kernel) (pa_cons (pv 3) pa_nil)) pa_nil))) (pe_one (pe_call (ok__are_blocks Y) (hr.mono (by decide)) (by rfl) Y.d__are_blocks.g Y.d__are_blocks.kp Y.d__are_blocks.b .nil pass0 (pa_cons (pv 5) (pa_cons (pv 1) (pa_cons (pe_callB (call_lenK K rfl) (by rfl) Y.b.len (by decide +kernel) (pa_cons (pv 2) pa_nil)) pa_nil))))))))))))), ?_⟩
    refine ⟨v, rfl, v, d, 5, rfl, ht, _, rfl, ?_⟩
    refine ite2 (fun c => ?_) (fun c => ?_)
    · have e : isDayB d = false := by
        cases d with
        | tuple xs =>
          match xs with
          | [a, b, c', d', e'] => cases c
          | [] => rfl
          | [_] => rfl
          | [_, _] => rfl
          | [_, _, _] => rfl
          | [_, _, _, _] => rfl
          | _ :: _ :: _ :: _ :: _ :: _ :: _ => rfl
        | _ => rfl
      have := q H (Kx.refl _)
      rw [e] at this
      exact this
    · have c : isTp 5 d = true := by
        cases z : isTp 5 d with
        | true => rfl
        | false => rw [z] at c; exact absurd rfl c
      obtain ⟨ds, rfl, hl⟩ := isTp_tuple c
      obtain ⟨ho, st, si, as, bl, rfl⟩ := tuple5 hl
      cases ht with
      | tup m ha l =>
        rename_i a xs
        obtain ⟨v1, v2, v3, v4, v5, rfl, t1, t2, t3, t4, t5⟩ := TrAll.five l
        refine ⟨.ref a, rfl, a, _, rfl, SqT.of ha, rfl, v1, _, rfl, v2, _, rfl, v3, _, rfl, v4, _, rfl, v5, _, rfl, rfl, ?_⟩
        refine ⟨_, rfl, _, ho, 1, 10, rfl, t1, _, rfl, andV (R := fun b => Q (.bl b) H) (q H (Kx.refl _)) fun c1 q1 => ?_⟩
        obtain ⟨hn, rfl, _, _⟩ := isWh_int c1
        cases t1
        have q2 : ∀ H', Kx [] H H' → Q (.bl (storesB st && (sightsB hn (lenD st) si && (asksB (lenD si) as && blocksB hn (lenD st) bl)))) H' := fun H' k => by
          have := q H' k
          simp only [isDayB, c1, Bool.true_and] at this
          exact this
        refine ⟨_, rfl, v2, st, rfl, t2, hT, fun H1 k1 => ⟨_, rfl, andV (R := fun b => Q (.bl b) H1) (q2 H1 k1) fun c2 q3 => ?_⟩⟩
        obtain ⟨sts, rfl⟩ := storesB_list c2
        cases t2 with
        | lst n2 h2 l2 =>
          rename_i a2 xs2
          have e2 := l2.length
          refine ⟨_, rfl, _, rfl, .ref a2, rfl, a2, xs2, rfl, .inl (SqL.of (k1.lst (by simp) h2)), v3, si, hn, (xs2.length : Int), rfl, t3.up k1, sz_inT (by simp) hz, hT.kx k1, fun H2 k2 => ⟨_, rfl, andV (b := asksB (lenD si) as && blocksB hn (lenD (.list sts)) bl) (R := fun b => Q (.bl b) H2) (q := ?_) fun c3 q4 => ?_⟩⟩
          · have := q2 H2 (k1.trans k2)
            rw [c2, Bool.true_and] at this
            rw [e2]
            exact this
          · obtain ⟨sis, rfl⟩ := sightsB_list c3
            cases t3 with
            | lst n3 h3 l3 =>
              rename_i a3 xs3
              have e3 := l3.length
              have k12 := k1.trans k2
              refine ⟨_, rfl, .ref a3, rfl, a3, xs3, rfl, .inl (SqL.of (k12.lst (by simp) h3)), v4, as, (xs3.length : Int), rfl, t4.up k12, hT.kx k12, fun H3 k3 => ⟨_, rfl, andV (b := blocksB hn (lenD (.list sts)) bl) (R := fun b => Q (.bl b) H3) (q := ?_) fun c4 q5 => ?_⟩⟩
              · have := q2 H3 (k12.trans k3)
                rw [c2, Bool.true_and] at this
                rw [e2] at c3
                rw [show sightsB hn (lenD (.list sts)) (.list sis) = true from c3, Bool.true_and] at this
                rw [e3]
                exact this
              · have k123 := k12.trans k3
                refine ⟨_, rfl, _, rfl, .ref a2, rfl, a2, xs2, rfl, .inl (SqL.of (k123.lst (by simp) h2)), v5, bl, hn, (xs2.length : Int), rfl, t5.up k123, hT.kx k123, fun H4 k4 => ?_⟩
                have := q2 H4 (k123.trans k4)
                rw [c2, Bool.true_and] at this
                rw [e2] at c3 ⊢
                rw [e3] at c4
                rw [show sightsB hn (lenD (.list sts)) (.list sis) = true from c3, Bool.true_and, show asksB (lenD (.list sis)) as = true from c4, Bool.true_and] at this
                exact this
      | _ => cases c
end
end Law

set_option Elab.async false
set_option linter.all false
set_option maxRecDepth 100000
set_option maxHeartbeats 4000000
namespace Law
open PySem PySem.Spec PyProof.Rows L2 GxR GX Tree Kit Data Loops Comps Purse Sets
section
variable {P : Program} {w : World} {K : PySem.W.Frag} {mg : Str → Option Value} {base : Heap} {fa : String → Addr} {fd : String → FuncData} {ca ta : String → Addr}
/-! ### the purse -/
def sp_purse (K : PySem.W.Frag) : Sp := fun vs H Q _ => ∃ (a : Addr) (ns : List Int) (k : Nat), vs = [.ref a, .int k] ∧ SqL K H a (ns.map V.int) ∧ k < 4 ∧ ns.length ≤ 63 ∧ ∀ p H', Kx [] H H' → H p = none → PurseAt H' p 0 → Q (.ref p) H'
theorem purse_ok (cell : Int) (k : Nat) (hk : k < 4) : 0 ≤ (if cell - 10 ^ 18 > 0 then cell - 10 ^ 18 else 0) ∧ 0 ≤ cell % (10 ^ 41 + 9) * 128 + 5 * (k : Int) + 2 ∧ cell % (10 ^ 41 + 9) * 128 + 5 * (k : Int) + 2 < 2 ^ 150 := by
  refine ⟨?_, ?_, ?_⟩
  · split <;> omega
  · have := Int.emod_nonneg cell (show (10 ^ 41 + 9 : Int) ≠ 0 by decide)
    omega
  · have := Int.emod_lt_of_pos cell (show (0 : Int) < 10 ^ 41 + 9 by decide)
    omega
theorem ok__law_purse (Y : Facts K mg base fa fd ca ta) : FnOk P w K mg base CX0 1 (fa "_law_purse") (fd "_law_purse") ["script", "k"] (sp_purse K) := by
  refine Y.d__law_purse.ok sc__law_purse (fun vs H Q E h => ?_) (fun cdv A outer s H vs Q E hcd hr h => ?_)
  · obtain ⟨a, ns, k, rfl, _⟩ := h; rfl
  · obtain ⟨a, ns, k, rfl, ha, hk, hl, q⟩ := h
    refine ⟨_, (pss_cons (ps_set (i := 2) sc__law_purse.nd rfl (by first | exact Or.inl rfl | exact Or.inr rfl) pe_int)
      (pss_cons (ps_if (pt_cmpR op_lt (pv 1) (pe_callB (call_lenK K rfl) (by rfl) Y.b.len (by decide +kernel) (pa_cons (pv 0) pa_nil)) (nomark _)) (pss_one (ps_set (i := 2) sc__law_purse.nd rfl (by first | exact Or.inl rfl | exact Or.inr rfl) (pe_ix (ix_listK K rfl) (pv 0) (pv 1) (fun _ _ => rfl)))) pss_nil)
      (pss_one (ps_ret (pe_lst (pa_cons (pe_callB (call_max2 rfl) (by rfl) Y.b.max (by decide +kernel) (pa_cons pe_int (pa_cons (pe_op op_sub (pv 2) (pe_op op_powW pe_int pe_int)) pa_nil))) (pa_cons (pe_op op_add (pe_op op_add (pe_op op_mulW (pe_op op_mod (pv 2) (pe_op op_add (pe_op op_powW pe_int pe_int) pe_int)) pe_int) (pe_op op_mulW pe_int (pv 1))) pe_int) (pa_cons pe_int pa_nil)))))))), ?_⟩
    have hN : CPowW 10 18 := powW_ok (b := 4) (by decide) (by decide) (by decide) (by decide)
    have hM : CPowW 10 41 := powW_ok (b := 4) (by decide) (by decide) (by decide) (by decide)
    refine ⟨_, rfl, _, rfl, a, _, rfl, .inl ha, _, _, rfl, rfl, _, rfl, ?_⟩
    refine ite2 (fun c => ?_) (fun c => ?_)
    · have c := of_decide_eq_true c
      rw [List.length_map] at c
      have hk2 : k < ns.length := by omega
      refine ⟨_, rfl, _, rfl, a, _, _, .int ns[k], rfl, rfl, ha, atI_nat (by rw [List.getElem?_map, List.getElem?_eq_getElem hk2]; rfl), ?_⟩
      generalize ns[k] = cell
      obtain ⟨g1, g2, g3⟩ := purse_ok cell k hk
      refine ⟨_, rfl, _, _, rfl, rfl, hN, _, _, rfl, rfl, _, _, rfl, ?_⟩
      have hm := Int.emod_nonneg cell (show (10 ^ 41 + 9 : Int) ≠ 0 by decide)
      have hm2 := Int.emod_lt_of_pos cell (show (0 : Int) < 10 ^ 41 + 9 by decide)
      refine ⟨_, rfl, _, _, rfl, rfl, hM, _, _, rfl, rfl, _, _, rfl, rfl, ?_, _, _, rfl, rfl, ?_, _, rfl, _, _, rfl, rfl, ?_, _, _, rfl, rfl, _, _, rfl, rfl, ?_⟩
      · exact (by decide : (0 : Int) < 10 ^ (41 : Int).toNat + 9)
      · exact wide_mul (a := 150) (b := 8) (wide_of hm (by exact (show cell % (10 ^ 41 + 9) < 2 ^ 150 by omega))) (by decide) (by decide) (by decide) (by decide)
      · exact wide_mul (a := 8) (b := 8) (by decide) (by omega) (by decide) (by decide) (by decide)
      · refine ⟨len_ok, fun p hp => ?_⟩
        exact q p _ (Kx.new hp) hp ⟨_, _, 0, upd_same, g1, g2, g3, Int.le_refl _, Int.le_refl _⟩
    · obtain ⟨g1, g2, g3⟩ := purse_ok (0 : Int) k hk
      refine ⟨_, rfl, _, _, rfl, rfl, hN, _, _, rfl, rfl, _, _, rfl, ?_⟩
      have hm := Int.emod_nonneg (0 : Int) (show (10 ^ 41 + 9 : Int) ≠ 0 by decide)
      have hm2 := Int.emod_lt_of_pos (0 : Int) (show (0 : Int) < 10 ^ 41 + 9 by decide)
      refine ⟨_, rfl, _, _, rfl, rfl, hM, _, _, rfl, rfl, _, _, rfl, rfl, ?_, _, _, rfl, rfl, ?_, _, rfl, _, _, rfl, rfl, ?_, _, _, rfl, rfl, _, _, rfl, rfl, ?_⟩
      · exact (by decide : (0 : Int) < 10 ^ (41 : Int).toNat + 9)
      · exact wide_mul (a := 150) (b := 8) (wide_of hm (by exact (show (0 : Int) % (10 ^ 41 + 9) < 2 ^ 150 by omega))) (by decide) (by decide) (by decide) (by decide)
      · exact wide_mul (a := 8) (b := 8) (by decide) (by omega) (by decide) (by decide) (by decide)
      · refine ⟨len_ok, fun p hp => ?_⟩
        exact q p _ (Kx.new hp) hp ⟨_, _, 0, upd_same, g1, g2, g3, Int.le_refl _, Int.le_refl _⟩
theorem coin_mod {i j many : Int} : 0 < many → 0 ≤ i % many ∧ i % many < many := fun h => ⟨Int.emod_nonneg _ (by omega), Int.emod_lt_of_pos _ h⟩
theorem ok__law_coin (Y : Facts K mg base fa fd ca ta) : FnOk P w K mg base CX0 1 (fa "_law_coin") (fd "_law_coin") ["purse", "many"] (sp_coin (Ts ta)) := by
  refine Y.d__law_coin.ok sc__law_coin (fun vs H Q E h => ?_) (fun cdv A outer s H vs Q E hcd hr h => ?_)
  · obtain ⟨p, n, many, C, rfl, _⟩ := h; rfl
  · obtain ⟨p, n, many, C, rfl, h0, h1, hn, hA, q⟩ := h
    obtain ⟨a, b, c, hp, ha, hb, hb2, hc, hc2⟩ := hA.pu
    refine ⟨_, (pss_cons (ps_if (pt_cmpR op_gt (pe_ix (ix_listK K rfl) (pv 0) pe_int (fun _ _ => rfl)) pe_int (nomark _)) (pss_cons (ps_set (i := 2) sc__law_coin.nd rfl (by first | exact Or.inl rfl | exact Or.inr rfl) (pe_op op_mod (pe_ix (ix_listK K rfl) (pv 0) pe_int (fun _ _ => rfl)) (pv 1)))
      (pss_cons (ps_asg (pe_op op_fdivW (pe_ix (ix_listK K rfl) (pv 0) pe_int (fun _ _ => rfl)) (pv 1)) (pg_sub (pv 0) pe_int set_list))
      (pss_one (ps_ret (pv 2))))) pss_nil)
      (pss_cons (ps_asg (pe_op op_add (pe_ix (ix_listK K rfl) (pv 0) pe_int (fun _ _ => rfl)) pe_int) (pg_sub (pv 0) pe_int set_list))
      (pss_cons (ps_set (i := 3) sc__law_coin.nd rfl (by first | exact Or.inl rfl | exact Or.inr rfl) (pe_op op_mod (pe_op op_powW (pe_op op_add (pe_ix (ix_listK K rfl) (pv 0) pe_int (fun _ _ => rfl)) (pe_op op_mulW pe_int (pe_ix (ix_listK K rfl) (pv 0) pe_int (fun _ _ => rfl)))) pe_int) (pe_op op_add (pe_op op_powW pe_int pe_int) pe_int)))
      (pss_cons (ps_set (i := 3) sc__law_coin.nd rfl (by first | exact Or.inl rfl | exact Or.inr rfl) (pe_op op_mod (pe_op op_powW (pe_op op_add (pv 3) (pe_op op_mulW pe_int (pe_ix (ix_listK K rfl) (pv 0) pe_int (fun _ _ => rfl)))) pe_int) (pe_op op_add (pe_op op_powW pe_int pe_int) pe_int)))
      (pss_one (ps_ret (pe_op op_mod (pe_op op_fdivW (pv 3) pe_int) (pv 1)))))))), ?_⟩
    have put : ∀ x y z, 0 ≤ x → 0 ≤ y → y < 2 ^ 150 → 0 ≤ z → z ≤ ((n + 1 : Nat) : Int) → Kx [p] H (upd H p (.lst [.int x, .int y, .int z])) ∧ At (Ts ta) C p (n + 1) (upd H p (.lst [.int x, .int y, .int z])) := fun x y z hx hy hy2 hz hz2 =>
      ⟨Kx.put (by simp), hA.put (Kx.put (by simp)) ⟨x, y, z, upd_same, hx, hy, hy2, hz, hz2⟩ hA.tne⟩
    have hmod : ∀ i : Int, 0 ≤ i % many ∧ i % many < many := fun i => ⟨Int.emod_nonneg _ (by omega), Int.emod_lt_of_pos _ h0⟩
    refine ⟨_, rfl, p, _, 0, _, rfl, rfl, SqL.of hp, rfl, _, _, rfl, rfl, _, rfl, ?_⟩
    refine ite2 (fun c1 => ?_) (fun c1 => ?_)
    · obtain ⟨k1, A1⟩ := put (a / many) b c (Int.ediv_nonneg ha (by omega)) hb hb2 hc (by omega)
      exact ⟨.ref p, rfl, p, _, 0, _, rfl, rfl, SqL.of hp, rfl, _, rfl, _, _, rfl, rfl, h0, .ref p, rfl, p, _, 0, _, rfl, rfl, SqL.of hp, rfl, _, rfl, _, _, rfl, rfl, wide_div (b := 30) h0 (by omega) (by decide) (by decide), .ref p, rfl, p, _, 0, 0, rfl, rfl, hp, rfl, _, rfl, q _ _ (hmod a).1 (hmod a).2 k1 A1⟩
    · obtain ⟨k1, A1⟩ := put a b (c + 1) ha hb hb2 (by omega) (by omega)
      refine ⟨.ref p, rfl, p, _, 2, _, rfl, rfl, SqL.of hp, rfl, _, _, rfl, rfl, .ref p, rfl, p, _, 2, 2, rfl, rfl, hp, rfl, ?_⟩
      have hp1 : (upd H p (.lst [.int a, .int b, .int (c + 1)])) p = some (.lst [.int a, .int b, .int (c + 1)]) := upd_same
      refine ⟨.ref p, rfl, p, _, 1, _, rfl, rfl, SqL.of hp1, rfl, .ref p, rfl, p, _, 2, _, rfl, rfl, SqL.of hp1, rfl, _, _, rfl, rfl, ?_, _, _, rfl, rfl, _, _, rfl, rfl, ?_, _, _, rfl, rfl, powW_ok (b := 4) (by decide) (by decide) (by decide) (by decide), _, _, rfl, rfl, _, _, rfl, rfl, ?_, ?_⟩
      · exact wide_mul (a := 17) (b := 60) (by decide) (by omega) (by decide) (by decide) (by decide)
      · exact powW_ok (b := 152) (by decide) (by omega) (by decide) (by decide)
      · exact (by decide : (0 : Int) < 10 ^ (35 : Int).toNat + 69)
      · have m0 := Int.emod_nonneg ((b + 104729 * (c + 1)) ^ (3 : Int).toNat) (show (10 ^ (35 : Int).toNat + 69 : Int) ≠ 0 by decide)
        have m1 := Int.lt_of_lt_of_le (Int.emod_lt_of_pos ((b + 104729 * (c + 1)) ^ (3 : Int).toNat) (show (0 : Int) < 10 ^ (35 : Int).toNat + 69 by decide)) (show (10 ^ (35 : Int).toNat + 69 : Int) ≤ 2 ^ 120 by decide)
        refine ⟨_, rfl, .ref p, rfl, p, _, 2, _, rfl, rfl, SqL.of hp1, rfl, _, _, rfl, rfl, ?_, _, _, rfl, rfl, _, _, rfl, rfl, ?_, _, _, rfl, rfl, powW_ok (b := 4) (by decide) (by decide) (by decide) (by decide), _, _, rfl, rfl, _, _, rfl, rfl, ?_, ?_⟩
        · exact wide_mul (a := 17) (b := 60) (by decide) (by omega) (by decide) (by decide) (by decide)
        · exact powW_ok (b := 130) (by decide) (by omega) (by decide) (by decide)
        · exact (by decide : (0 : Int) < 10 ^ (33 : Int).toNat + 61)
        · exact ⟨_, rfl, _, _, rfl, rfl, wide_div (b := 30) (by decide) (by decide) (by decide) (by decide), _, rfl, _, _, rfl, rfl, h0, q _ _ (hmod _).1 (hmod _).2 k1 A1⟩
end
end Law

set_option Elab.async false
set_option linter.all false
set_option maxRecDepth 100000
set_option maxHeartbeats 4000000
namespace Law
open PySem PySem.Spec PyProof.Rows L2 GxR GX Tree Kit Data Loops Comps Purse Sets Small
section
variable {P : Program} {w : World} {K : PySem.W.Frag} {mg : Str → Option Value} {base : Heap} {fa : String → Addr} {fd : String → FuncData} {ca ta : String → Addr}
/-! ### drawn days -/
/-- a def that draws: it takes the purse and other arguments; it hands on a tree that is G, k coins at most -/
def Draws (Ts : List Addr) (C : List Addr) (p : Addr) (n k : Nat) (G : PyData → Prop) (H : Hp) (Q : VK) : Prop := ∀ v d H', Kx [p] H H' → At Ts C p (n + k) H' → Tr C H' v d → G d → Q v H'
theorem intsD_map : ∀ ns : List Int, intsD (ns.map PyData.int) = ns
  | [] => rfl
  | n :: ns => congrArg (n :: ·) (intsD_map ns)
theorem heard_ok {c : Int} {ns : List Int} (h1 : ns.Pairwise (· < ·)) (h2 : ∀ n ∈ ns, 0 ≤ n ∧ n < c) : heardB c (.list (ns.map .int)) = true := by
  show ((ns.map PyData.int).all (isWh 0 (c - 1)) && risesB (intsD (ns.map .int))) = true
  rw [intsD_map, Bool.and_eq_true]
  refine ⟨List.all_eq_true.mpr fun d hd => ?_, decide_eq_true h1⟩
  obtain ⟨n, hn, rfl⟩ := List.mem_map.mp hd
  have := h2 n hn
  show (decide (0 ≤ n) && decide (n ≤ c - 1)) = true
  simp only [Bool.and_eq_true, decide_eq_true_eq]
  omega
theorem nodup_le {js : List Nat} {n : Nat} (h1 : ∀ j ∈ js, j < n) (h2 : js.Nodup) : js.length ≤ n := by
  have := List.Nodup.length_le_of_subset (l₁ := js) (l₂ := List.range n) h2 (fun j hj => List.mem_range.mpr (h1 j hj))
  simpa using this
theorem ints_js (js : List Nat) : (js.map fun j : Nat => PyData.int (j : Int)) = (js.map fun j : Nat => (j : Int)).map PyData.int := by
  rw [List.map_map]; rfl
theorem rising_js {js : List Nat} (h : js.Pairwise (· < ·)) : (js.map fun j : Nat => (j : Int)).Pairwise (· < ·) := List.pairwise_map.mpr (h.imp fun h => by omega)
def sp_law_sight (Ts : List Addr) : Sp := fun vs H Q _ => ∃ (p : Addr) (n : Nat) (C : List Addr) (h c : Int), vs = [.ref p, .int h, .int c] ∧ 1 ≤ h ∧ h ≤ 10 ∧ 1 ≤ c ∧ c ≤ 4 ∧ n ≤ 900000000000 ∧ At Ts C p n H ∧ Draws Ts C p n 1000 (fun d => Sm 20 1000000 51 2 d ∧ sightB h c d = true) H Q
theorem ok__law_sight (Y : Facts K mg base fa fd ca ta) : FnOk P w K mg base CX0 2 (fa "_law_sight") (fd "_law_sight") ["purse", "hours", "craft"] (sp_law_sight (Ts ta)) := by
  refine Y.d__law_sight.ok sc__law_sight (fun vs H Q E h => ?_) (fun cdv A outer s H vs Q E hcd hr h => ?_)
  · obtain ⟨p, n, C, h, c, rfl, _⟩ := h; rfl
  · obtain ⟨p, n, C, h, c, rfl, h1, h2, c1, c2, hn, hA, q⟩ := h
    refine ⟨_, (pss_cons (ps_set (i := 3) sc__law_sight.nd rfl (by first | exact Or.inl rfl | exact Or.inr rfl) (pe_lst pa_nil))
      (pss_cons (ps_for PassesOwn.never rfl (pi_range1 (by rfl) Y.b.range (pa_cons (pv 1) pa_nil)) (pg_name (i := 4) sc__law_sight.nd rfl (by first | exact Or.inl rfl | exact Or.inr rfl)) (pss_cons (ps_setLc (i := 5) (own := [("one", 6)]) (g := gName 6) rfl sc__law_sight.nd rfl rfl (sw_true rfl rfl rfl (by decide +kernel)) (pi_range1 (by rfl) Y.b.range (pa_cons (pv 2) pa_nil)) (blkOk_by (N := ["purse", "hours", "craft", "found", "hour", "some", "one"]) (sc := defScope s__law_sight) (by decide +kernel)) (fun _ _ _ _ _ => (pg_name (i := 6) sc__law_sight.nd rfl (by first | exact Or.inl rfl | exact Or.inr rfl))) (fun _ _ _ _ _ => (pts_one (pt_cmpR op_gt (pe_call (ok__law_coin Y) (hr.mono (by decide)) (by rfl) Y.d__law_coin.g Y.d__law_coin.kp Y.d__law_coin.b .nil pass0 (pa_cons (pv 0) (pa_cons pe_int pa_nil))) pe_int (nomark _)))) (fun _ _ _ _ _ => (pv 6)))
      (pss_one (ps_expr (pe_bm PySem.F.plainAttrs_list PySem.F.slot_list_append PySem.F.type_list_append mt_append (pv 3) (pa_cons (pe_ix (ix_listK K rfl) (pe_lst (pa_cons (pv 5) (pa_cons (pv 5) (pa_cons (pe_listRg rfl (by rfl) Y.b.list (prg_1 (by rfl) Y.b.range (pv 2))) (pa_cons (pe_lst (pa_cons (pe_call (ok__law_coin Y) (hr.mono (by decide)) (by rfl) Y.d__law_coin.g Y.d__law_coin.kp Y.d__law_coin.b .nil pass0 (pa_cons (pv 0) (pa_cons (pv 2) pa_nil))) pa_nil)) (pa_cons (pe_lst pa_nil) pa_nil)))))) (pe_call (ok__law_coin Y) (hr.mono (by decide)) (by rfl) Y.d__law_coin.g Y.d__law_coin.kp Y.d__law_coin.b .nil pass0 (pa_cons (pv 0) (pa_cons pe_int pa_nil))) (fun _ _ => rfl)) pa_nil))))))
      (pss_one (ps_ret (pv 3))))), ?_⟩
    refine st_set ⟨len_ok, fun F hF => ?_⟩
    have kF : Kx [] H (upd H F (.lst [])) := Kx.new hF
    have nF : F ∉ C := hA.not hF
    have A0 : At (Ts ta) (F :: C) p n (upd H F (.lst [])) := (hA.kx kF).cons (by rw [upd_same]; simp)
    refine ⟨_, rfl, h, rfl, by omega, by omega, ?_⟩
    refine for_gen (itr_at h.toNat) (B := [p, F]) (Iv := fun i σ' H' => (∃ y4 y5, σ' = [some (.ref p), some (.int h), some (.int c), some (.ref F), y4, y5, none]) ∧ At (Ts ta) (F :: C) p (n + i * 10) H' ∧ ∃ xs ds, H' F = some (.lst xs) ∧ TrAll (F :: C) H' xs ds ∧ ds.length = i ∧ ∀ d ∈ ds, Sm 20 1000000 5 1 d ∧ heardB c d = true)
      ⟨⟨none, none, rfl⟩, A0, [], [], upd_same, .nil, rfl, fun d h => (nomatch h)⟩ (fun i σ' H1 hi k ⟨⟨y4, y5, e⟩, A1, xs, ds, hx, tx, lx, gx⟩ Nn hN => ?_) fun σ' H1 k ⟨⟨y4, y5, e⟩, A1, xs, ds, hx, tx, lx, gx⟩ => ?_
    · subst e
      have hi' : i < 10 := by omega
      refine st_name (st_set (lc_use ⟨_, rfl, c, rfl, by omega, by omega, ?_⟩))
      refine lc_puX (C := F :: C) (itr_at c.toNat) (by omega) 1 (fun j d => d = .int (j : Int)) A1 (fun D j H2 hD hj k2 A2 R R0 hR hR0 => ?_) fun D js es H2 k2 A2 tD hm hjs => ?_
      · refine ⟨rfl, .ref p, rfl, p, _, 3, _, rfl, by decide, by decide, by omega, A2, fun r H3 r0 r1 k3 A3 => ⟨_, _, rfl, rfl, _, rfl, ite2 (fun _ => ?_) fun _ => hR0 H3 k3 (A3.mono (by omega))⟩⟩
        exact ⟨_, rfl, hR _ _ H3 k3 (A3.mono (by omega)) (.int _) rfl⟩
      · have f2 : H2 F = some (.lst xs) := k2.lst (fun e => nF (by rw [List.mem_singleton.mp e]; exact hA.mem)) hx
        have c5 : c.toNat ≤ 4 := by omega
        refine ⟨.ref F, rfl, .inl ⟨rfl, xs, SqL.of f2⟩, .ref D, rfl, .ref D, rfl, .int c, rfl, c, rfl, RgOk.of_le (by decide) (by omega) (by decide) (by omega), fun R1 hR1 => ?_⟩
        have tR : TrAll (F :: C) H2 (rgV 0 c) (((List.range (c - 0).toNat).map fun i => ((0 : Int) + (i : Nat))).map PyData.int) := by
          have := TrAll.ints (B := F :: C) (H := H2) ((List.range (c - 0).toNat).map fun i => ((0 : Int) + (i : Nat)))
          rwa [List.map_map] at this
        obtain ⟨k3, e3, t3⟩ := mk_lst A2.al tR hR1
        have A3 := A2.kx k3
        generalize upd H2 R1 (.lst (rgV 0 c)) = H3 at k3 e3 t3 A3 ⊢
        refine ⟨.ref p, rfl, .int c, rfl, p, _, c, _, rfl, by omega, by omega, by omega, A3, fun r H4 r0 r1 k4 A4 => ⟨len_ok, fun L hL => ?_⟩⟩
        obtain ⟨k5, e5, t5⟩ := mk_lst A4.al (.cons (.int r) .nil) hL
        have A5 := A4.kx k5
        generalize upd H4 L (.lst [V.int r]) = H5 at k5 e5 t5 A5 ⊢
        refine ⟨len_ok, fun M hM => ?_⟩
        obtain ⟨k6, e6, t6⟩ := mk_lst A5.al .nil hM
        have A6 := A5.kx k6
        generalize upd H5 M (.lst []) = H6 at k6 e6 t6 A6 ⊢
        have tD6 : Tr (F :: C) H6 (.ref D) (.list es) := ((A3.tr (tD.up k3) k4).up k5).up k6
        have tR6 := ((A3.tr t3 k4).up k5).up k6
        refine ⟨len_ok, fun O hO => ?_⟩
        obtain ⟨k7, e7, t7⟩ := mk_lst A6.al (.cons tD6 (.cons tD6 (.cons tR6 (.cons (t5.up k6) (.cons t6 .nil))))) hO
        have A7 := A6.kx k7
        generalize upd H6 O (.lst [V.ref D, V.ref D, V.ref R1, V.ref L, V.ref M]) = H7 at k7 e7 t7 A7 ⊢
        refine ⟨.ref p, rfl, p, _, 5, _, rfl, by decide, by decide, by omega, A7, fun r2 H8 s0 s1 k8 A8 => ?_⟩
        have kk : Kx [p] H1 H8 := k2.trans (k3.of.trans (k4.trans ((k5.trans (k6.trans k7)).of.trans k8)))
        obtain ⟨ys, ey, ty⟩ := (A7.tr t7 k8).items
        obtain ⟨v, d, a1, a2, a3⟩ := pick ty s0 (by have := ty.length; simp at this; omega)
        have nFp : F ≠ p := fun e => nF (e ▸ hA.mem)
        have f8 : H8 F = some (.lst xs) := kk.lst (by simpa using nFp) hx
        have les := hm.length
        have ees := hm.eq
        have ljs : js.length ≤ c.toNat := by
          have h1 := hm.rising
          have h2 : js.Nodup := h1.imp fun h => Nat.ne_of_lt h
          exact nodup_le hjs h2
        have gd : Sm 20 1000000 5 1 d ∧ heardB c d = true := by
          have g1 : Sm 20 1000000 5 1 (.list es) ∧ heardB c (.list es) = true := by
            refine ⟨Sm.list (N := 4) (S := 1) (D := 0) (fun d hd => ?_) (by omega) (by decide), ?_⟩
            · rw [ees] at hd
              obtain ⟨j, hj, rfl⟩ := List.mem_map.mp hd
              have := hjs j hj
              exact Sm.int (by omega)
            · rw [ees, ints_js]
              refine heard_ok (rising_js hm.rising) fun n hn => ?_
              obtain ⟨j, hj, rfl⟩ := List.mem_map.mp hn
              have := hjs j hj
              omega
          simp only [List.mem_cons, List.mem_singleton, List.not_mem_nil, or_false] at a3
          rcases a3 with rfl | rfl | rfl | rfl | rfl
          · exact g1
          · exact g1
          · refine ⟨Sm.list (N := 4) (S := 1) (D := 0) (fun d hd => ?_) (by simp; omega) (by decide), heard_ok ?_ fun n hn => ?_⟩
            · simp only [List.mem_map, List.mem_range] at hd
              obtain ⟨j, ⟨m, hm, rfl⟩, rfl⟩ := hd
              exact Sm.int (by omega)
            · exact List.pairwise_map.mpr (List.pairwise_lt_range.imp fun h => by omega)
            · simp only [List.mem_map, List.mem_range] at hn
              obtain ⟨m, hm, rfl⟩ := hn
              omega
          · refine ⟨Sm.list (N := 4) (S := 1) (D := 0) (fun d hd => ?_) (by simp) (by decide), heard_ok (ns := [r]) (List.pairwise_singleton _ _) fun n hn => ?_⟩
            · rw [List.mem_singleton.mp hd]
              exact Sm.int (by omega)
            · rw [List.mem_singleton.mp hn]
              omega
          · exact ⟨Sm.list (N := 4) (S := 1) (D := 0) (fun d hd => by simp at hd) (by simp) (by decide), heard_ok (ns := []) .nil fun n hn => by simp at hn⟩
        refine ⟨O, ys, r2, v, rfl, rfl, SqL.of ey, a1, F, xs, v, rfl, rfl, f8, ?_, hN _ _ ?_ ⟨⟨_, _, rfl⟩, (A8.mono (by omega)).set f8 nFp, xs ++ [v], ds ++ [d], upd_same, ?_, ?_, ?_⟩⟩
        · have := tx.length
          unfold sizeLine
          omega
        · exact (k.trans (kk.sub (by simp))).trans (Kx.put (by simp))
        · have t9 := TrAll.kx kk (fun b hb => by rw [List.mem_singleton.mp hb]; exact A1.mem) _ _ tx
          exact TrAll.kx (Kx.put (B := [F]) (by simp)) (fun b hb => by simp_all) _ _ (t9.snoc a2)
        · rw [List.length_append, lx]; rfl
        · intro d' hd'
          rcases List.mem_append.mp hd' with z | z
          · exact gx d' z
          · rw [List.mem_singleton.mp z]; exact gd
    · subst e
      refine ⟨_, rfl, q _ (.list ds) H1 (Kx.weak (kF.of.trans k) fun b hb => ?_) ((A1.mono (by omega)).less (fun c hc => List.mem_cons_of_mem _ hc) hA.mem) (.lst nF hx (TrAll.less (fun b hb => List.mem_cons_of_mem _ hb) _ _ tx)) ⟨Sm.list (N := 10) (fun d hd => (gx d hd).1) (by omega) (by decide), ?_⟩⟩
      · simp only [List.mem_cons, List.not_mem_nil, or_false] at hb
        rcases hb with rfl | rfl
        · exact .inl (by simp)
        · exact .inr hF
      · show (isLs h h (.list ds) && ds.all (heardB c)) = true
        rw [Bool.and_eq_true]
        refine ⟨?_, List.all_eq_true.mpr fun d hd => (gx d hd).2⟩
        show (decide (h ≤ (ds.length : Int)) && decide ((ds.length : Int) ≤ h)) = true
        simp only [Bool.and_eq_true, decide_eq_true_eq]
        omega
theorem isWh_ok {lo hi i : Int} (h1 : lo ≤ i) (h2 : i ≤ hi) : isWh lo hi (.int i) = true := by
  show (decide (lo ≤ i) && decide (i ≤ hi)) = true
  simp only [Bool.and_eq_true, decide_eq_true_eq]
  exact ⟨h1, h2⟩
theorem isLs_ok {lo hi : Int} {ds : List PyData} (h1 : lo ≤ (ds.length : Int)) (h2 : (ds.length : Int) ≤ hi) : isLs lo hi (.list ds) = true := by
  show (decide (lo ≤ (ds.length : Int)) && decide ((ds.length : Int) ≤ hi)) = true
  simp only [Bool.and_eq_true, decide_eq_true_eq]
  exact ⟨h1, h2⟩
theorem block_ok {h c ho nu re : Int} {dd d : PyData} (a1 : 0 ≤ ho) (a2 : ho < 6) (b1 : 0 ≤ nu) (b2 : nu < c) (c1 : 0 ≤ re) (c2 : re < h) (vd : (isNone dd || isWh re (h - 1) dd) = true) (vw : isWh 1 9999 d = true) : blockB h c (.tuple [.int ho, .int nu, .int re, dd, d]) = true := by
  show (isWh 0 5 (.int ho) && (isWh 0 (c - 1) (.int nu) && (isWh 0 (h - 1) (.int re) && ((isNone dd || isWh re (h - 1) dd) && isWh 1 9999 d)))) = true
  rw [isWh_ok a1 (by omega), isWh_ok b1 (by omega), isWh_ok c1 (by omega), vd, vw]
  rfl
def sp_law_block (Ts : List Addr) : Sp := fun vs H Q _ => ∃ (p : Addr) (n : Nat) (C : List Addr) (h c : Int), vs = [.ref p, .int h, .int c] ∧ 1 ≤ h ∧ h ≤ 10 ∧ 1 ≤ c ∧ c ≤ 4 ∧ n ≤ 900000000000 ∧ At Ts C p n H ∧ Draws Ts C p n 20 (fun d => Sm 20 1000000 6 1 d ∧ blockB h c d = true) H Q
theorem ok__law_block (Y : Facts K mg base fa fd ca ta) : FnOk P w K mg base CX0 2 (fa "_law_block") (fd "_law_block") ["purse", "hours", "craft"] (sp_law_block (Ts ta)) := by
  refine Y.d__law_block.ok sc__law_block (fun vs H Q E h => ?_) (fun cdv A outer s H vs Q E hcd hr h => ?_)
  · obtain ⟨p, n, C, h, c, rfl, _⟩ := h; rfl
  · obtain ⟨p, n, C, h, c, rfl, h1, h2, c1, c2, hn, hA, q⟩ := h
    refine ⟨_, (pss_cons (ps_set (i := 3) sc__law_block.nd rfl (by first | exact Or.inl rfl | exact Or.inr rfl) (pe_ix (ix_listK K rfl) (pe_lst (pa_cons (pe_call (ok__law_coin Y) (hr.mono (by decide)) (by rfl) Y.d__law_coin.g Y.d__law_coin.kp Y.d__law_coin.b .nil pass0 (pa_cons (pv 0) (pa_cons (pv 1) pa_nil))) (pa_cons pe_int pa_nil))) (pe_callTy call_int1 (by rfl) Y.b.int (by decide +kernel) (pa_cons (pe_cmpR op_eq (pe_call (ok__law_coin Y) (hr.mono (by decide)) (by rfl) Y.d__law_coin.g Y.d__law_coin.kp Y.d__law_coin.b .nil pass0 (pa_cons (pv 0) (pa_cons pe_int pa_nil))) pe_int (nomark _)) pa_nil)) (fun _ _ => rfl)))
      (pss_cons (ps_set (i := 4) sc__law_block.nd rfl (by first | exact Or.inl rfl | exact Or.inr rfl) pe_non)
      (pss_cons (ps_if (pt_cmpR op_eq (pe_call (ok__law_coin Y) (hr.mono (by decide)) (by rfl) Y.d__law_coin.g Y.d__law_coin.kp Y.d__law_coin.b .nil pass0 (pa_cons (pv 0) (pa_cons pe_int pa_nil))) pe_int (nomark _)) (pss_one (ps_set (i := 4) sc__law_block.nd rfl (by first | exact Or.inl rfl | exact Or.inr rfl) (pe_op op_add (pv 3) (pe_call (ok__law_coin Y) (hr.mono (by decide)) (by rfl) Y.d__law_coin.g Y.d__law_coin.kp Y.d__law_coin.b .nil pass0 (pa_cons (pv 0) (pa_cons (pe_op op_sub (pv 1) (pv 3)) pa_nil)))))) pss_nil)
      (pss_cons (ps_set (i := 5) sc__law_block.nd rfl (by first | exact Or.inl rfl | exact Or.inr rfl) (pe_lst (pa_cons (pe_op op_add pe_int (pe_call (ok__law_coin Y) (hr.mono (by decide)) (by rfl) Y.d__law_coin.g Y.d__law_coin.kp Y.d__law_coin.b .nil pass0 (pa_cons (pv 0) (pa_cons pe_int pa_nil)))) (pa_cons (pe_op op_add pe_int (pe_call (ok__law_coin Y) (hr.mono (by decide)) (by rfl) Y.d__law_coin.g Y.d__law_coin.kp Y.d__law_coin.b .nil pass0 (pa_cons (pv 0) (pa_cons pe_int pa_nil)))) (pa_cons (pe_op op_add pe_int (pe_call (ok__law_coin Y) (hr.mono (by decide)) (by rfl) Y.d__law_coin.g Y.d__law_coin.kp Y.d__law_coin.b .nil pass0 (pa_cons (pv 0) (pa_cons pe_int pa_nil)))) (pa_cons pe_int pa_nil))))))
      (pss_one (ps_ret (pe_tup (pa_cons (pe_call (ok__law_coin Y) (hr.mono (by decide)) (by rfl) Y.d__law_coin.g Y.d__law_coin.kp Y.d__law_coin.b .nil pass0 (pa_cons (pv 0) (pa_cons pe_int pa_nil))) (pa_cons (pe_call (ok__law_coin Y) (hr.mono (by decide)) (by rfl) Y.d__law_coin.g Y.d__law_coin.kp Y.d__law_coin.b .nil pass0 (pa_cons (pv 0) (pa_cons (pv 2) pa_nil))) (pa_cons (pv 3) (pa_cons (pv 4) (pa_cons (pe_ix (ix_listK K rfl) (pv 5) (pe_call (ok__law_coin Y) (hr.mono (by decide)) (by rfl) Y.d__law_coin.g Y.d__law_coin.kp Y.d__law_coin.b .nil pass0 (pa_cons (pv 0) (pa_cons pe_int pa_nil))) (fun _ _ => rfl)) pa_nil)))))))))))), ?_⟩
    refine ⟨.ref p, rfl, .int h, rfl, p, _, h, _, rfl, by omega, by omega, by omega, hA, fun r1 H1 r10 r11 k1 A1 => ⟨len_ok, fun L hL => ?_⟩⟩
    obtain ⟨k2, e2, t2⟩ := mk_lst A1.al (.cons (.int r1) (.cons (.int 0) .nil)) hL
    have A2 := A1.kx k2
    generalize upd H1 L (.lst [V.int r1, V.int 0]) = H2 at k2 e2 t2 A2 ⊢
    refine ⟨.ref p, rfl, p, _, 4, _, rfl, by decide, by decide, by omega, A2, fun z H3 z0 z1 k3 A3 => ⟨rfl, .inr ⟨_, rfl, ?_⟩⟩⟩
    obtain ⟨ys, ey, ty⟩ := (A2.tr t2 k3).items
    obtain ⟨re, are, re0, re1⟩ : ∃ re, atI ys (if decide (V.int z = V.int 0) then 1 else 0) = some (.int re) ∧ 0 ≤ re ∧ re < h := by
      have hl := ty.length
      obtain ⟨v, d, a1, a2, a3⟩ := pick ty (r := if decide (V.int z = V.int 0) = true then 1 else 0) (by split <;> omega) (by simp at hl; split <;> omega)
      simp only [List.mem_cons, List.mem_singleton, List.not_mem_nil, or_false] at a3
      rcases a3 with rfl | rfl
      · rw [Tree.Tr.intV a2] at a1
        exact ⟨_, a1, r10, r11⟩
      · rw [Tree.Tr.intV a2] at a1
        exact ⟨_, a1, by omega, by omega⟩
    refine ⟨L, ys, _, _, rfl, rfl, SqL.of ey, are, ?_⟩
    have k03 : Kx [p] H H3 := k1.trans (k2.of.trans k3)
    refine ⟨.ref p, rfl, p, _, 3, _, rfl, by decide, by decide, by omega, A3, fun y H4 y0 y1 k4 A4 => ⟨rfl, _, rfl, ?_⟩⟩
    have k04 := k03.trans k4
    refine ite2 (fun cc => ?_) (fun cc => ?_)
    · refine ⟨_, rfl, .ref p, rfl, .int h, rfl, _, rfl, _, _, rfl, rfl, p, _, h - re, _, rfl, by omega, by omega, by omega, A4, fun du H5 du0 du1 k5 A5 => ⟨_, _, rfl, rfl, ?_⟩⟩
      have kd := k04.trans k5
      have td : Tr C H5 (V.int (re + du)) (.int (re + du)) := .int _
      have sd : Sm 20 1000000 1 0 (.int (re + du)) := Sm.int (by omega)
      have vd : (isNone (.int (re + du)) || isWh re (h - 1) (.int (re + du))) = true := isWh_ok (by omega) (by omega)
      refine ⟨.ref p, rfl, p, _, 4, _, rfl, by decide, by decide, by omega, A5, fun w1 H6 w10 w11 k6 A6 => ⟨_, _, rfl, rfl, ?_⟩⟩
      refine ⟨.ref p, rfl, p, _, 30, _, rfl, by decide, by decide, by omega, A6, fun w2 H7 w20 w21 k7 A7 => ⟨_, _, rfl, rfl, ?_⟩⟩
      refine ⟨.ref p, rfl, p, _, 9999, _, rfl, by decide, by decide, by omega, A7, fun w3 H8 w30 w31 k8 A8 => ⟨_, _, rfl, rfl, len_ok, fun L hL => ?_⟩⟩
      obtain ⟨k9, e9, t9⟩ := mk_lst A8.al (.cons (.int (1 + w1)) (.cons (.int (1 + w2)) (.cons (.int (1 + w3)) (.cons (.int 9999) .nil)))) hL
      have A9 := A8.kx k9
      generalize upd H8 L (.lst [V.int (1 + w1), V.int (1 + w2), V.int (1 + w3), V.int 9999]) = H9 at k9 e9 t9 A9 ⊢
      refine ⟨.ref p, rfl, p, _, 6, _, rfl, by decide, by decide, by omega, A9, fun ho HA ho0 ho1 kA AA => ?_⟩
      refine ⟨.ref p, rfl, .int c, rfl, p, _, c, _, rfl, by omega, by omega, by omega, AA, fun cr HB cr0 cr1 kB AB => ?_⟩
      refine ⟨_, rfl, _, rfl, .ref L, rfl, .ref p, rfl, p, _, 4, _, rfl, by decide, by decide, by omega, AB, fun wi HC wi0 wi1 kC AC => ?_⟩
      have kk := (kA.trans kB).trans kC
      obtain ⟨ys, ey, ty⟩ := (A9.tr t9 kk).items
      obtain ⟨v, d, a1, a2, a3⟩ := pick ty wi0 (by have := ty.length; simp at this; omega)
      have gd : Sm 20 1000000 1 0 d ∧ isWh 1 9999 d = true := by
        simp only [List.mem_cons, List.mem_singleton, List.not_mem_nil, or_false] at a3
        rcases a3 with rfl | rfl | rfl | rfl <;> exact ⟨Sm.int (by omega), isWh_ok (by omega) (by omega)⟩
      have k5C : Kx [p] H5 HC := k6.trans (k7.trans (k8.trans (k9.of.trans kk)))
      refine ⟨L, ys, wi, v, rfl, rfl, SqL.of ey, a1, len_ok, fun T hT => ?_⟩
      obtain ⟨kT, eT, tT⟩ := mk_tup AC.al (.cons (.int ho) (.cons (.int cr) (.cons (.int re) (.cons (A5.tr td k5C) (.cons a2 .nil))))) hT
      have AT := AC.kx kT
      refine q _ _ _ (kd.trans (k5C.trans kT.of)) (AT.mono (by omega)) tT ⟨Sm.tuple (N := 5) (S := 1) (D := 0) (fun d hd => ?_) (by simp) (by decide), block_ok ho0 ho1 cr0 cr1 re0 re1 vd gd.2⟩
      simp only [List.mem_cons, List.mem_singleton, List.not_mem_nil, or_false] at hd
      rcases hd with rfl | rfl | rfl | rfl | rfl
      · exact Sm.int (by omega)
      · exact Sm.int (by omega)
      · exact Sm.int (by omega)
      · exact sd
      · exact gd.1
    · have td : Tr C H4 V.non .none := .non
      have sd : Sm 20 1000000 1 0 .none := Sm.none
      have vd : (isNone .none || isWh re (h - 1) .none) = true := rfl
      have kd := k04
      have A5 := A4
      have h5 : ∃ H5, H5 = H4 := ⟨_, rfl⟩
      obtain ⟨H5, e5⟩ := h5
      rw [← e5] at kd A5 td ⊢
      refine ⟨.ref p, rfl, p, _, 4, _, rfl, by decide, by decide, by omega, A5, fun w1 H6 w10 w11 k6 A6 => ⟨_, _, rfl, rfl, ?_⟩⟩
      refine ⟨.ref p, rfl, p, _, 30, _, rfl, by decide, by decide, by omega, A6, fun w2 H7 w20 w21 k7 A7 => ⟨_, _, rfl, rfl, ?_⟩⟩
      refine ⟨.ref p, rfl, p, _, 9999, _, rfl, by decide, by decide, by omega, A7, fun w3 H8 w30 w31 k8 A8 => ⟨_, _, rfl, rfl, len_ok, fun L hL => ?_⟩⟩
      obtain ⟨k9, e9, t9⟩ := mk_lst A8.al (.cons (.int (1 + w1)) (.cons (.int (1 + w2)) (.cons (.int (1 + w3)) (.cons (.int 9999) .nil)))) hL
      have A9 := A8.kx k9
      generalize upd H8 L (.lst [V.int (1 + w1), V.int (1 + w2), V.int (1 + w3), V.int 9999]) = H9 at k9 e9 t9 A9 ⊢
      refine ⟨.ref p, rfl, p, _, 6, _, rfl, by decide, by decide, by omega, A9, fun ho HA ho0 ho1 kA AA => ?_⟩
      refine ⟨.ref p, rfl, .int c, rfl, p, _, c, _, rfl, by omega, by omega, by omega, AA, fun cr HB cr0 cr1 kB AB => ?_⟩
      refine ⟨_, rfl, _, rfl, .ref L, rfl, .ref p, rfl, p, _, 4, _, rfl, by decide, by decide, by omega, AB, fun wi HC wi0 wi1 kC AC => ?_⟩
      have kk := (kA.trans kB).trans kC
      obtain ⟨ys, ey, ty⟩ := (A9.tr t9 kk).items
      obtain ⟨v, d, a1, a2, a3⟩ := pick ty wi0 (by have := ty.length; simp at this; omega)
      have gd : Sm 20 1000000 1 0 d ∧ isWh 1 9999 d = true := by
        simp only [List.mem_cons, List.mem_singleton, List.not_mem_nil, or_false] at a3
        rcases a3 with rfl | rfl | rfl | rfl <;> exact ⟨Sm.int (by omega), isWh_ok (by omega) (by omega)⟩
      have k5C : Kx [p] H5 HC := k6.trans (k7.trans (k8.trans (k9.of.trans kk)))
      refine ⟨L, ys, wi, v, rfl, rfl, SqL.of ey, a1, len_ok, fun T hT => ?_⟩
      obtain ⟨kT, eT, tT⟩ := mk_tup AC.al (.cons (.int ho) (.cons (.int cr) (.cons (.int re) (.cons (A5.tr td k5C) (.cons a2 .nil))))) hT
      have AT := AC.kx kT
      refine q _ _ _ (kd.trans (k5C.trans kT.of)) (AT.mono (by omega)) tT ⟨Sm.tuple (N := 5) (S := 1) (D := 0) (fun d hd => ?_) (by simp) (by decide), block_ok ho0 ho1 cr0 cr1 re0 re1 vd gd.2⟩
      simp only [List.mem_cons, List.mem_singleton, List.not_mem_nil, or_false] at hd
      rcases hd with rfl | rfl | rfl | rfl | rfl
      · exact Sm.int (by omega)
      · exact Sm.int (by omega)
      · exact Sm.int (by omega)
      · exact sd
      · exact gd.1
/-- a drawn day -/
structure DayG (most blocks : Int) (d : PyData) : Prop where
  ex : ∃ (h : Int) (sts sis ask bls : List PyData), d = .tuple [.int h, .list sts, .list sis, .list ask, .list bls] ∧ 1 ≤ h ∧ h ≤ most ∧ 1 ≤ sts.length ∧ sts.length ≤ 4 ∧ 1 ≤ sis.length ∧ sis.length ≤ 3 ∧ ask.length = sis.length ∧ (bls.length : Int) ≤ blocks ∧
    (∀ d ∈ sts, Sm 20 1000000 1 0 d) ∧ (∀ d ∈ sis, Sm 20 1000000 51 2 d) ∧ (∀ d ∈ ask, Sm 20 1000000 1 0 d) ∧ (∀ d ∈ bls, Sm 20 1000000 6 1 d) ∧ isDayB d = true
def sp_law_day (Ts : List Addr) : Sp := fun vs H Q _ => ∃ (p : Addr) (n : Nat) (C : List Addr) (most blocks : Int), vs = [.ref p, .int most, .int blocks] ∧ 1 ≤ most ∧ most ≤ 10 ∧ 0 ≤ blocks ∧ blocks ≤ 14 ∧ n ≤ 800000000000 ∧ At Ts C p n H ∧ Draws Ts C p n 10000 (DayG most blocks) H Q
theorem ok__law_day (Y : Facts K mg base fa fd ca ta) : FnOk P w K mg base CX0 3 (fa "_law_day") (fd "_law_day") ["purse", "most", "blocks"] (sp_law_day (Ts ta)) := by
  refine Y.d__law_day.ok sc__law_day (fun vs H Q E h => ?_) (fun cdv A outer s H vs Q E hcd hr h => ?_)
  · obtain ⟨p, n, C, h, c, rfl, _⟩ := h; rfl
  · obtain ⟨p, n, C, most, blocks, rfl, m1, m2, b1, b2, hn, hA, q⟩ := h
    refine ⟨_, (pss_cons (ps_set (i := 3) sc__law_day.nd rfl (by first | exact Or.inl rfl | exact Or.inr rfl) (pe_callTy call_int1 (by rfl) Y.b.int (by decide +kernel) (pa_cons (pe_cmpR op_eq (pe_call (ok__law_coin Y) (hr.mono (by decide)) (by rfl) Y.d__law_coin.g Y.d__law_coin.kp Y.d__law_coin.b .nil pass0 (pa_cons (pv 0) (pa_cons pe_int pa_nil))) pe_int (nomark _)) pa_nil)))
      (pss_cons (ps_set (i := 4) sc__law_day.nd rfl (by first | exact Or.inl rfl | exact Or.inr rfl) (pe_ix (ix_listK K rfl) (pe_lst (pa_cons (pe_op op_add pe_int (pe_call (ok__law_coin Y) (hr.mono (by decide)) (by rfl) Y.d__law_coin.g Y.d__law_coin.kp Y.d__law_coin.b .nil pass0 (pa_cons (pv 0) (pa_cons (pv 1) pa_nil)))) (pa_cons (pv 1) pa_nil))) (pv 3) (fun _ _ => rfl)))
      (pss_cons (ps_set (i := 5) sc__law_day.nd rfl (by first | exact Or.inl rfl | exact Or.inr rfl) (pe_ix (ix_listK K rfl) (pe_lst (pa_cons (pe_op op_add pe_int (pe_call (ok__law_coin Y) (hr.mono (by decide)) (by rfl) Y.d__law_coin.g Y.d__law_coin.kp Y.d__law_coin.b .nil pass0 (pa_cons (pv 0) (pa_cons pe_int pa_nil)))) (pa_cons (pe_op op_add pe_int (pe_call (ok__law_coin Y) (hr.mono (by decide)) (by rfl) Y.d__law_coin.g Y.d__law_coin.kp Y.d__law_coin.b .nil pass0 (pa_cons (pv 0) (pa_cons pe_int pa_nil)))) pa_nil))) (pe_call (ok__law_coin Y) (hr.mono (by decide)) (by rfl) Y.d__law_coin.g Y.d__law_coin.kp Y.d__law_coin.b .nil pass0 (pa_cons (pv 0) (pa_cons pe_int pa_nil))) (fun _ _ => rfl)))
      (pss_cons (ps_setLc (i := 6) (own := [("one", 11)]) (g := gName 11) (tt := tYes) rfl sc__law_day.nd rfl rfl (sw_true rfl rfl rfl (by decide +kernel)) (pi_range1 (by rfl) Y.b.range (pa_cons (pv 5) pa_nil)) (blkOk_by (N := ["purse", "most", "blocks", "full", "hours", "craft", "stores", "dishes", "sights", "asks", "many", "one", "dish"]) (sc := defScope s__law_day) (by decide +kernel)) (fun _ _ _ _ _ => (pg_name (i := 11) sc__law_day.nd rfl (by first | exact Or.inl rfl | exact Or.inr rfl))) (fun _ _ _ _ _ => pts_nil) (fun _ _ _ _ _ => (pe_ix (ix_listK K rfl) (pe_lst (pa_cons pe_int (pa_cons pe_int (pa_cons pe_int (pa_cons pe_int (pa_cons (pe_call (ok__law_coin Y) (hr.mono (by decide)) (by rfl) Y.d__law_coin.g Y.d__law_coin.kp Y.d__law_coin.b .nil pass0 (pa_cons (pv 0) (pa_cons pe_int pa_nil))) (pa_cons pe_int pa_nil))))))) (pe_call (ok__law_coin Y) (hr.mono (by decide)) (by rfl) Y.d__law_coin.g Y.d__law_coin.kp Y.d__law_coin.b .nil pass0 (pa_cons (pv 0) (pa_cons pe_int pa_nil))) (fun _ _ => rfl))))
      (pss_cons (ps_set (i := 7) sc__law_day.nd rfl (by first | exact Or.inl rfl | exact Or.inr rfl) (pe_ix (ix_listK K rfl) (pe_lst (pa_cons pe_int (pa_cons pe_int (pa_cons (pe_op op_add pe_int (pe_call (ok__law_coin Y) (hr.mono (by decide)) (by rfl) Y.d__law_coin.g Y.d__law_coin.kp Y.d__law_coin.b .nil pass0 (pa_cons (pv 0) (pa_cons pe_int pa_nil)))) pa_nil)))) (pe_call (ok__law_coin Y) (hr.mono (by decide)) (by rfl) Y.d__law_coin.g Y.d__law_coin.kp Y.d__law_coin.b .nil pass0 (pa_cons (pv 0) (pa_cons pe_int pa_nil))) (fun _ _ => rfl)))
      (pss_cons (ps_setLc (i := 8) (own := [("dish", 12)]) (g := gName 12) (tt := tYes) rfl sc__law_day.nd rfl rfl (sw_true rfl rfl rfl (by decide +kernel)) (pi_range1 (by rfl) Y.b.range (pa_cons (pv 7) pa_nil)) (blkOk_by (N := ["purse", "most", "blocks", "full", "hours", "craft", "stores", "dishes", "sights", "asks", "many", "one", "dish"]) (sc := defScope s__law_day) (by decide +kernel)) (fun _ _ _ _ _ => (pg_name (i := 12) sc__law_day.nd rfl (by first | exact Or.inl rfl | exact Or.inr rfl))) (fun _ _ _ _ _ => pts_nil) (fun _ _ _ _ _ => (pe_call (ok__law_sight Y) (hr.mono (by decide)) (by rfl) Y.d__law_sight.g Y.d__law_sight.kp Y.d__law_sight.b .nil pass0 (pa_cons (pv 0) (pa_cons (pv 4) (pa_cons (pv 5) pa_nil))))))
      (pss_cons (ps_setLc (i := 9) (own := [("dish", 12)]) (g := gName 12) (tt := tYes) rfl sc__law_day.nd rfl rfl (sw_true rfl rfl rfl (by decide +kernel)) (pi_listK K rfl (pv 8)) (blkOk_by (N := ["purse", "most", "blocks", "full", "hours", "craft", "stores", "dishes", "sights", "asks", "many", "one", "dish"]) (sc := defScope s__law_day) (by decide +kernel)) (fun _ _ _ _ _ => (pg_name (i := 12) sc__law_day.nd rfl (by first | exact Or.inl rfl | exact Or.inr rfl))) (fun _ _ _ _ _ => pts_nil) (fun _ _ _ _ _ => (pe_ix (ix_listK K rfl) (pe_lst (pa_cons pe_non (pa_cons pe_non (pa_cons (pe_call (ok__law_coin Y) (hr.mono (by decide)) (by rfl) Y.d__law_coin.g Y.d__law_coin.kp Y.d__law_coin.b .nil pass0 (pa_cons (pv 0) (pa_cons pe_int pa_nil))) (pa_cons (pe_call (ok__law_coin Y) (hr.mono (by decide)) (by rfl) Y.d__law_coin.g Y.d__law_coin.kp Y.d__law_coin.b .nil pass0 (pa_cons (pv 0) (pa_cons pe_int pa_nil))) (pa_cons pe_int pa_nil)))))) (pe_call (ok__law_coin Y) (hr.mono (by decide)) (by rfl) Y.d__law_coin.g Y.d__law_coin.kp Y.d__law_coin.b .nil pass0 (pa_cons (pv 0) (pa_cons pe_int pa_nil))) (fun _ _ => rfl))))
      (pss_cons (ps_set (i := 10) sc__law_day.nd rfl (by first | exact Or.inl rfl | exact Or.inr rfl) (pe_ix (ix_listK K rfl) (pe_lst (pa_cons (pe_call (ok__law_coin Y) (hr.mono (by decide)) (by rfl) Y.d__law_coin.g Y.d__law_coin.kp Y.d__law_coin.b .nil pass0 (pa_cons (pv 0) (pa_cons (pe_op op_add (pv 2) pe_int) pa_nil))) (pa_cons (pv 2) pa_nil))) (pv 3) (fun _ _ => rfl)))
      (pss_one (ps_ret (pe_tup (pa_cons (pv 4) (pa_cons (pv 6) (pa_cons (pv 8) (pa_cons (pv 9) (pa_cons (pe_lc (own := [("one", 11)]) (g := gName 11) (tt := tYes) rfl sc__law_day.nd (pi_range1 (by rfl) Y.b.range (pa_cons (pv 10) pa_nil)) (blkOk_by (N := ["purse", "most", "blocks", "full", "hours", "craft", "stores", "dishes", "sights", "asks", "many", "one", "dish"]) (sc := defScope s__law_day) (by decide +kernel)) (fun _ _ _ _ _ => (pg_name (i := 11) sc__law_day.nd rfl (by first | exact Or.inl rfl | exact Or.inr rfl))) (fun _ _ _ _ _ => pts_nil) (fun _ _ _ _ _ => (pe_call (ok__law_block Y) (hr.mono (by decide)) (by rfl) Y.d__law_block.g Y.d__law_block.kp Y.d__law_block.b .nil pass0 (pa_cons (pv 0) (pa_cons (pv 4) (pa_cons (pv 5) pa_nil)))))) pa_nil)))))))))))))))), ?_⟩
    -- full
    refine ⟨.ref p, rfl, p, _, 8, _, rfl, by decide, by decide, by omega, hA, fun z H1 z0 z1 k1 A1 => ⟨rfl, .inr ⟨_, rfl, ?_⟩⟩⟩
    have ff : 0 ≤ (if decide (V.int z = V.int 0) = true then (1 : Int) else 0) ∧ (if decide (V.int z = V.int 0) = true then (1 : Int) else 0) < 2 := by split <;> omega
    generalize (if decide (V.int z = V.int 0) = true then (1 : Int) else 0) = f at ff ⊢
    -- hours
    refine ⟨.ref p, rfl, .int most, rfl, p, _, most, _, rfl, by omega, by omega, by omega, A1, fun r H2 r0 r1 k2 A2 => ⟨_, _, rfl, rfl, _, rfl, len_ok, fun L hL => ?_⟩⟩
    generalize hq3 : upd H2 L _ = H3
    obtain ⟨k3, e3⟩ := new_at hL hq3
    clear hq3
    have A3 := A2.kx k3
    obtain ⟨hh, a3, i3⟩ := pickI (ns := [1 + r, most]) ff.1 (by simpa using ff.2)
    have h1 : 1 ≤ hh ∧ hh ≤ most := by
      simp only [List.mem_cons, List.mem_singleton, List.not_mem_nil, or_false] at i3
      omega
    refine ⟨_, rfl, L, _, f, _, rfl, rfl, SqL.of e3, a3, ?_⟩
    -- craft
    refine ⟨.ref p, rfl, p, _, 2, _, rfl, by decide, by decide, by omega, A3, fun x1 H4 x10 x11 k4 A4 => ⟨_, _, rfl, rfl, .ref p, rfl, p, _, 4, _, rfl, by decide, by decide, by omega, A4, fun x2 H5 x20 x21 k5 A5 => ⟨_, _, rfl, rfl, len_ok, fun L2 hL2 => ?_⟩⟩⟩
    generalize hq6 : upd H5 L2 _ = H6
    obtain ⟨k6, e6⟩ := new_at hL2 hq6
    clear hq6
    have A6 := A5.kx k6
    refine ⟨.ref p, rfl, p, _, 2, _, rfl, by decide, by decide, by omega, A6, fun ci H7 i0 i1 k7 A7 => ?_⟩
    obtain ⟨cr, a7, i7⟩ := pickI (ns := [1 + x1, 1 + x2]) i0 (by simpa using i1)
    have c1 : 1 ≤ cr ∧ cr ≤ 4 := by
      simp only [List.mem_cons, List.mem_singleton, List.not_mem_nil, or_false] at i7
      omega
    refine ⟨L2, _, ci, _, rfl, rfl, SqL.of (k7.lst (A5.nep hL2) e6), a7, ?_⟩
    have k07 : Kx [p] H H7 := k1.trans (k2.trans (k3.of.trans (k4.trans (k5.trans (k6.of.trans k7)))))
    -- stores
    refine st_name ?_
    dsimp only
    refine st_set (lc_use ?_)
    refine ⟨_, rfl, cr, rfl, by omega, by omega, ?_⟩
    refine lc_pu (itr_at cr.toNat) (by omega) 2 (fun d => Sm 20 1000000 1 0 d ∧ isWh 0 5 d = true) true A7 (fun D i Hs hD hi ks As R R0 hR hR0 => ?_) fun DS sts H8 k8 A8 tS _ xS gS => ?_
    · refine ⟨rfl, st_yes ⟨.ref p, rfl, p, _, 6, _, rfl, by decide, by decide, by omega, As, fun x Ht x0 x1 kt At => ⟨len_ok, fun L3 hL3 => ?_⟩⟩⟩
      generalize hqu : upd Ht L3 _ = Hu
      obtain ⟨ku, eu⟩ := new_at hL3 hqu
      clear hqu
      refine ⟨.ref p, rfl, p, _, 6, _, rfl, by decide, by decide, by omega, At.kx ku, fun y Hv y0 y1 kv Av => ?_⟩
      obtain ⟨st, av, iv⟩ := pickI (ns := [0, 1, 1, 2, x, 5]) y0 (by simpa using y1)
      have s1 : 0 ≤ st ∧ st ≤ 5 := by
        simp only [List.mem_cons, List.mem_singleton, List.not_mem_nil, or_false] at iv
        omega
      exact ⟨L3, _, y, _, rfl, rfl, SqL.of (kv.lst (At.nep hL3) eu), av, hR _ _ Hv (kt.trans (ku.of.trans kv)) (Av.mono (by omega)) (.int _) ⟨Sm.int (by omega), isWh_ok s1.1 s1.2⟩⟩
    have lS := xS rfl
    clear xS
    -- dishes
    refine ⟨.ref p, rfl, p, _, 3, _, rfl, by decide, by decide, by omega, A8, fun x3 H9 x30 x31 k9 A9 => ⟨_, _, rfl, rfl, len_ok, fun L4 hL4 => ?_⟩⟩
    generalize hqa : upd H9 L4 _ = Ha
    obtain ⟨ka, ea⟩ := new_at hL4 hqa
    clear hqa
    refine ⟨.ref p, rfl, p, _, 3, _, rfl, by decide, by decide, by omega, A9.kx ka, fun di Hb i0' i1' kb Ab => ?_⟩
    obtain ⟨ds, ab, ib⟩ := pickI (ns := [1, 2, 1 + x3]) i0' (by simpa using i1')
    have d1 : 1 ≤ ds ∧ ds ≤ 3 := by
      simp only [List.mem_cons, List.mem_singleton, List.not_mem_nil, or_false] at ib
      omega
    refine ⟨L4, _, di, _, rfl, rfl, SqL.of (kb.lst (A9.nep hL4) ea), ab, ?_⟩
    have k8b : Kx [p] H8 Hb := k9.trans (ka.of.trans kb)
    -- sights
    refine st_name ?_
    dsimp only
    refine st_set (lc_use ?_)
    refine ⟨_, rfl, ds, rfl, by omega, by omega, ?_⟩
    refine lc_pu (itr_at ds.toNat) (by omega) 1000 (fun d => Sm 20 1000000 51 2 d ∧ sightB hh cr d = true) true Ab (fun D i Hs hD hi ks As R R0 hR hR0 => ?_) fun DI sis Hc kc Ac tI _ xI gI => ?_
    · exact ⟨rfl, st_yes ⟨.ref p, rfl, .int hh, rfl, .int cr, rfl, p, _, _, hh, cr, rfl, h1.1, by omega, c1.1, c1.2, by omega, As, fun v d H' k A t g => hR v d H' k (A.mono (by omega)) t g⟩⟩
    have lI := xI rfl
    clear xI
    -- asks
    obtain ⟨xs, eI, tI2⟩ := tI.items
    have lx := tI2.length
    refine st_set (lc_use ⟨_, rfl, DI, rfl, ⟨xs, SqL.of eI⟩, ?_⟩)
    have nDI := Ac.nepT tI
    refine lc_pu (itl_at eI nDI) (by omega) 3 (fun d => Sm 20 1000000 1 0 d ∧ (isNone d || isWh 0 999 d) = true) true Ac (fun D i Hs hD hi ks As R R0 hR hR0 => ?_) fun DA ask Hd kd Ad tA _ xA gA => ?_
    · refine ⟨rfl, st_yes ⟨.ref p, rfl, p, _, 6, _, rfl, by decide, by decide, by omega, As, fun x Ht x0 x1 kt At => ?_⟩⟩
      refine ⟨.ref p, rfl, p, _, 1000, _, rfl, by decide, by decide, by omega, At, fun x' Hu x0' x1' ku Au => ⟨len_ok, fun L3 hL3 => ?_⟩⟩
      generalize hqv : upd Hu L3 _ = Hv
      obtain ⟨kv, ev⟩ := new_at hL3 hqv
      clear hqv
      have Av := Au.kx kv
      refine ⟨.ref p, rfl, p, _, 5, _, rfl, by decide, by decide, by omega, Av, fun y Hw y0 y1 kw Aw => ?_⟩
      obtain ⟨v, d, a1, a2, a3⟩ := pick (C := D :: C) (H := Hw) (xs := [.non, .non, .int x, .int x', .int 999]) (.cons .non (.cons .non (.cons (.int x) (.cons (.int x') (.cons (.int 999) .nil))))) y0 (by simpa using y1)
      have gd : Sm 20 1000000 1 0 d ∧ (isNone d || isWh 0 999 d) = true := by
        simp only [List.mem_cons, List.mem_singleton, List.not_mem_nil, or_false] at a3
        rcases a3 with rfl | rfl | rfl | rfl | rfl
        · exact ⟨Sm.none, rfl⟩
        · exact ⟨Sm.none, rfl⟩
        · exact ⟨Sm.int (by omega), isWh_ok (by omega) (by omega)⟩
        · exact ⟨Sm.int (by omega), isWh_ok (by omega) (by omega)⟩
        · exact ⟨Sm.int (by decide), by decide⟩
      exact ⟨L3, _, y, v, rfl, rfl, SqL.of (kw.lst (Au.nep hL3) ev), a1, hR _ _ Hw (kt.trans (ku.trans (kv.of.trans kw))) (Aw.mono (by omega)) a2 gd⟩
    have lA := xA rfl
    clear xA
    -- many
    refine ⟨.ref p, rfl, .int blocks, rfl, _, _, rfl, rfl, p, _, blocks + 1, _, rfl, by omega, by omega, by omega, Ad, fun x4 He x40 x41 ke Ae => ⟨_, rfl, len_ok, fun L5 hL5 => ?_⟩⟩
    generalize hqf : upd He L5 _ = Hf
    obtain ⟨kf, ef⟩ := new_at hL5 hqf
    clear hqf
    have Af := Ae.kx kf
    obtain ⟨my, af, jf⟩ := pickI (ns := [x4, blocks]) ff.1 (by simpa using ff.2)
    have m1' : 0 ≤ my ∧ my ≤ blocks := by
      simp only [List.mem_cons, List.mem_singleton, List.not_mem_nil, or_false] at jf
      omega
    refine ⟨_, rfl, L5, _, f, _, rfl, rfl, SqL.of ef, af, ?_⟩
    -- the tuple
    refine ⟨_, rfl, _, rfl, _, rfl, _, rfl, lc_use ⟨_, rfl, my, rfl, by omega, by omega, ?_⟩⟩
    refine lc_pu (itr_at my.toNat) (by omega) 20 (fun d => Sm 20 1000000 6 1 d ∧ blockB hh cr d = true) true Af (fun D i Hs hD hi ks As R R0 hR hR0 => ?_) fun DB bls Hg kg Ag tB _ xB gB => ?_
    · exact ⟨rfl, st_yes ⟨.ref p, rfl, .int hh, rfl, .int cr, rfl, p, _, _, hh, cr, rfl, h1.1, by omega, c1.1, c1.2, by omega, As, fun v d H' k A t g => hR v d H' k (A.mono (by omega)) t g⟩⟩
    have lB := xB rfl
    refine ⟨len_ok, fun T hT => ?_⟩
    have kcg : Kx [p] Hc Hg := kd.trans (ke.trans (kf.of.trans kg))
    have kdg : Kx [p] Hd Hg := ke.trans (kf.of.trans kg)
    have k8g : Kx [p] H8 Hg := k8b.trans (kc.trans kcg)
    obtain ⟨kT, eT, tT⟩ := mk_tup Ag.al (.cons (.int hh) (.cons (A8.tr tS k8g) (.cons (Ac.tr tI kcg) (.cons (Ad.tr tA kdg) (.cons tB .nil))))) hT
    refine q _ _ _ (k07.trans (k8.trans (k8g.trans kT.of))) ((Ag.kx kT).mono (by omega)) tT ⟨hh, sts, sis, ask, bls, rfl, h1.1, h1.2, by omega, by omega, by omega, by omega, by omega, by omega, fun d hd => (gS d hd).1, fun d hd => (gI d hd).1, fun d hd => (gA d hd).1, fun d hd => (gB d hd).1, ?_⟩
    have lcr : (sts.length : Int) = cr := by omega
    have lai : (ask.length : Int) = (sis.length : Int) := by omega
    show (isWh 1 10 (.int hh) && ((isLs 1 4 (.list sts) && sts.all (isWh 0 5)) && ((isLs 1 3 (.list sis) && sis.all (sightB hh (sts.length : Int))) && ((isLs (sis.length : Int) (sis.length : Int) (.list ask) && ask.all (fun a => isNone a || isWh 0 999 a)) && (isLs 0 14 (.list bls) && bls.all (blockB hh (sts.length : Int))))))) = true
    rw [lcr, isWh_ok (by omega) (by omega), isLs_ok (by omega) (by omega), isLs_ok (by omega) (by omega), isLs_ok (by omega) (by omega), isLs_ok (by omega) (by omega), List.all_eq_true.mpr fun d hd => (gS d hd).2, List.all_eq_true.mpr fun d hd => (gI d hd).2, List.all_eq_true.mpr fun d hd => (gA d hd).2, List.all_eq_true.mpr fun d hd => (gB d hd).2]
    rfl
end
end Law

set_option Elab.async false
set_option linter.all false
set_option maxRecDepth 100000
set_option maxHeartbeats 4000000
namespace Law
open PySem PySem.Spec PyProof.Rows L2 GxR GX Tree Kit Data Loops Comps Purse Sets Small Ib
section
variable {P : Program} {w : World} {K : PySem.W.Frag} {mg : Str → Option Value} {base : Heap} {fa : String → Addr} {fd : String → FuncData} {ca ta : String → Addr}
/-! ### bent things -/
/-- no list, no tuple -/
def isSeq : PyData → Bool
  | .list _ => true
  | .tuple _ => true
  | _ => false
def sp_law_other (Ts : List Addr) : Sp := fun vs H Q _ => ∃ (p : Addr) (n : Nat) (C : List Addr) (v : V) (d : PyData) (L M S D : Nat), vs = [.ref p, v] ∧ n ≤ 800000000000 ∧ At Ts C p n H ∧ Tr C H v d ∧ isSeq d = false ∧ Sm L M S D d ∧ M ≤ 50000000000 ∧ Draws Ts C p n 1 (Sm (L + 1) (M + 1000000000) 2 1) H Q
theorem ok__law_other (Y : Facts K mg base fa fd ca ta) : FnOk P w K mg base CX0 2 (fa "_law_other") (fd "_law_other") ["purse", "thing"] (sp_law_other (Ts ta)) := by
  refine Y.d__law_other.ok sc__law_other (fun vs H Q E h => ?_) (fun cdv A outer s H vs Q E hcd hr h => ?_)
  · obtain ⟨p, n, C, v, d, L, M, S, D, rfl, _⟩ := h; rfl
  · obtain ⟨p, n, C, v, d, L, M, S, D, rfl, hn, hA, ht, hs, hm, hM, q⟩ := h
    refine ⟨_, (pss_cons (ps_set (i := 2) sc__law_other.nd rfl (by first | exact Or.inl rfl | exact Or.inr rfl) (pe_lst (pa_cons pe_non (pa_cons pe_bl (pa_cons pe_bl (pa_cons pe_int (pa_cons (pe_un un_neg pe_int) (pa_cons pe_str (pa_cons pe_str (pa_cons (pe_lst pa_nil) (pa_cons (pe_tup pa_nil) (pa_cons pe_dnewK (pa_cons pe_int (pa_cons pe_int pa_nil))))))))))))))
      (pss_cons (ps_if (pt_val (pe_callB (call_isiK' K rfl) (by rfl) Y.b.isinstance (by decide +kernel) (pa_cons (pv 1) (pa_cons (pe_bltn (v := .ty "int") (by rfl) Y.b.int (by decide +kernel) rfl) pa_nil)))) (pss_one (ps_set (i := 2) sc__law_other.nd rfl (by first | exact Or.inl rfl | exact Or.inr rfl) (pe_lst (pa_cons (pe_op op_addB (pv 1) pe_int) (pa_cons (pe_op op_subB (pv 1) pe_int) (pa_cons (pe_op op_addB (pv 1) pe_int) (pa_cons (pe_op op_subB (pv 1) pe_int) (pa_cons (pe_callTy call_strB (by rfl) Y.b.str (by decide +kernel) (pa_cons (pv 1) pa_nil)) (pa_cons (pe_lst (pa_cons (pv 1) pa_nil)) (pa_cons pe_bl (pa_cons pe_non (pa_cons (pe_op op_subIB (pe_un un_neg pe_int) (pv 1)) (pa_cons (pe_op op_powW pe_int pe_int) (pa_cons pe_int (pa_cons pe_int pa_nil))))))))))))))) pss_nil)
      (pss_one (ps_ret (pe_ix (ix_listK K rfl) (pv 2) (pe_call (ok__law_coin Y) (hr.mono (by decide)) (by rfl) Y.d__law_coin.g Y.d__law_coin.kp Y.d__law_coin.b .nil pass0 (pa_cons (pv 0) (pa_cons (pe_callB (call_lenK K rfl) (by rfl) Y.b.len (by decide +kernel) (pa_cons (pv 2) pa_nil)) pa_nil))) (fun _ _ => rfl)))))), ?_⟩
    refine ⟨_, rfl, len_ok, fun La hLa => ?_⟩
    generalize hqa : upd H La _ = H1
    obtain ⟨k1, e1, t1⟩ : Kx [] H H1 ∧ H1 La = some (.lst []) ∧ Tr C H1 (.ref La) (.list []) := hqa ▸ mk_lst hA.al .nil hLa
    clear hqa
    have A1 := hA.kx k1
    refine ⟨len_ok, fun Lb hLb => ?_⟩
    generalize hqb : upd H1 Lb _ = H2
    obtain ⟨k2, e2, t2⟩ : Kx [] H1 H2 ∧ H2 Lb = some (.tup []) ∧ Tr C H2 (.ref Lb) (.tuple []) := hqb ▸ mk_tup A1.al .nil hLb
    clear hqb
    have A2 := A1.kx k2
    refine fun Lc hLc => ?_
    generalize hqc : upd H2 Lc _ = H3
    obtain ⟨k3, e3, t3⟩ : Kx [] H2 H3 ∧ H3 Lc = some (.dK []) ∧ Tr C H3 (.ref Lc) (.dict []) := hqc ▸ mk_dic A2.al hLc
    clear hqc
    have A3 := A2.kx k3
    refine ⟨len_ok, fun O hO => ?_⟩
    generalize hqo : upd H3 O _ = H4
    obtain ⟨k4, e4⟩ := new_at hO hqo
    clear hqo
    have A4 := A3.kx k4
    have k04 : Kx [] H H4 := k1.trans (k2.trans (k3.trans k4))
    have ht4 := ht.up k04
    have T4 : TrAll C H4 [.non, .bl true, .bl false, .int 0, .int (-1), .str "", .str "1", .ref La, .ref Lb, .ref Lc, .int 10000, .int 12] [.none, .bool true, .bool false, .int 0, .int (-1), .str "", .str "1", .list [], .tuple [], .dict [], .int 10000, .int 12] :=
      .cons .non (.cons (.bl _) (.cons (.bl _) (.cons (.int _) (.cons (.int _) (.cons (.str _) (.cons (.str _) (.cons (t1.up (k2.trans (k3.trans k4))) (.cons (t2.up (k3.trans k4)) (.cons (t3.up k4) (.cons (.int _) (.cons (.int _) .nil)))))))))))
    refine ⟨v, rfl, v, .ty "int", _, _, _, rfl, .ty _, ht4.ty, kit_int d, _, rfl, ite2 (fun c => ?_) (fun c => ?_)⟩
    · obtain ⟨j, ej, hj, tx, es, hx, hd1, hd2⟩ : ∃ j, asI v = some j ∧ j.natAbs ≤ M + 1 ∧ ∃ tx, strB v = some tx ∧ (reprText tx).length ≤ 140 ∧ sz d ≤ 1 ∧ d.depth ≤ 0 := by
        cases ht with
        | int i =>
          have hi : i.natAbs ≤ M := hm.bd
          refine ⟨i, rfl, by omega, _, if_pos ?_, repr_int (by omega), Nat.le_refl _, Nat.le_refl _⟩
          exact PySem.Flt.log2_lt_of (by decide) (Nat.lt_of_le_of_lt (show i.natAbs ≤ 2 ^ 40 by omega) (by decide))
        | bl b =>
          refine ⟨if b = true then 1 else 0, rfl, by split <;> omega, _, rfl, ?_, Nat.le_refl _, Nat.le_refl _⟩
          cases b <;> decide +kernel
        | _ => cases c
      refine ⟨v, rfl, _, _, ej, rfl, v, rfl, _, _, ej, rfl, v, rfl, _, _, ej, rfl, v, rfl, _, _, ej, rfl, v, rfl, v, tx, rfl, es, v, rfl, len_ok, fun Ld hLd => ?_⟩
      generalize hqd : upd H4 Ld _ = H5
      obtain ⟨k5, e5, t5⟩ : Kx [] H4 H5 ∧ H5 Ld = some (.lst [v]) ∧ Tr C H5 (.ref Ld) (.list [d]) := hqd ▸ mk_lst A4.al (.cons ht4 .nil) hLd
      clear hqd
      have A5 := A4.kx k5
      refine ⟨_, rfl, v, rfl, _, _, rfl, ej, _, _, rfl, rfl, powW_ok (b := 4) (by decide) (by decide) (by decide) (by decide), len_ok, fun O2 hO2 => ?_⟩
      generalize hq6 : upd H5 O2 _ = H6
      obtain ⟨k6, e6⟩ := new_at hO2 hq6
      clear hq6
      have A6 := A5.kx k6
      have T6 : TrAll C H6 [.int (j + 1), .int (j - 1), .int (j + 1), .int (j - 1), .str tx, .ref Ld, .bl true, .non, .int (-1 - j), .int (10 ^ (9 : Int).toNat), .int 0, .int 999] [.int (j + 1), .int (j - 1), .int (j + 1), .int (j - 1), .str tx, .list [d], .bool true, .none, .int (-1 - j), .int (10 ^ (9 : Int).toNat), .int 0, .int 999] :=
        .cons (.int _) (.cons (.int _) (.cons (.int _) (.cons (.int _) (.cons (.str _) (.cons (t5.up k6) (.cons (.bl _) (.cons .non (.cons (.int _) (.cons (.int _) (.cons (.int _) (.cons (.int _) .nil)))))))))))
      refine ⟨_, rfl, .ref p, rfl, _, rfl, O2, _, rfl, .inl (SqL.of e6), p, _, 12, C, rfl, by decide, by decide, by omega, A6, fun r H7 r0 r1 k7 A7 => ?_⟩
      obtain ⟨x, dx, a1, a2, a3⟩ := pick (A6.trs T6 k7) r0 (by simpa using r1)
      refine ⟨O2, _, r, x, rfl, rfl, SqL.of (k7.lst (A5.nep hO2) e6), a1, q _ _ _ (k04.of.trans ((k5.trans k6).of.trans k7)) A7 a2 ?_⟩
      simp only [List.mem_cons, List.mem_singleton, List.not_mem_nil, or_false] at a3
      have up : ∀ {y}, Sm (L + 1) (M + 1000000000) 1 0 y → Sm (L + 1) (M + 1000000000) 2 1 y := fun h => h.mono (Nat.le_refl _) (Nat.le_refl _) (by decide) (by decide)
      rcases a3 with rfl | rfl | rfl | rfl | rfl | rfl | rfl | rfl | rfl | rfl | rfl | rfl
      · exact up (Sm.int (by omega))
      · exact up (Sm.int (by omega))
      · exact up (Sm.int (by omega))
      · exact up (Sm.int (by omega))
      · exact up (Sm.str hx)
      · refine Sm.mkList (by simp) (by simp only [szAll]; omega) (fun y hy => ?_) (by decide)
        rw [List.mem_singleton.mp hy]
        exact ⟨(hm.mono (Nat.le_succ L) (Nat.le_add_right M 1000000000) (Nat.le_refl S) (Nat.le_refl D)).bd, by omega⟩
      · exact up (Sm.bool _)
      · exact up Sm.none
      · exact up (Sm.int (by omega))
      · exact up (Sm.int (by have : (10 ^ (9 : Int).toNat : Int) = 1000000000 := by decide
                             omega))
      · exact up (Sm.int (by omega))
      · exact up (Sm.int (by omega))
    · refine ⟨_, rfl, .ref p, rfl, _, rfl, O, _, rfl, .inl (SqL.of e4), p, _, 12, C, rfl, by decide, by decide, by omega, A4, fun r H7 r0 r1 k7 A7 => ?_⟩
      obtain ⟨x, dx, a1, a2, a3⟩ := pick (A4.trs T4 k7) r0 (by simpa using r1)
      refine ⟨O, _, r, x, rfl, rfl, SqL.of (k7.lst (A3.nep hO) e4), a1, q _ _ _ (k04.of.trans k7) A7 a2 ?_⟩
      simp only [List.mem_cons, List.mem_singleton, List.not_mem_nil, or_false] at a3
      have up : ∀ {y}, Sm (L + 1) (M + 1000000000) 1 0 y → Sm (L + 1) (M + 1000000000) 2 1 y := fun h => h.mono (Nat.le_refl _) (Nat.le_refl _) (by decide) (by decide)
      have up1 : ∀ {y}, Sm (L + 1) (M + 1000000000) 1 1 y → Sm (L + 1) (M + 1000000000) 2 1 y := fun h => h.mono (Nat.le_refl _) (Nat.le_refl _) (by decide) (by decide)
      rcases a3 with rfl | rfl | rfl | rfl | rfl | rfl | rfl | rfl | rfl | rfl | rfl | rfl
      · exact up Sm.none
      · exact up (Sm.bool _)
      · exact up (Sm.bool _)
      · exact up (Sm.int (by omega))
      · exact up (Sm.int (by omega))
      · exact up (Sm.str (by decide +kernel))
      · exact up (Sm.str (by decide +kernel))
      · exact Sm.mkList (by simp) (by simp [szAll]) (fun y hy => by simp at hy) (by decide)
      · exact Sm.mkTuple (by simp) (by simp [szAll]) (fun y hy => by simp at hy) (by decide)
      · exact up1 Sm.dict
      · exact up (Sm.int (by omega))
      · exact up (Sm.int (by omega))
/-- the items of a list or tuple -/
theorem seqV {B : List Addr} {H : Hp} {v : V} {d : PyData} (t : Tr B H v d) (h : isSeq d = true) : ∃ a xs ds, v = .ref a ∧ ((H a = some (.lst xs) ∧ d = .list ds) ∨ (H a = some (.tup xs) ∧ d = .tuple ds)) ∧ TrAll B H xs ds := by
  cases t with
  | lst _ e l => exact ⟨_, _, _, rfl, .inl ⟨e, rfl⟩, l⟩
  | tup _ e l => exact ⟨_, _, _, rfl, .inr ⟨e, rfl⟩, l⟩
  | _ => cases h
theorem Sm.seq {L M S D : Nat} {d : PyData} {ds : List PyData} (h : Sm L M S D d) (e : d = .list ds ∨ d = .tuple ds) : ds.length ≤ L ∧ szAll ds + 1 ≤ S ∧ ∀ d ∈ ds, Bd L M d ∧ d.depth + 1 ≤ D := by
  rcases e with rfl | rfl
  · exact h.items
  · exact h.itemsT
theorem Bd.up {L M L' M' : Nat} {d : PyData} (h : Bd L M d) (hL : L ≤ L') (hM : M ≤ M') : Bd L' M' d := (Sm.mono ⟨h, Nat.le_refl _, Nat.le_refl _⟩ hL hM (Nat.le_refl (sz d)) (Nat.le_refl d.depth)).bd
def sp_law_bent_row (Ts : List Addr) : Sp := fun vs H Q _ => ∃ (p : Addr) (n : Nat) (C : List Addr) (v : V) (d : PyData) (L M S D : Nat), vs = [.ref p, v] ∧ n ≤ 800000000000 ∧ At Ts C p n H ∧ Tr C H v d ∧ isSeq d = true ∧ Sm L M S D d ∧ L ≤ 100000 ∧ Draws Ts C p n 3 (Sm (L + 1) (M + 1000000000) (2 * S + 1) (D + 1)) H Q
theorem ok__law_bent_row (Y : Facts K mg base fa fd ca ta) : FnOk P w K mg base CX0 2 (fa "_law_bent_row") (fd "_law_bent_row") ["purse", "thing"] (sp_law_bent_row (Ts ta)) := by
  refine Y.d__law_bent_row.ok sc__law_bent_row (fun vs H Q E h => ?_) (fun cdv A outer s H vs Q E hcd hr h => ?_)
  · obtain ⟨p, n, C, v, d, L, M, S, D, rfl, _⟩ := h; rfl
  · obtain ⟨p, n, C, v, d, L, M, S, D, rfl, hn, hA, ht, hs, hm, hL, q⟩ := h
    refine ⟨_, (pss_cons (ps_set (i := 2) sc__law_bent_row.nd rfl (by first | exact Or.inl rfl | exact Or.inr rfl) (pe_callTy (call_listK K rfl) (by rfl) Y.b.list (by decide +kernel) (pa_cons (pv 1) pa_nil)))
      (pss_cons (ps_set (i := 3) sc__law_bent_row.nd rfl (by first | exact Or.inl rfl | exact Or.inr rfl) (pe_call (ok__law_coin Y) (hr.mono (by decide)) (by rfl) Y.d__law_coin.g Y.d__law_coin.kp Y.d__law_coin.b .nil pass0 (pa_cons (pv 0) (pa_cons (pe_op op_add (pe_callB (call_lenK K rfl) (by rfl) Y.b.len (by decide +kernel) (pa_cons (pv 2) pa_nil)) pe_int) pa_nil))))
      (pss_cons (ps_set (i := 4) sc__law_bent_row.nd rfl (by first | exact Or.inl rfl | exact Or.inr rfl) (pe_lst (pa_cons pe_non (pa_cons pe_int (pa_cons pe_bl (pa_cons (pe_lst pa_nil) (pa_cons (pe_tup pa_nil) (pa_cons pe_str (pa_cons (pe_un un_neg pe_int) (pa_cons pe_int pa_nil))))))))))
      (pss_cons (ps_set (i := 5) sc__law_bent_row.nd rfl (by first | exact Or.inl rfl | exact Or.inr rfl) (pe_ix (ix_listK K rfl) (pv 4) (pe_call (ok__law_coin Y) (hr.mono (by decide)) (by rfl) Y.d__law_coin.g Y.d__law_coin.kp Y.d__law_coin.b .nil pass0 (pa_cons (pv 0) (pa_cons (pe_callB (call_lenK K rfl) (by rfl) Y.b.len (by decide +kernel) (pa_cons (pv 4) pa_nil)) pa_nil))) (fun _ _ => rfl)))
      (pss_cons (ps_set (i := 6) sc__law_bent_row.nd rfl (by first | exact Or.inl rfl | exact Or.inr rfl) (pe_lst (pa_cons (pe_op op_cat (pe_slice (sl_listK K rfl) (pv 2) po_none (po_some (pv 3))) (pe_slice (sl_listK K rfl) (pv 2) (po_some (pe_op op_add (pv 3) pe_int)) po_none)) (pa_cons (pe_op op_cat (pe_slice (sl_listK K rfl) (pv 2) po_none (po_some (pe_op op_add (pv 3) pe_int))) (pe_slice (sl_listK K rfl) (pv 2) (po_some (pv 3)) po_none)) (pa_cons (pe_op op_cat (pe_op op_cat (pe_slice (sl_listK K rfl) (pv 2) po_none (po_some (pv 3))) (pe_lst (pa_cons (pv 5) pa_nil))) (pe_slice (sl_listK K rfl) (pv 2) (po_some (pv 3)) po_none)) (pa_cons (pe_revLK (j := 0) K rfl (pv 2)) (pa_cons (pv 2) pa_nil)))))))
      (pss_cons (ps_set (i := 7) sc__law_bent_row.nd rfl (by first | exact Or.inl rfl | exact Or.inr rfl) (pe_call (ok__law_coin Y) (hr.mono (by decide)) (by rfl) Y.d__law_coin.g Y.d__law_coin.kp Y.d__law_coin.b .nil pass0 (pa_cons (pv 0) (pa_cons pe_int pa_nil))))
      (pss_one (ps_ret (pe_ifExp (pt_cmpR op_eq (pe_callB (call_isiK' K rfl) (by rfl) Y.b.isinstance (by decide +kernel) (pa_cons (pv 1) (pa_cons (pe_bltn (v := .ty "list") (by rfl) Y.b.list (by decide +kernel) rfl) pa_nil))) (pe_cmpR op_lt (pv 7) pe_int (nomark _)) (nomark _)) (pe_ix (ix_listK K rfl) (pv 6) (pv 7) (fun _ _ => rfl)) (pe_callTy (call_tupleK K rfl) (by rfl) Y.b.tuple (by decide +kernel) (pa_cons (pe_ix (ix_listK K rfl) (pv 6) (pv 7) (fun _ _ => rfl)) pa_nil))))))))))), ?_⟩
    obtain ⟨a, xs, ds, rfl, hx, txs⟩ := seqV ht hs
    have hlen := txs.length
    obtain ⟨b1, b2, b3⟩ := Sm.seq hm (hx.elim (fun z => .inl z.2) fun z => .inr z.2)
    have hx' : SqL K H a xs ∨ SqT K H a xs := hx.elim (fun z => .inl (SqL.of z.1)) fun z => .inr (SqT.of z.1)
    refine ⟨.ref a, rfl, a, xs, rfl, hx', fun La hLa => ?_⟩
    generalize hq : upd H La _ = H1
    obtain ⟨k1, e1, t1⟩ : Kx [] H H1 ∧ H1 La = some (.lst xs) ∧ Tr C H1 (.ref La) (.list ds) := hq ▸ mk_lst hA.al txs hLa
    clear hq
    have A1 := hA.kx k1
    refine ⟨.ref p, rfl, .ref La, rfl, La, xs, rfl, .inl (SqL.of e1), _, _, rfl, rfl, p, _, (xs.length : Int) + 1, C, rfl, by omega, by omega, by omega, A1, fun at_ H2 at0 at1 k2 A2 => ?_⟩
    obtain ⟨at', rfl⟩ : ∃ m : Nat, at_ = (m : Int) := ⟨at_.toNat, by omega⟩
    have e1' := k2.lst (hA.nep hLa) e1
    have t1' := A1.tr t1 k2
    refine ⟨len_ok, fun Lb hLb => ?_⟩
    generalize hq : upd H2 Lb _ = H3
    obtain ⟨k3, e3, t3⟩ : Kx [] H2 H3 ∧ H3 Lb = some (.lst []) ∧ Tr C H3 (.ref Lb) (.list []) := hq ▸ mk_lst A2.al .nil hLb
    clear hq
    have A3 := A2.kx k3
    refine ⟨len_ok, fun Lc hLc => ?_⟩
    generalize hq : upd H3 Lc _ = H4
    obtain ⟨k4, e4, t4⟩ : Kx [] H3 H4 ∧ H4 Lc = some (.tup []) ∧ Tr C H4 (.ref Lc) (.tuple []) := hq ▸ mk_tup A3.al .nil hLc
    clear hq
    have A4 := A3.kx k4
    refine ⟨_, rfl, len_ok, fun Ld hLd => ?_⟩
    generalize hq : upd H4 Ld _ = H5
    obtain ⟨k5, e5, t5⟩ : Kx [] H4 H5 ∧ H5 Ld = some (.lst [.non, .int 0, .bl true, .ref Lb, .ref Lc, .str "a", .int (-1), .int 1]) ∧ Tr C H5 (.ref Ld) (.list [.none, .int 0, .bool true, .list [], .tuple [], .str "a", .int (-1), .int 1]) := hq ▸ mk_lst A4.al (.cons .non (.cons (.int 0) (.cons (.bl true) (.cons (t3.up k4) (.cons t4 (.cons (.str "a") (.cons (.int (-1)) (.cons (.int 1) .nil)))))))) hLd
    clear hq
    have A5 := A4.kx k5
    refine ⟨.ref Ld, rfl, .ref p, rfl, .ref Ld, rfl, Ld, _, rfl, .inl (SqL.of e5), p, _, 8, C, rfl, by decide, by decide, by omega, A5, fun r H6 r0 r1 k6 A6 => ?_⟩
    obtain ⟨ys, ey, ty⟩ := (A5.tr t5 k6).items
    obtain ⟨odd, dod, a1, t_odd, a3⟩ := pick ty r0 (by have := ty.length; simp at this; omega)
    have s_odd : Sm (L + 1) (M + 1000000000) 1 1 dod := by
      have up : ∀ {y}, Sm (L + 1) (M + 1000000000) 1 0 y → Sm (L + 1) (M + 1000000000) 1 1 y := fun h => h.mono (Nat.le_refl _) (Nat.le_refl _) (by decide) (by decide)
      simp only [List.mem_cons, List.mem_singleton, List.not_mem_nil, or_false] at a3
      rcases a3 with rfl | rfl | rfl | rfl | rfl | rfl | rfl | rfl
      · exact up Sm.none
      · exact up (Sm.int (by omega))
      · exact up (Sm.bool _)
      · exact Sm.mkList (by simp) (by simp [szAll]) (fun y hy => by simp at hy) (by decide)
      · exact Sm.mkTuple (by simp) (by simp [szAll]) (fun y hy => by simp at hy) (by decide)
      · exact up (Sm.str (by decide +kernel))
      · exact up (Sm.int (by omega))
      · exact up (Sm.int (by omega))
    refine ⟨Ld, ys, r, odd, rfl, rfl, SqL.of ey, a1, ?_⟩
    have k26 : Kx [p] H2 H6 := (k3.trans (k4.trans k5)).of.trans k6
    obtain ⟨zs, ez, tz⟩ := (A2.tr t1' k26).items
    have e6 : H6 La = some (.lst xs) := k26.lst (hA.nep hLa) e1'
    rw [e6] at ez
    cases ez
    have tz6 := tz
    have e6_ := e6
    refine ⟨.ref La, rfl, .int at', rfl, _, rfl, La, xs, rfl, SqL.of e6_, fun S1 hS1 => ?_⟩
    generalize hq : upd H6 S1 _ = H7
    obtain ⟨k7, e7, t7⟩ : Kx [] H6 H7 ∧ H7 S1 = some (.lst (cutV xs none (some (at' : Int)))) ∧ Tr C H7 (.ref S1) (.list (ds.take at')) := hq ▸ mk_lst A6.al (by rw [cut_hi]; exact tz6.take at') hS1
    clear hq
    have A7 := A6.kx k7
    have tz7 := tz6.up k7
    have e7_ := k7.lst (by simp) e6_
    refine ⟨.ref La, rfl, .int at', rfl, _, _, rfl, rfl, _, rfl, La, xs, rfl, SqL.of e7_, fun S2 hS2 => ?_⟩
    generalize hq : upd H7 S2 _ = H8
    obtain ⟨k8, e8, t8⟩ : Kx [] H7 H8 ∧ H8 S2 = some (.lst (cutV xs (some ((at' : Int) + 1)) none)) ∧ Tr C H8 (.ref S2) (.list (ds.drop (at' + 1))) := hq ▸ mk_lst A7.al (by rw [cut_lo1]; exact tz7.drop (at' + 1)) hS2
    clear hq
    have A8 := A7.kx k8
    have tz8 := tz7.up k8
    have e8_ := k8.lst (by simp) e7_
    refine ⟨S1, S2, _, _, rfl, rfl, (k8.lst (by simp) e7), e8, (by have h1 := cutV_length xs none (some (at' : Int)); have h2 := cutV_length xs none (some ((at' : Int) + 1)); have h3 := cutV_length xs (some (at' : Int)) none; have h4 := cutV_length xs (some ((at' : Int) + 1)) none; unfold sizeLine; (try simp only [List.length_append, List.length_cons, List.length_nil]); omega), fun R1 hR1 => ?_⟩
    generalize hq : upd H8 R1 _ = H9
    obtain ⟨k9, e9, t9⟩ : Kx [] H8 H9 ∧ H9 R1 = some (.lst (cutV xs none (some (at' : Int)) ++ cutV xs (some ((at' : Int) + 1)) none)) ∧ Tr C H9 (.ref R1) (.list (ds.take at' ++ ds.drop (at' + 1))) := hq ▸ mk_lst A8.al (by rw [cut_hi, cut_lo1]; exact (tz8.take _).append (tz8.drop _)) hR1
    clear hq
    have A9 := A8.kx k9
    have tz9 := tz8.up k9
    have e9_ := k9.lst (by simp) e8_
    refine ⟨.ref La, rfl, .int at', rfl, _, _, rfl, rfl, _, rfl, La, xs, rfl, SqL.of e9_, fun S3 hS3 => ?_⟩
    generalize hq : upd H9 S3 _ = H10
    obtain ⟨k10, e10, t10⟩ : Kx [] H9 H10 ∧ H10 S3 = some (.lst (cutV xs none (some ((at' : Int) + 1)))) ∧ Tr C H10 (.ref S3) (.list (ds.take (at' + 1))) := hq ▸ mk_lst A9.al (by rw [cut_hi1]; exact tz9.take (at' + 1)) hS3
    clear hq
    have A10 := A9.kx k10
    have tz10 := tz9.up k10
    have e10_ := k10.lst (by simp) e9_
    refine ⟨.ref La, rfl, .int at', rfl, _, rfl, La, xs, rfl, SqL.of e10_, fun S4 hS4 => ?_⟩
    generalize hq : upd H10 S4 _ = H11
    obtain ⟨k11, e11, t11⟩ : Kx [] H10 H11 ∧ H11 S4 = some (.lst (cutV xs (some (at' : Int)) none)) ∧ Tr C H11 (.ref S4) (.list (ds.drop at')) := hq ▸ mk_lst A10.al (by rw [cut_lo]; exact tz10.drop at') hS4
    clear hq
    have A11 := A10.kx k11
    have tz11 := tz10.up k11
    have e11_ := k11.lst (by simp) e10_
    refine ⟨S3, S4, _, _, rfl, rfl, (k11.lst (by simp) e10), e11, (by have h1 := cutV_length xs none (some (at' : Int)); have h2 := cutV_length xs none (some ((at' : Int) + 1)); have h3 := cutV_length xs (some (at' : Int)) none; have h4 := cutV_length xs (some ((at' : Int) + 1)) none; unfold sizeLine; (try simp only [List.length_append, List.length_cons, List.length_nil]); omega), fun R2 hR2 => ?_⟩
    generalize hq : upd H11 R2 _ = H12
    obtain ⟨k12, e12, t12⟩ : Kx [] H11 H12 ∧ H12 R2 = some (.lst (cutV xs none (some ((at' : Int) + 1)) ++ cutV xs (some (at' : Int)) none)) ∧ Tr C H12 (.ref R2) (.list (ds.take (at' + 1) ++ ds.drop at')) := hq ▸ mk_lst A11.al (by rw [cut_hi1, cut_lo]; exact (tz11.take _).append (tz11.drop _)) hR2
    clear hq
    have A12 := A11.kx k12
    have tz12 := tz11.up k12
    have e12_ := k12.lst (by simp) e11_
    refine ⟨.ref La, rfl, .int at', rfl, _, rfl, La, xs, rfl, SqL.of e12_, fun S5 hS5 => ?_⟩
    generalize hq : upd H12 S5 _ = H13
    obtain ⟨k13, e13, t13⟩ : Kx [] H12 H13 ∧ H13 S5 = some (.lst (cutV xs none (some (at' : Int)))) ∧ Tr C H13 (.ref S5) (.list (ds.take at')) := hq ▸ mk_lst A12.al (by rw [cut_hi]; exact tz12.take at') hS5
    clear hq
    have A13 := A12.kx k13
    have tz13 := tz12.up k13
    have e13_ := k13.lst (by simp) e12_
    have to13 := t_odd.up (k7.trans (k8.trans (k9.trans (k10.trans (k11.trans (k12.trans k13))))))
    refine ⟨_, rfl, len_ok, fun O1 hO1 => ?_⟩
    generalize hq : upd H13 O1 _ = H14
    obtain ⟨k14, e14, t14⟩ : Kx [] H13 H14 ∧ H14 O1 = some (.lst [odd]) ∧ Tr C H14 (.ref O1) (.list [dod]) := hq ▸ mk_lst A13.al (.cons to13 .nil) hO1
    clear hq
    have A14 := A13.kx k14
    have tz14 := tz13.up k14
    have e14_ := k14.lst (by simp) e13_
    refine ⟨S5, O1, _, _, rfl, rfl, (k14.lst (by simp) e13), e14, (by have h1 := cutV_length xs none (some (at' : Int)); have h2 := cutV_length xs none (some ((at' : Int) + 1)); have h3 := cutV_length xs (some (at' : Int)) none; have h4 := cutV_length xs (some ((at' : Int) + 1)) none; unfold sizeLine; (try simp only [List.length_append, List.length_cons, List.length_nil]); omega), fun W hW => ?_⟩
    generalize hq : upd H14 W _ = H15
    obtain ⟨k15, e15, t15⟩ : Kx [] H14 H15 ∧ H15 W = some (.lst (cutV xs none (some (at' : Int)) ++ [odd])) ∧ Tr C H15 (.ref W) (.list (ds.take at' ++ [dod])) := hq ▸ mk_lst A14.al (by rw [cut_hi]; exact (tz14.take _).append (.cons (to13.up k14) .nil)) hW
    clear hq
    have A15 := A14.kx k15
    have tz15 := tz14.up k15
    have e15_ := k15.lst (by simp) e14_
    refine ⟨.ref La, rfl, .int at', rfl, _, rfl, La, xs, rfl, SqL.of e15_, fun S6 hS6 => ?_⟩
    generalize hq : upd H15 S6 _ = H16
    obtain ⟨k16, e16, t16⟩ : Kx [] H15 H16 ∧ H16 S6 = some (.lst (cutV xs (some (at' : Int)) none)) ∧ Tr C H16 (.ref S6) (.list (ds.drop at')) := hq ▸ mk_lst A15.al (by rw [cut_lo]; exact tz15.drop at') hS6
    clear hq
    have A16 := A15.kx k16
    have tz16 := tz15.up k16
    have e16_ := k16.lst (by simp) e15_
    refine ⟨W, S6, _, _, rfl, rfl, (k16.lst (by simp) e15), e16, (by have h1 := cutV_length xs none (some (at' : Int)); have h2 := cutV_length xs none (some ((at' : Int) + 1)); have h3 := cutV_length xs (some (at' : Int)) none; have h4 := cutV_length xs (some ((at' : Int) + 1)) none; unfold sizeLine; (try simp only [List.length_append, List.length_cons, List.length_nil]); omega), fun R3 hR3 => ?_⟩
    generalize hq : upd H16 R3 _ = H17
    obtain ⟨k17, e17, t17⟩ : Kx [] H16 H17 ∧ H17 R3 = some (.lst (cutV xs none (some (at' : Int)) ++ [odd] ++ cutV xs (some (at' : Int)) none)) ∧ Tr C H17 (.ref R3) (.list (ds.take at' ++ [dod] ++ ds.drop at')) := hq ▸ mk_lst A16.al (by rw [cut_hi, cut_lo]; exact ((tz16.take _).append (.cons (to13.up (k14.trans (k15.trans k16))) .nil)).append (tz16.drop _)) hR3
    clear hq
    have A17 := A16.kx k17
    have tz17 := tz16.up k17
    have e17_ := k17.lst (by simp) e16_
    refine ⟨.ref La, rfl, La, xs, rfl, SqL.of e17_, fun R4 hR4 => ?_⟩
    generalize hq : upd H17 R4 _ = H18
    obtain ⟨k18, e18, t18⟩ : Kx [] H17 H18 ∧ H18 R4 = some (.lst xs.reverse) ∧ Tr C H18 (.ref R4) (.list ds.reverse) := hq ▸ mk_lst A17.al tz17.reverse hR4
    clear hq
    have A18 := A17.kx k18
    have tz18 := tz17.up k18
    have e18_ := k18.lst (by simp) e17_
    refine ⟨_, rfl, len_ok, fun O hO => ?_⟩
    generalize hq : upd H18 O _ = H19
    obtain ⟨k19, e19, t19⟩ : Kx [] H18 H19 ∧ H19 O = some (.lst [.ref R1, .ref R2, .ref R3, .ref R4, .ref La]) ∧ Tr C H19 (.ref O) (.list [.list (ds.take at' ++ ds.drop (at' + 1)), .list (ds.take (at' + 1) ++ ds.drop at'), .list (ds.take at' ++ [dod] ++ ds.drop at'), .list ds.reverse, .list ds]) := hq ▸ mk_lst A18.al (.cons (t9.up (k10.trans (k11.trans (k12.trans (k13.trans (k14.trans (k15.trans (k16.trans (k17.trans k18))))))))) (.cons (t12.up (k13.trans (k14.trans (k15.trans (k16.trans (k17.trans k18)))))) (.cons (t17.up k18) (.cons t18 (.cons (.lst (hA.not hLa) e18_ tz18) .nil))))) hO
    clear hq
    have A19 := A18.kx k19
    refine ⟨.ref p, rfl, p, _, 5, C, rfl, by decide, by decide, by omega, A19, fun wy H20 w0 w1 k20 A20 => ?_⟩
    have kall : Kx [p] H H20 := k1.of.trans (k2.trans (k26.trans ((k7.trans (k8.trans (k9.trans (k10.trans (k11.trans (k12.trans (k13.trans (k14.trans (k15.trans (k16.trans (k17.trans (k18.trans k19)))))))))))).of.trans k20)))
    have ht20 := hA.tr ht kall
    obtain ⟨us, eu, tu⟩ := (A19.tr t19 k20).items
    obtain ⟨x, dx, a4, a5, a6⟩ := pick tu w0 (by have := tu.length; simp at this; omega)
    have good : ∃ es, dx = .list es ∧ es.length ≤ L + 1 ∧ szAll es + 1 ≤ 2 * S + 1 ∧ ∀ d ∈ es, Bd (L + 1) (M + 1000000000) d ∧ d.depth + 1 ≤ D + 1 := by
      have hb : ∀ d ∈ ds, Bd (L + 1) (M + 1000000000) d ∧ d.depth + 1 ≤ D + 1 := fun d hd => ⟨Bd.up (b3 d hd).1 (by omega) (by omega), by have := (b3 d hd).2; omega⟩
      have ho : Bd (L + 1) (M + 1000000000) dod ∧ dod.depth + 1 ≤ D + 1 := ⟨s_odd.bd, by
        have h1 := s_odd.dp
        have h2 : 1 ≤ D := by
          have := hm.dp
          rcases hx with z | z <;> (rw [z.2] at this; simp only [PyData.depth] at this; omega)
        omega⟩
      have so := s_odd.sz
      have z1 := szAll_take ds at'
      have z2 := szAll_take ds (at' + 1)
      have l1 : (ds.take at').length ≤ at' := List.length_take_le _ _
      simp only [List.mem_cons, List.mem_singleton, List.not_mem_nil, or_false] at a6
      rcases a6 with rfl | rfl | rfl | rfl | rfl
      · refine ⟨_, rfl, by simp only [List.length_append, List.length_take, List.length_drop]; omega, by rw [szAll_append]; omega, fun d hd => ?_⟩
        rcases List.mem_append.mp hd with z | z
        · exact hb d (List.mem_of_mem_take z)
        · exact hb d (List.mem_of_mem_drop z)
      · refine ⟨_, rfl, by simp only [List.length_append, List.length_take, List.length_drop]; omega, by rw [szAll_append]; omega, fun d hd => ?_⟩
        rcases List.mem_append.mp hd with z | z
        · exact hb d (List.mem_of_mem_take z)
        · exact hb d (List.mem_of_mem_drop z)
      · refine ⟨_, rfl, by simp only [List.length_append, List.length_take, List.length_drop, List.length_cons, List.length_nil]; omega, by rw [szAll_append, szAll_append]; simp only [szAll]; omega, fun d hd => ?_⟩
        rcases List.mem_append.mp hd with z | z
        · rcases List.mem_append.mp z with z | z
          · exact hb d (List.mem_of_mem_take z)
          · rw [List.mem_singleton.mp z]; exact ho
        · exact hb d (List.mem_of_mem_drop z)
      · exact ⟨_, rfl, by rw [List.length_reverse]; omega, by rw [szAll_reverse]; omega, fun d hd => hb d (List.mem_reverse.mp hd)⟩
      · exact ⟨_, rfl, by omega, by omega, hb⟩
    obtain ⟨es, rfl, g1, g2, g3⟩ := good
    refine ⟨.ref a, rfl, .ref a, .ty "list", _, _, _, rfl, .ty _, ht20.ty, kit_list d, _, rfl, _, _, rfl, rfl, rfl, _, rfl, ite2 (fun c => ?_) (fun c => ?_)⟩
    · exact ⟨_, rfl, _, rfl, O, us, wy, x, rfl, rfl, SqL.of eu, a4, q _ _ _ kall (A20.mono (by omega)) a5 (Sm.mkList g1 g2 g3 (by omega))⟩
    · obtain ⟨ax, xx, rfl, ex, tx⟩ := a5.listV
      refine ⟨_, rfl, _, rfl, O, us, wy, .ref ax, rfl, rfl, SqL.of eu, a4, ax, xx, rfl, .inl ⟨SqL.of ex, fun T hT => ?_⟩⟩
      obtain ⟨k21, e21, t21⟩ := mk_tup A20.al tx hT
      exact q _ _ _ (kall.trans k21.of) ((A20.kx k21).mono (by omega)) t21 (Sm.mkTuple g1 g2 g3 (by omega))
end
end Law

set_option Elab.async false
set_option linter.all false
set_option maxRecDepth 100000
set_option maxHeartbeats 4000000
namespace Law
open PySem PySem.Spec PyProof.Rows L2 GxR GX Tree Kit Data Loops Comps Purse Sets Small Ib
section
variable {P : Program} {w : World} {K : PySem.W.Frag} {mg : Str → Option Value} {base : Heap} {fa : String → Addr} {fd : String → FuncData} {ca ta : String → Addr}
theorem fn_false {k : Nat} {f : Addr} {fd : FuncData} {ps : List Str} : FnOk P w K mg base CX0 k f fd ps (fun _ _ _ _ => False) := ⟨fun _ _ _ _ h => h.elim, fun _ _ _ _ _ _ _ _ _ _ _ _ _ h => h.elim⟩
theorem kit_seq (d : PyData) : PySem.W.kitAny K (.type (tyD d)) [.type "list", .type "tuple"] = some (isSeq d) := by
  unfold PySem.W.kitAny
  rw [kit_list d]
  cases d with
  | list _ => rfl
  | tuple xs =>
    show PySem.W.kitAny K (.type (tyD (.tuple xs))) [.type "tuple"] = _
    unfold PySem.W.kitAny
    rw [kit_tuple]
    rfl
  | none => show PySem.W.kitAny K (.type (tyD .none)) [.type "tuple"] = _; unfold PySem.W.kitAny; rw [kit_tuple]; rfl
  | bool b => show PySem.W.kitAny K (.type (tyD (.bool b))) [.type "tuple"] = _; unfold PySem.W.kitAny; rw [kit_tuple]; rfl
  | int i => show PySem.W.kitAny K (.type (tyD (.int i))) [.type "tuple"] = _; unfold PySem.W.kitAny; rw [kit_tuple]; rfl
  | str x => show PySem.W.kitAny K (.type (tyD (.str x))) [.type "tuple"] = _; unfold PySem.W.kitAny; rw [kit_tuple]; rfl
  | dict x => show PySem.W.kitAny K (.type (tyD (.dict x))) [.type "tuple"] = _; unfold PySem.W.kitAny; rw [kit_tuple]; rfl
/-- a slice of a list or a tuple -/
theorem sliceE {H : Hp} {a : Addr} {xs : List V} {lo hi : Option Int} {Q : VK} (hx : H a = some (.lst xs) ∨ H a = some (.tup xs))
    (q : ∀ b H', Kx [] H H' → (SqL K H' b (cutV xs lo hi) ∨ SqT K H' b (cutV xs lo hi)) → Q (.ref b) H') : rSlL K (.ref a) lo hi H Q ∨ rSlA K (.ref a) lo hi H Q := by
  rcases hx with h | h
  · exact .inl ⟨a, xs, rfl, SqL.of h, fun p hp => q p _ (Kx.new hp) (.inl (SqL.of upd_same))⟩
  · refine .inr ⟨a, xs, rfl, SqT.of h, fun z => ?_, fun _ p hp => q p _ (Kx.new hp) (.inr (SqT.of upd_same))⟩
    have e : cutV xs lo hi = xs := by
      unfold cutV
      rw [z.1, z.2, List.drop_zero, Nat.sub_zero, List.take_length]
    exact q a H (Kx.refl H) (.inr (by rw [e]; exact SqT.of h))
def sp_law_bent (Ts : List Addr) (k : Nat) : Sp := fun vs H Q _ => ∃ (p : Addr) (n : Nat) (C : List Addr) (v : V) (d : PyData) (L M S : Nat), vs = [.ref p, v] ∧ n + 10 * (k + 1) ≤ 800000000000 ∧ At Ts C p n H ∧ Tr C H v d ∧ Sm L M S k d ∧ L ≤ 100000 ∧ M ≤ 50000000000 ∧ Draws Ts C p n (10 * (k + 1)) (Sm (L + 1) (M + 1000000000) (2 * S + 1) (k + 1)) H Q
theorem bent_step (Y : Facts K mg base fa fd ca ta) (k : Nat) (spR : Sp) (IH : FnOk P w K mg base CX0 (k + 3) (fa "_law_bent") (fd "_law_bent") ["purse", "thing"] spR) (hR : ∀ vs H Q E, 0 < k → sp_law_bent (Ts ta) (k - 1) vs H Q E → spR vs H Q E) :
    FnOk P w K mg base CX0 (k + 4) (fa "_law_bent") (fd "_law_bent") ["purse", "thing"] (sp_law_bent (Ts ta) k) := by
  refine Y.d__law_bent.ok sc__law_bent (fun vs H Q E h => ?_) (fun cdv A outer s H vs Q E hcd hr0 h => ?_)
  · obtain ⟨p, n, C, v, d, L, M, S, rfl, _⟩ := h; rfl
  · obtain ⟨p, n, C, v, d, L, M, S, rfl, hn, hA, ht, hm, hL, hM, q⟩ := h
    have hr : Room 3 (A.deeper (envOfC "_law_bent" (defScope s__law_bent) s.heap.objs.size (fa "_law_bent") cdv)) := hr0.mono (by omega)
    have hS : 1 ≤ S := Nat.le_trans (sz_pos d) hm.sz
    refine ⟨_, (pss_cons (ps_if (pt_not (pt_val (pe_callB (call_isiTK K rfl) (by rfl) Y.b.isinstance (by decide +kernel) (pa_cons (pv 1) (pa_cons (pe_tup (pa_cons (pe_bltn (v := .ty "list") (by rfl) Y.b.list (by decide +kernel) rfl) (pa_cons (pe_bltn (v := .ty "tuple") (by rfl) Y.b.tuple (by decide +kernel) rfl) pa_nil))) pa_nil))))) (pss_one (ps_ret (pe_call (ok__law_other Y) (hr.mono (by decide)) (by rfl) Y.d__law_other.g Y.d__law_other.kp Y.d__law_other.b .nil pass0 (pa_cons (pv 0) (pa_cons (pv 1) pa_nil))))) pss_nil)
      (pss_cons (ps_if ((pw_or (pt_cmpR op_eq (pe_callB (call_lenK K rfl) (by rfl) Y.b.len (by decide +kernel) (pa_cons (pv 1) pa_nil)) pe_int (nomark _)) (pw_or1 (pt_cmpR op_eq (pe_call (ok__law_coin Y) (hr.mono (by decide)) (by rfl) Y.d__law_coin.g Y.d__law_coin.kp Y.d__law_coin.b .nil pass0 (pa_cons (pv 0) (pa_cons pe_int pa_nil))) pe_int (nomark _))))).pt (pss_one (ps_ret (pe_call (ok__law_bent_row Y) (hr.mono (by decide)) (by rfl) Y.d__law_bent_row.g Y.d__law_bent_row.kp Y.d__law_bent_row.b .nil pass0 (pa_cons (pv 0) (pa_cons (pv 1) pa_nil))))) pss_nil)
      (pss_cons (ps_set (i := 2) sc__law_bent.nd rfl (by first | exact Or.inl rfl | exact Or.inr rfl) (pe_call (ok__law_coin Y) (hr.mono (by decide)) (by rfl) Y.d__law_coin.g Y.d__law_coin.kp Y.d__law_coin.b .nil pass0 (pa_cons (pv 0) (pa_cons (pe_callB (call_lenK K rfl) (by rfl) Y.b.len (by decide +kernel) (pa_cons (pv 1) pa_nil)) pa_nil))))
      (pss_cons (ps_set (i := 3) sc__law_bent.nd rfl (by first | exact Or.inl rfl | exact Or.inr rfl) (pe_op op_cat (pe_op op_cat (pe_callTy (call_listK K rfl) (by rfl) Y.b.list (by decide +kernel) (pa_cons (pe_slice ((sl_listK K rfl).or (sl_tupAK K rfl)) (pv 1) po_none (po_some (pv 2))) pa_nil)) (pe_lst (pa_cons (pe_call IH hr0 (by rfl) Y.d__law_bent.g Y.d__law_bent.kp Y.d__law_bent.b .nil pass0 (pa_cons (pv 0) (pa_cons (pe_ix ((ix_listK K rfl).or (ix_tupK K rfl)) (pv 1) (pv 2) (fun _ _ => rfl)) pa_nil))) pa_nil))) (pe_callTy (call_listK K rfl) (by rfl) Y.b.list (by decide +kernel) (pa_cons (pe_slice ((sl_listK K rfl).or (sl_tupAK K rfl)) (pv 1) (po_some (pe_op op_add (pv 2) pe_int)) po_none) pa_nil))))
      (pss_one (ps_ret (pe_ifExp (pt_val (pe_callB (call_isiK' K rfl) (by rfl) Y.b.isinstance (by decide +kernel) (pa_cons (pv 1) (pa_cons (pe_bltn (v := .ty "list") (by rfl) Y.b.list (by decide +kernel) rfl) pa_nil)))) (pv 3) (pe_callTy (call_tupleK K rfl) (by rfl) Y.b.tuple (by decide +kernel) (pa_cons (pv 3) pa_nil))))))))), ?_⟩
    refine ⟨v, rfl, len_ok, fun Tp hTp => ?_⟩
    generalize hq : upd H Tp _ = H1
    obtain ⟨k1, e1⟩ := new_at hTp hq
    clear hq
    have A1 := hA.kx k1
    have ht1 := ht.up k1
    refine ⟨v, Tp, _, _, _, _, rfl, e1, .cons (.ty "list") (.cons (.ty "tuple") .nil), ht1.ty, kit_seq d, _, rfl, ?_⟩
    cases hs : isSeq d with
    | false =>
      refine iteT ⟨.ref p, rfl, v, rfl, p, n, C, v, d, L, M, S, k, rfl, by omega, A1, ht1, hs, hm, hM, fun v' d' H' k2 A2 t2 g2 => ?_⟩
      exact q v' d' H' (k1.of.trans k2) (A2.mono (by omega)) t2 (g2.mono (Nat.le_refl _) (Nat.le_refl _) (by omega) (by omega))
    | true =>
      refine iteF ?_
      obtain ⟨a, xs, ds, rfl, hx, txs⟩ := seqV ht1 hs
      have hlen := txs.length
      obtain ⟨b1, b2, b3⟩ := Sm.seq hm (hx.elim (fun z => .inl z.2) fun z => .inr z.2)
      have hx' : SqL K H1 a xs ∨ SqT K H1 a xs := hx.elim (fun z => .inl (SqL.of z.1)) fun z => .inr (SqT.of z.1)
      have row : ∀ (n' : Nat) (H2 : Hp) (E' : XK), n' ≤ n + 1 → Kx [p] H1 H2 → At (Ts ta) C p n' H2 → sp_law_bent_row (Ts ta) [.ref p, .ref a] H2 Q E' := fun n' H2 E' hn' k2 A2 =>
        ⟨p, n', C, .ref a, d, L, M, S, k, rfl, by omega, A2, A1.tr ht1 k2, hs, hm, hL, fun v' d' H' k3 A3 t3 g3 => q v' d' H' (k1.of.trans (k2.trans k3)) (A3.mono (by omega)) t3 g3⟩
      refine ⟨.ref a, rfl, a, xs, rfl, hx', rfl, _, rfl, ite2 (fun _ => ?_) (fun c0 => ?_)⟩
      · exact ⟨.ref p, rfl, .ref a, rfl, row n H1 E0 (by omega) (Kx.refl _) A1⟩
      have hpos : 0 < xs.length := by
        rcases Nat.eq_zero_or_pos xs.length with z | z
        · rw [z] at c0
          exact absurd (decide_eq_true rfl) c0
        · exact z
      refine ⟨.ref p, rfl, p, n, 5, C, rfl, by decide, by decide, by omega, A1, fun r H2 r0 r1 k2 A2 => ⟨rfl, _, rfl, ite2 (fun _ => ?_) (fun _ => ?_)⟩⟩
      · exact ⟨.ref p, rfl, .ref a, rfl, row (n + 1) H2 E0 (by omega) k2 A2⟩
      have ht2 := A1.tr ht1 k2
      have np : a ∉ [p] := fun z => by
        rw [List.mem_singleton.mp z] at ht1
        exact ht1.out A1.mem
      have hx2 : (H2 a = some (.lst xs) ∧ d = .list ds) ∨ (H2 a = some (.tup xs) ∧ d = .tuple ds) := hx.elim (fun z => .inl ⟨k2.lst np z.1, z.2⟩) fun z => .inr ⟨k2.tup np z.1, z.2⟩
      have hx2' : SqL K H2 a xs ∨ SqT K H2 a xs := hx2.elim (fun z => .inl (SqL.of z.1)) fun z => .inr (SqT.of z.1)
      have txs2 := A1.trs txs k2
      refine ⟨.ref p, rfl, .ref a, rfl, a, xs, rfl, hx2', p, n + 1, (xs.length : Int), C, rfl, by omega, by omega, by omega, A2, fun at_ H3 at0 at1 k3 A3 => ?_⟩
      obtain ⟨at', rfl⟩ : ∃ m : Nat, at_ = (m : Int) := ⟨at_.toNat, by omega⟩
      have hx3 : (H3 a = some (.lst xs) ∧ d = .list ds) ∨ (H3 a = some (.tup xs) ∧ d = .tuple ds) := hx2.elim (fun z => .inl ⟨k3.lst np z.1, z.2⟩) fun z => .inr ⟨k3.tup np z.1, z.2⟩
      have txs3 := A2.trs txs2 k3
      -- list(thing[:at])
      refine ⟨.ref a, rfl, _, rfl, _, rfl, sliceE (hx3.elim (fun z => .inl z.1) fun z => .inr z.1) fun b1 H4 k4 h4 => ⟨b1, _, rfl, h4, fun L1 hL1 => ?_⟩⟩
      rw [cut_hi]
      have A4 := A3.kx k4
      generalize hq : upd H4 L1 _ = H5
      obtain ⟨k5, e5, t5⟩ : Kx [] H4 H5 ∧ H5 L1 = some (.lst (xs.take at')) ∧ Tr C H5 (.ref L1) (.list (ds.take at')) := hq ▸ mk_lst A4.al ((txs3.up k4).take at') hL1
      clear hq
      have A5 := A4.kx k5
      -- the item
      have hx5 : (H5 a = some (.lst xs) ∧ d = .list ds) ∨ (H5 a = some (.tup xs) ∧ d = .tuple ds) := hx3.elim (fun z => .inl ⟨k5.lst (by simp) (k4.lst (by simp) z.1), z.2⟩) fun z => .inr ⟨k5.tup (by simp) (k4.tup (by simp) z.1), z.2⟩
      have txs5 := txs3.up (k4.trans k5)
      have hlt : at' < ds.length := by omega
      obtain ⟨x, ex, tx⟩ := txs5.get' (List.getElem?_eq_getElem hlt)
      have hdx : ds[at'] ∈ ds := List.getElem_mem hlt
      have hk : 0 < k := by
        have := (b3 _ hdx).2
        omega
      refine ⟨.ref p, rfl, .ref a, rfl, _, rfl, ?_⟩
      have ix : ∀ Q' : VK, Q' x H5 → (rIxL K (.ref a) (.int (at' : Int)) H5 Q' ∨ rIxT K (.ref a) (.int (at' : Int)) H5 Q') := fun Q' h => hx5.elim (fun z => .inl ⟨a, xs, _, x, rfl, rfl, SqL.of z.1, atI_nat ex, h⟩) fun z => .inr ⟨a, xs, _, x, rfl, rfl, SqT.of z.1, atI_nat ex, h⟩
      refine ix _ (hR _ _ _ _ hk ⟨p, _, C, x, ds[at'], L, M, sz ds[at'], rfl, ?_, A5, tx, ⟨(b3 _ hdx).1, Nat.le_refl _, ?_⟩, hL, hM, fun v' d' H6 k6 A6 t6 g6 => ⟨len_ok, fun L2 hL2 => ?_⟩⟩)
      · omega
      · have := (b3 _ hdx).2
        omega
      generalize hq : upd H6 L2 _ = H7
      obtain ⟨k7, e7, t7⟩ : Kx [] H6 H7 ∧ H7 L2 = some (.lst [v']) ∧ Tr C H7 (.ref L2) (.list [d']) := hq ▸ mk_lst A6.al (.cons t6 .nil) hL2
      clear hq
      have A7 := A6.kx k7
      have t57 : TrAll C H7 (xs.take at') (ds.take at') := (A5.trs (txs5.take at') k6).up k7
      have e57 : H7 L1 = some (.lst (xs.take at')) := k7.lst (by simp) (k6.lst (A4.nep hL1) e5)
      refine ⟨L1, L2, _, _, rfl, rfl, e57, e7, ?_, fun L3 hL3 => ?_⟩
      · have := List.length_take_le at' xs
        unfold sizeLine
        simp only [List.length_cons, List.length_nil, List.length_take]
        omega
      generalize hq : upd H7 L3 _ = H8
      obtain ⟨k8, e8, t8⟩ : Kx [] H7 H8 ∧ H8 L3 = some (.lst (xs.take at' ++ [v'])) ∧ Tr C H8 (.ref L3) (.list (ds.take at' ++ [d'])) := hq ▸ mk_lst A7.al (t57.append (.cons (t6.up k7) .nil)) hL3
      clear hq
      have A8 := A7.kx k8
      have hx8 : H8 a = some (.lst xs) ∨ H8 a = some (.tup xs) := hx5.elim (fun z => .inl (k8.lst (by simp) (k7.lst (by simp) (k6.lst np z.1)))) fun z => .inr (k8.tup (by simp) (k7.tup (by simp) (k6.tup np z.1)))
      have txs8 := (A5.trs txs5 k6).up (k7.trans k8)
      -- list(thing[at + 1:])
      refine ⟨.ref a, rfl, _, rfl, _, _, rfl, rfl, _, rfl, sliceE hx8 fun b2 H9 k9 h9 => ⟨b2, _, rfl, h9, fun L4 hL4 => ?_⟩⟩
      rw [cut_lo1]
      have A9 := A8.kx k9
      generalize hq : upd H9 L4 _ = H10
      obtain ⟨k10, e10, t10⟩ : Kx [] H9 H10 ∧ H10 L4 = some (.lst (xs.drop (at' + 1))) ∧ Tr C H10 (.ref L4) (.list (ds.drop (at' + 1))) := hq ▸ mk_lst A9.al ((txs8.up k9).drop (at' + 1)) hL4
      clear hq
      have A10 := A9.kx k10
      refine ⟨L3, L4, _, _, rfl, rfl, k10.lst (by simp) (k9.lst (by simp) e8), e10, ?_, fun L5 hL5 => ?_⟩
      · unfold sizeLine
        simp only [List.length_append, List.length_cons, List.length_nil, List.length_take, List.length_drop]
        omega
      generalize hq : upd H10 L5 _ = H11
      have t10' := (((t57.append (.cons (t6.up k7) .nil)).up (k8.trans (k9.trans k10))).append ((txs8.up (k9.trans k10)).drop (at' + 1)))
      obtain ⟨k11, e11, t11⟩ : Kx [] H10 H11 ∧ H11 L5 = some (.lst (xs.take at' ++ [v'] ++ xs.drop (at' + 1))) ∧ Tr C H11 (.ref L5) (.list (ds.take at' ++ [d'] ++ ds.drop (at' + 1))) := hq ▸ mk_lst A10.al t10' hL5
      clear hq
      have A11 := A10.kx k11
      have kall : Kx [p] H H11 := k1.of.trans (k2.trans (k3.trans ((k4.trans k5).of.trans (k6.trans (k7.trans (k8.trans (k9.trans (k10.trans k11)))).of))))
      have ht11 := hA.tr ht kall
      have zs1 := szAll_take ds at'
      have zs2 : szAll (ds.drop at') = sz ds[at'] + szAll (ds.drop (at' + 1)) := by
        rw [List.drop_eq_getElem_cons hlt]
        rfl
      have g1 : (ds.take at' ++ [d'] ++ ds.drop (at' + 1)).length ≤ L + 1 := by
        simp only [List.length_append, List.length_cons, List.length_nil, List.length_take, List.length_drop]
        omega
      have g2 : szAll (ds.take at' ++ [d'] ++ ds.drop (at' + 1)) + 1 ≤ 2 * S + 1 := by
        rw [szAll_append, szAll_append]
        have := g6.sz
        simp only [szAll]
        omega
      have g3 : ∀ y ∈ ds.take at' ++ [d'] ++ ds.drop (at' + 1), Bd (L + 1) (M + 1000000000) y ∧ y.depth + 1 ≤ k + 1 := fun y hy => by
        have hb : ∀ y ∈ ds, Bd (L + 1) (M + 1000000000) y ∧ y.depth + 1 ≤ k + 1 := fun d hd => ⟨Bd.up (b3 d hd).1 (by omega) (by omega), by have := (b3 d hd).2; omega⟩
        rcases List.mem_append.mp hy with z | z
        · rcases List.mem_append.mp z with z | z
          · exact hb y (List.mem_of_mem_take z)
          · rw [List.mem_singleton.mp z]
            exact ⟨g6.bd, by have := g6.dp; omega⟩
        · exact hb y (List.mem_of_mem_drop z)
      have AA := A11.mono (show _ ≤ n + 10 * (k + 1) by omega)
      refine ⟨.ref a, rfl, .ref a, .ty "list", _, _, _, rfl, .ty _, ht11.ty, kit_list d, _, rfl, ite2 (fun c => ?_) (fun c => ?_)⟩
      · exact ⟨_, rfl, q _ _ _ kall AA t11 (Sm.mkList g1 g2 g3 (by omega))⟩
      · refine ⟨_, rfl, L5, _, rfl, .inl ⟨SqL.of e11, fun T hT => ?_⟩⟩
        obtain ⟨k12, e12, t12⟩ := mk_tup A11.al (t10'.up k11) hT
        exact q _ _ _ (kall.trans k12.of) (AA.kx k12) t12 (Sm.mkTuple g1 g2 g3 (by omega))
theorem bent_all (Y : Facts K mg base fa fd ca ta) : ∀ k, FnOk P w K mg base CX0 (k + 4) (fa "_law_bent") (fd "_law_bent") ["purse", "thing"] (sp_law_bent (Ts ta) k)
  | 0 => bent_step Y 0 (fun _ _ _ _ => False) fn_false (fun _ _ _ _ h => absurd h (Nat.lt_irrefl 0))
  | k + 1 => bent_step Y (k + 1) (sp_law_bent (Ts ta) k) (bent_all Y k) (fun _ _ _ _ _ h => h)
def sp_law_bent_any (Ts : List Addr) : Sp := fun vs H Q E => ∃ k, k ≤ 10 ∧ sp_law_bent Ts k vs H Q E
theorem ok__law_bent (Y : Facts K mg base fa fd ca ta) : FnOk P w K mg base CX0 14 (fa "_law_bent") (fd "_law_bent") ["purse", "thing"] (sp_law_bent_any (Ts ta)) :=
  ⟨fun vs H Q E ⟨k, _, h⟩ => (bent_all (P := P) (w := w) Y k).len vs H Q E h, fun A outer s H args us vs Q E hr e0 hb r ⟨k, hk, h⟩ => (bent_all Y k).run A outer s H args us vs Q E (hr.mono (by omega)) e0 hb r h⟩
end
end Law

set_option Elab.async false
set_option linter.all false
set_option maxRecDepth 100000
set_option maxHeartbeats 4000000
namespace Law
open PySem PySem.Spec PyProof.Rows L2 GxR GX Tree Kit Data Loops Comps Purse Sets Small Ib
section
variable {P : Program} {w : World} {K : PySem.W.Frag} {mg : Str → Option Value} {base : Heap} {fa : String → Addr} {fd : String → FuncData} {ca ta : String → Addr}
/-! ### the law's own look -/
def sp_law_whole : Sp := fun vs H Q _ => ∃ v d lo hi, vs = [v, .int lo, .int hi] ∧ Tr [] H v d ∧ ∀ H', Kx [] H H' → Q (.bl (isWh lo hi d)) H'
theorem ok__law_whole (Y : Facts K mg base fa fd ca ta) : FnOk P w K mg base CX0 1 (fa "_law_whole") (fd "_law_whole") ["thing", "low", "high"] sp_law_whole := by
  refine Y.d__law_whole.ok sc__law_whole (fun vs H Q E h => ?_) (fun cdv A outer s H vs Q E hcd hr h => ?_)
  · obtain ⟨v, d, lo, hi, rfl, _⟩ := h; rfl
  · obtain ⟨v, d, lo, hi, rfl, ht, q⟩ := h
    refine ⟨_, (pss_one (ps_ret (pe_and (pe_callB (call_isiK' K rfl) (by rfl) Y.b.isinstance (by decide +kernel) (pa_cons (pv 0) (pa_cons (pe_bltn (v := .ty "int") (by rfl) Y.b.int (by decide +kernel) rfl) pa_nil))) (pe_and (pe_not (pe_callB (call_isiK' K rfl) (by rfl) Y.b.isinstance (by decide +kernel) (pa_cons (pv 0) (pa_cons (pe_bltn (v := .ty "bool") (by rfl) Y.b.bool (by decide +kernel) rfl) pa_nil)))) (pe_one (pe_cmpR op_in_rng (pv 0) (pe_callTy cr_range2 (by rfl) Y.b.range (by decide +kernel) (pa_cons (pv 1) (pa_cons (pe_op op_add (pv 2) pe_int) pa_nil))) (by rfl))))))), ?_⟩
    refine ⟨v, rfl, v, .ty "int", _, _, _, rfl, .ty _, ht.ty, kit_int d, _, rfl, ite2 (fun c => ?_) (fun c => ?_)⟩
    · refine ⟨v, rfl, v, .ty "bool", _, _, _, rfl, .ty _, ht.ty, kit_bool d, ?_⟩
      cases ht with
      | int i =>
        refine ⟨_, rfl, _, rfl, iteT ⟨.int i, rfl, .int lo, rfl, .int hi, rfl, _, _, rfl, rfl, _, _, rfl, fun R hR => ⟨i, R, _, _, rfl, rfl, upd_same, ?_⟩⟩⟩
        have e : decide (lo ≤ i ∧ i < hi + 1) = isWh lo hi (.int i) := by
          show _ = (decide (lo ≤ i) && decide (i ≤ hi))
          rw [Bool.eq_iff_iff]
          simp only [decide_eq_true_eq, Bool.and_eq_true]
          omega
        rw [e]
        exact q _ (Kx.new hR)
      | bl b =>
        exact ⟨_, rfl, _, rfl, iteF (q H (Kx.refl H))⟩
      | _ => cases c
    · have e : isWh lo hi d = false := by cases d <;> first | rfl | exact absurd rfl c
      have := q H (Kx.refl H)
      rw [e] at this
      exact this
theorem notE {b : Bool} (h : ¬ b = true) : b = false := by simpa using h
theorem filter_not_nil {α : Type} (p : α → Bool) (l : List α) : (l.filter fun x => !p x).isEmpty = l.all p := by
  induction l with
  | nil => rfl
  | cons x r ih =>
    rw [List.filter_cons, List.all_cons]
    cases h : p x with
    | true => simpa [h] using ih
    | false => simp [h]
theorem trAll_empty {B : List Addr} {H : Hp} {ys : List V} {es : List PyData} (t : TrAll B H ys es) : ys.isEmpty = es.isEmpty := by
  cases t <;> rfl
def sp_law_each : Sp := fun vs H Q _ => ∃ v d lo hi, vs = [v, .int lo, .int hi] ∧ Tr [] H v d ∧ sz d ≤ 100000 ∧ ∀ H', Kx [] H H' → Q (.bl (listAll (isWh lo hi) d)) H'
theorem ok__law_each (Y : Facts K mg base fa fd ca ta) : FnOk P w K mg base CX0 2 (fa "_law_each") (fd "_law_each") ["things", "low", "high"] sp_law_each := by
  refine Y.d__law_each.ok sc__law_each (fun vs H Q E h => ?_) (fun cdv A outer s H vs Q E hcd hr h => ?_)
  · obtain ⟨v, d, lo, hi, rfl, _⟩ := h; rfl
  · obtain ⟨v, d, lo, hi, rfl, ht, hz, q⟩ := h
    refine ⟨_, (pss_one (ps_ret (pe_and (pe_callB (call_isiK' K rfl) (by rfl) Y.b.isinstance (by decide +kernel) (pa_cons (pv 0) (pa_cons (pe_bltn (v := .ty "list") (by rfl) Y.b.list (by decide +kernel) rfl) pa_nil))) (pe_one (pe_cmpR (op_eqNil hr.units0) (pe_lc (own := [("one", 3)]) (g := gName 3) rfl sc__law_each.nd (pi_listK K rfl (pv 0)) (blkOk_by (N := ["things", "low", "high", "one"]) (sc := defScope s__law_each) (by decide +kernel)) (fun _ _ _ _ _ => (pg_name (i := 3) sc__law_each.nd rfl (by first | exact Or.inl rfl | exact Or.inr rfl))) (fun _ _ _ _ _ => (pts_one (pt_not (pt_val (pe_call (ok__law_whole Y) (hr.mono (by decide)) (by rfl) Y.d__law_whole.g Y.d__law_whole.kp Y.d__law_whole.b .nil pass0 (pa_cons (pv 3) (pa_cons (pv 1) (pa_cons (pv 2) pa_nil)))))))) (fun _ _ _ _ _ => (pv 3))) (pe_lst pa_nil) (nomark _)))))), ?_⟩
    refine ⟨v, rfl, v, .ty "list", _, _, _, rfl, .ty _, ht.ty, kit_list d, _, rfl, ite2 (fun c => ?_) (fun c => ?_)⟩
    · cases ht with
      | lst n h l =>
        rename_i a xs ds
        have hl : ds.length < sizeLine := by
          have := szAll_len ds
          simp only [sz] at hz
          unfold sizeLine
          omega
        refine lc_use ⟨.ref a, rfl, a, rfl, ⟨xs, SqL.of h⟩, ?_⟩
        refine lc_filter (fun x => !isWh lo hi x) h l hl (fun x d H' hd t k R R0 hR hR0 => ?_) fun D ys H' k hD hd ty => ?_
        · refine ⟨rfl, x, rfl, .int lo, rfl, .int hi, rfl, x, d, lo, hi, rfl, t, fun H'' k2 => ?_⟩
          exact ⟨_, rfl, ite2 (fun c => ⟨x, rfl, hR c H'' k2⟩) (fun c => hR0 (notE c) H'' k2)⟩
        · refine ⟨len_ok, fun N hN => ⟨D, N, ys, rfl, rfl, (Kx.new (B := []) hN).lst (by simp) hd, upd_same, ?_⟩⟩
          have e : ys.isEmpty = listAll (isWh lo hi) (.list ds) := by
            rw [trAll_empty ty, filter_not_nil]
            rfl
          rw [e]
          exact q _ (k.trans (Kx.new hN))
      | _ => cases c
    · have e : listAll (isWh lo hi) d = false := by cases d <;> first | rfl | exact absurd rfl c
      have := q H (Kx.refl H)
      rw [e] at this
      exact this
def sp_law_is_sight : Sp := fun vs H Q _ => ∃ v d h cr, vs = [v, .int h, .int cr] ∧ Tr [] H v d ∧ sz d ≤ 100000 ∧ (∃ L M, Bd L M d ∧ L ≤ 60) ∧ ∀ H', Kx [] H H' → Q (.bl (sightB h cr d)) H'
theorem ok__law_is_sight (Y : Facts K mg base fa fd ca ta) : FnOk P w K mg base CX0 3 (fa "_law_is_sight") (fd "_law_is_sight") ["sight", "hours", "craft"] sp_law_is_sight := by
  refine Y.d__law_is_sight.ok sc__law_is_sight (fun vs H Q E h => ?_) (fun cdv A outer s H vs Q E hcd hr h => ?_)
  · obtain ⟨v, d, h, cr, rfl, _⟩ := h; rfl
  · obtain ⟨v, d, hh, cr, rfl, ht, hz, ⟨L, M, hb, hL⟩, q⟩ := h
    refine ⟨_, (pss_cons (ps_if ((pw_or (pt_not (pt_val (pe_callB (call_isiK' K rfl) (by rfl) Y.b.isinstance (by decide +kernel) (pa_cons (pv 0) (pa_cons (pe_bltn (v := .ty "list") (by rfl) Y.b.list (by decide +kernel) rfl) pa_nil))))) (pw_or1 (pt_cmpR op_ne (pe_callB (call_lenK K rfl) (by rfl) Y.b.len (by decide +kernel) (pa_cons (pv 0) pa_nil)) (pv 1) (nomark _))))).pt (pss_one (ps_ret pe_bl)) pss_nil)
      (pss_cons (ps_if (pt_cmpR (op_neNil hr.units0) (pe_lc (own := [("heard", 3)]) (g := gName 3) rfl sc__law_is_sight.nd (pi_listK K rfl (pv 0)) (blkOk_by (N := ["sight", "hours", "craft", "heard"]) (sc := defScope s__law_is_sight) (by decide +kernel)) (fun _ _ _ _ _ => (pg_name (i := 3) sc__law_is_sight.nd rfl (by first | exact Or.inl rfl | exact Or.inr rfl))) (fun _ _ _ _ _ => (pts_one (pt_not (pt_val (pe_call (ok__law_each Y) (hr.mono (by decide)) (by rfl) Y.d__law_each.g Y.d__law_each.kp Y.d__law_each.b .nil pass0 (pa_cons (pv 3) (pa_cons pe_int (pa_cons (pe_op op_sub (pv 2) pe_int) pa_nil)))))))) (fun _ _ _ _ _ => (pv 3))) (pe_lst pa_nil) (nomark _)) (pss_one (ps_ret pe_bl)) pss_nil)
      (pss_one (ps_ret (pe_cmpR (op_eqNil hr.units0) (pe_lc (own := [("heard", 3)]) (g := gName 3) rfl sc__law_is_sight.nd (pi_listK K rfl (pv 0)) (blkOk_by (N := ["sight", "hours", "craft", "heard"]) (sc := defScope s__law_is_sight) (by decide +kernel)) (fun _ _ _ _ _ => (pg_name (i := 3) sc__law_is_sight.nd rfl (by first | exact Or.inl rfl | exact Or.inr rfl))) (fun _ _ _ _ _ => (pts_one (pt_cmpR (op_neDK K rfl hr.units) (pv 3) (pe_callB (cr_sortedSetW w rfl rfl) (by rfl) Y.b.sorted (by decide +kernel) (pa_cons (pe_callTy (call_setL w rfl rfl) (by rfl) Y.b.set (by decide +kernel) (pa_cons (pv 3) pa_nil)) pa_nil)) (nomark _)))) (fun _ _ _ _ _ => (pv 3))) (pe_lst pa_nil) (nomark _)))))), ?_⟩
    refine ⟨v, rfl, v, .ty "list", _, _, _, rfl, .ty _, ht.ty, kit_list d, _, rfl, ite2 (fun c => ?_) (fun c => ?_)⟩
    · have c' : isiD "list" d = false := by simpa using c
      have e : sightB hh cr d = false := by cases d <;> first | rfl | exact absurd (c'.symm.trans rfl : false = true) Bool.false_ne_true
      have := q H (Kx.refl H)
      rw [e] at this
      exact this
    · cases ht with
      | lst n h l =>
        rename_i a xs ds
        have hlen := l.length
        have hl : ds.length < sizeLine := by
          have := szAll_len ds
          simp only [sz] at hz
          unfold sizeLine
          omega
        refine ⟨_, rfl, a, xs, rfl, .inl (SqL.of h), _, rfl, rfl, _, rfl, ite2 (fun c1 => ?_) (fun c1 => ?_)⟩
        · have e : sightB hh cr (.list ds) = false := by
            have : isLs hh hh (.list ds) = false := by
              show (decide (hh ≤ (ds.length : Int)) && decide ((ds.length : Int) ≤ hh)) = false
              rw [Bool.eq_false_iff]
              intro z
              simp only [Bool.and_eq_true, decide_eq_true_eq] at z
              rw [hlen, show hh = (ds.length : Int) by omega] at c1
              simp at c1
            unfold sightB
            rw [this, Bool.false_and]
          have := q H (Kx.refl H)
          rw [e] at this
          exact this
        have el : isLs hh hh (.list ds) = true := by
          have c1 := notE c1
          simp only [Bool.not_eq_false', decide_eq_true_eq] at c1
          have : (xs.length : Int) = hh := V.int.inj c1
          show (decide (hh ≤ (ds.length : Int)) && decide ((ds.length : Int) ≤ hh)) = true
          simp only [Bool.and_eq_true, decide_eq_true_eq]
          omega
        refine st_next ?_
        dsimp only
        refine st_seq (st_ifs (st_test (st_op (lc_use ?_))))
        refine ⟨.ref a, rfl, a, rfl, ⟨xs, SqL.of h⟩, ?_⟩
        refine lc_filter (fun x => !listAll (isWh 0 (cr - 1)) x) h l hl (fun x d H' hd t k R R0 hR hR0 => ?_) fun D ys H1 k1 hD hd ty => ?_
        · refine ⟨rfl, x, rfl, .int cr, rfl, _, _, rfl, rfl, x, d, 0, cr - 1, rfl, t, sz_in hd hz, fun H'' k2 => ?_⟩
          exact ⟨_, rfl, ite2 (fun c => ⟨x, rfl, hR c H'' k2⟩) (fun c => hR0 (notE c) H'' k2)⟩
        · refine ⟨len_ok, fun N hN => ⟨D, N, ys, rfl, rfl, (Kx.new (B := []) hN).lst (by simp) hd, upd_same, _, rfl, ?_⟩⟩
          have kN := k1.trans (Kx.new (o := .lst []) hN)
          have e : ys.isEmpty = ds.all (listAll (isWh 0 (cr - 1))) := by
            rw [trAll_empty ty, filter_not_nil]
          rw [e]
          refine ite2 (fun c2 => ?_) (fun c2 => ?_)
          · have e2 : sightB hh cr (.list ds) = false := by
              unfold sightB
              rw [el, Bool.true_and]
              show ds.all (heardB cr) = false
              rw [Bool.eq_false_iff]
              intro z
              have : ds.all (listAll (isWh 0 (cr - 1))) = true := List.all_eq_true.mpr fun y hy => by
                have := List.all_eq_true.mp z y hy
                cases y with
                | list zs =>
                  exact (Bool.and_eq_true_iff.mp this).1
                | _ => cases this
              rw [this] at c2
              cases c2
            have := q _ kN
            rw [e2] at this
            exact this
          · have c2 : ds.all (listAll (isWh 0 (cr - 1))) = true := by simpa using c2
            have hN2 := (kN.lst (by simp) h)
            generalize hq : upd H1 N (.lst []) = H2 at kN hN2 ⊢
            refine st_next ?_
            dsimp only
            refine st_ret (st_op (lc_use ?_))
            refine ⟨.ref a, rfl, a, rfl, ⟨xs, SqL.of hN2⟩, ?_⟩
            have heard : ∀ d ∈ ds, ∃ ns : List Int, d = .list (ns.map .int) ∧ ns.length ≤ 60 ∧ heardB cr d = risesB ns := fun d hd => by
              have h1 := List.all_eq_true.mp c2 d hd
              have h2 := (bdAll_iff.mp hb.2) d hd
              cases d with
              | list zs =>
                have h3 := all_ints h1
                have h4 := intsD_length zs
                have h5 : zs.length ≤ L := h2.1
                refine ⟨intsD zs, congrArg PyData.list h3, by omega, ?_⟩
                show (zs.all (isWh 0 (cr - 1)) && risesB (intsD zs)) = _
                rw [show zs.all (isWh 0 (cr - 1)) = true from h1, Bool.true_and]
              | _ => cases h1
            refine lc_filter (fun x => !heardB cr x) hN2 (l.up kN) hl (fun x d H' hd t k R R0 hR hR0 => ?_) fun D2 ys2 H3 k3 hD2 hd2 ty2 => ?_
            · obtain ⟨ns, rfl, h3, hB⟩ := heard d hd
              obtain ⟨b, us, rfl, eb, tb⟩ := t.listV
              have eu : us = ns.map V.int := by
                have := TrAll.intsV tb (by rw [intsD_map])
                rwa [intsD_map] at this
              rw [eu] at eb
              refine ⟨rfl, .ref b, rfl, .ref b, rfl, b, ns, rfl, eb, h3, fun S cc hcc hS => ?_⟩
              refine ⟨S, _, cc, rfl, upd_same, by omega, fun ms p hms hmem hml hp => ?_⟩
              have kS : Kx [] H' (upd (upd H' S (SetO w S (fun j => decide (j ∈ ns)) cc)) p (.lst (ms.map V.int))) := (Kx.new hS).trans (Kx.new hp)
              refine ⟨_, _, dp_ints (kS.lst (by simp) eb), dp_ints upd_same, shaped_ints ns, shaped_ints ms, _, rfl, ?_⟩
              rw [eqv_ints, sorted_eq hms (fun k => by rw [hmem k]; simp), ← hB]
              exact ite2 (fun c => ⟨.ref b, rfl, hR c _ kS⟩) (fun c => hR0 (notE c) _ kS)
            · refine ⟨len_ok, fun N2 hN2' => ⟨D2, N2, ys2, rfl, rfl, (Kx.new (B := []) hN2').lst (by simp) hd2, upd_same, ?_⟩⟩
              have e3 : ys2.isEmpty = sightB hh cr (.list ds) := by
                rw [trAll_empty ty2, filter_not_nil]
                unfold sightB
                rw [el, Bool.true_and]
                rfl
              rw [e3]
              exact q _ (kN.trans (k3.trans (Kx.new hN2')))
      | _ => exact absurd rfl c
theorem not_tuple {p : PyData → Bool} {d : PyData} (h : isiD "tuple" d = false) (hp : ∀ d, isTp 5 d = false → p d = false) : p d = false := hp d (by cases d <;> first | rfl | exact absurd (h.symm.trans rfl : false = true) Bool.false_ne_true)
theorem blockB_tp {h cr : Int} (d : PyData) (c : isTp 5 d = false) : blockB h cr d = false := by
  cases d with
  | tuple xs =>
    match xs with
    | [a, b, c', d', e'] => cases c
    | [] => rfl
    | [_] => rfl
    | [_, _] => rfl
    | [_, _, _] => rfl
    | [_, _, _, _] => rfl
    | _ :: _ :: _ :: _ :: _ :: _ :: _ => rfl
  | _ => rfl
theorem isDayB_tp (d : PyData) (c : isTp 5 d = false) : isDayB d = false := by
  cases d with
  | tuple xs =>
    match xs with
    | [a, b, c', d', e'] => cases c
    | [] => rfl
    | [_] => rfl
    | [_, _] => rfl
    | [_, _, _] => rfl
    | [_, _, _, _] => rfl
    | _ :: _ :: _ :: _ :: _ :: _ :: _ => rfl
  | _ => rfl
theorem len5 {n : Nat} (c : (!decide (V.int (n : Int) = V.int 5)) = true) : decide ((n : Int) = 5) = false := by
  refine decide_eq_false fun z => ?_
  rw [z] at c
  simp at c
theorem len5' {n : Nat} (c : ¬ (!decide (V.int (n : Int) = V.int 5)) = true) : (n : Int) = 5 := by
  have := notE c
  simp only [Bool.not_eq_false', decide_eq_true_eq] at this
  exact V.int.inj this
def sp_law_is_block : Sp := fun vs H Q _ => ∃ v d h cr, vs = [v, .int h, .int cr] ∧ Tr [] H v d ∧ ∀ H', Kx [] H H' → Q (.bl (blockB h cr d)) H'
theorem ok__law_is_block (Y : Facts K mg base fa fd ca ta) : FnOk P w K mg base CX0 2 (fa "_law_is_block") (fd "_law_is_block") ["block", "hours", "craft"] sp_law_is_block := by
  refine Y.d__law_is_block.ok sc__law_is_block (fun vs H Q E h => ?_) (fun cdv A outer s H vs Q E hcd hr h => ?_)
  · obtain ⟨v, d, h, cr, rfl, _⟩ := h; rfl
  · obtain ⟨v, d, hh, cr, rfl, ht, q⟩ := h
    refine ⟨_, (pss_cons (ps_if ((pw_or (pt_not (pt_val (pe_callB (call_isiK' K rfl) (by rfl) Y.b.isinstance (by decide +kernel) (pa_cons (pv 0) (pa_cons (pe_bltn (v := .ty "tuple") (by rfl) Y.b.tuple (by decide +kernel) rfl) pa_nil))))) (pw_or1 (pt_cmpR op_ne (pe_callB (call_lenK K rfl) (by rfl) Y.b.len (by decide +kernel) (pa_cons (pv 0) pa_nil)) pe_int (nomark _))))).pt (pss_one (ps_ret pe_bl)) pss_nil)
      (pss_cons (ps_asg (pv 0) (pg_tupK (n := 5) K rfl rfl (pgs_cons (pg_name (i := 3) sc__law_is_block.nd rfl (by first | exact Or.inl rfl | exact Or.inr rfl)) (pgs_cons (pg_name (i := 4) sc__law_is_block.nd rfl (by first | exact Or.inl rfl | exact Or.inr rfl)) (pgs_cons (pg_name (i := 5) sc__law_is_block.nd rfl (by first | exact Or.inl rfl | exact Or.inr rfl)) (pgs_cons (pg_name (i := 6) sc__law_is_block.nd rfl (by first | exact Or.inl rfl | exact Or.inr rfl)) (pgs_cons (pg_name (i := 7) sc__law_is_block.nd rfl (by first | exact Or.inl rfl | exact Or.inr rfl)) pgs_nil)))))))
      (pss_cons (ps_if ((pw_or (pt_not (pt_val (pe_call (ok__law_whole Y) (hr.mono (by decide)) (by rfl) Y.d__law_whole.g Y.d__law_whole.kp Y.d__law_whole.b .nil pass0 (pa_cons (pv 3) (pa_cons pe_int (pa_cons pe_int pa_nil)))))) (pw_or (pt_not (pt_val (pe_call (ok__law_whole Y) (hr.mono (by decide)) (by rfl) Y.d__law_whole.g Y.d__law_whole.kp Y.d__law_whole.b .nil pass0 (pa_cons (pv 4) (pa_cons pe_int (pa_cons (pe_op op_sub (pv 2) pe_int) pa_nil)))))) (pw_or1 (pt_not (pt_val (pe_call (ok__law_whole Y) (hr.mono (by decide)) (by rfl) Y.d__law_whole.g Y.d__law_whole.kp Y.d__law_whole.b .nil pass0 (pa_cons (pv 7) (pa_cons pe_int (pa_cons pe_int pa_nil)))))))))).pt (pss_one (ps_ret pe_bl)) pss_nil)
      (pss_one (ps_ret (pe_and (pe_call (ok__law_whole Y) (hr.mono (by decide)) (by rfl) Y.d__law_whole.g Y.d__law_whole.kp Y.d__law_whole.b .nil pass0 (pa_cons (pv 5) (pa_cons pe_int (pa_cons (pe_op op_sub (pv 1) pe_int) pa_nil)))) (pe_one (pe_or (pe_cmpR op_isN (pv 6) pe_non (nomark _)) (pe_one (pe_call (ok__law_whole Y) (hr.mono (by decide)) (by rfl) Y.d__law_whole.g Y.d__law_whole.kp Y.d__law_whole.b .nil pass0 (pa_cons (pv 6) (pa_cons (pv 5) (pa_cons (pe_op op_sub (pv 1) pe_int) pa_nil))))))))))))), ?_⟩
    have no : ∀ H', Kx [] H H' → blockB hh cr d = false → Q (.bl false) H' := fun H' k e => by
      have := q H' k
      rwa [e] at this
    refine ⟨v, rfl, v, .ty "tuple", _, _, _, rfl, .ty _, ht.ty, kit_tuple d, _, rfl, ite2 (fun c => ?_) (fun c => ?_)⟩
    · exact no H (Kx.refl H) (not_tuple (by simpa using c) blockB_tp)
    · cases ht with
      | tup m ha l =>
        rename_i a xs ds
        have hlen := l.length
        refine ⟨_, rfl, a, xs, rfl, .inr (SqT.of ha), rfl, _, rfl, ite2 (fun c1 => ?_) (fun c1 => ?_)⟩
        · exact no H (Kx.refl H) (blockB_tp _ (by rw [hlen] at c1; exact len5 c1))
        obtain ⟨ho, nu, re, du, wo, rfl⟩ := tuple5 (by rw [← hlen]; exact len5' c1)
        obtain ⟨v1, v2, v3, v4, v5, rfl, t1, t2, t3, t4, t5⟩ := TrAll.five l
        refine ⟨.ref a, rfl, a, _, rfl, SqT.of ha, rfl, v1, _, rfl, v2, _, rfl, v3, _, rfl, v4, _, rfl, v5, _, rfl, rfl, ?_⟩
        refine ⟨_, rfl, _, ho, 0, 5, rfl, t1, fun H1 k1 => ⟨_, rfl, ?_⟩⟩
        cases h1 : isWh 0 5 ho with
        | false => exact iteT (no _ k1 (by simp only [blockB, h1, Bool.false_and]))
        | true =>
        refine iteF ⟨_, rfl, _, rfl, _, _, rfl, rfl, _, nu, 0, cr - 1, rfl, t2.up k1, fun H2 k2 => ⟨_, rfl, ?_⟩⟩
        have k12 := k1.trans k2
        cases h2 : isWh 0 (cr - 1) nu with
        | false => exact iteT (no _ k12 (by simp only [blockB, h1, h2, Bool.false_and, Bool.and_false]))
        | true =>
        refine iteF ⟨_, rfl, _, wo, 1, 9999, rfl, t5.up k12, fun H3 k3 => ⟨_, rfl, ?_⟩⟩
        have k13 := k12.trans k3
        cases h5 : isWh 1 9999 wo with
        | false => exact iteT (no _ k13 (by simp only [blockB, h5, Bool.false_and, Bool.and_false]))
        | true =>
        refine iteF ⟨_, rfl, _, rfl, _, _, rfl, rfl, _, re, 0, hh - 1, rfl, t3.up k13, fun H4 k4 => ⟨_, rfl, ?_⟩⟩
        have k14 := k13.trans k4
        cases h3 : isWh 0 (hh - 1) re with
        | false => exact iteF (no _ k14 (by simp only [blockB, h3, Bool.false_and, Bool.and_false]))
        | true =>
        obtain ⟨r, rfl, _, _⟩ := isWh_int h3
        cases t3
        refine iteT ⟨_, rfl, rfl, _, rfl, ?_⟩
        rw [isNone_v t4]
        cases h4 : isNone du with
        | true =>
          have := q _ k14
          simp only [blockB, h1, h2, h3, h4, h5, Bool.true_and, Bool.true_or, Bool.and_true] at this
          exact iteT this
        | false =>
          refine iteF ⟨v4, rfl, _, rfl, _, rfl, _, _, rfl, rfl, v4, du, r, hh - 1, rfl, t4.up k14, fun H5 k5 => ?_⟩
          have := q _ (k14.trans k5)
          simp only [blockB, h1, h2, h3, h4, h5, Bool.true_and, Bool.false_or, Bool.and_true] at this
          exact this
      | _ => exact absurd rfl c
theorem st_not {t : TT} {σ : L2.St} {H : Hp} {Q : Bool → Hp → Prop} (h : t σ H fun c H1 => Q (!c) H1) : tNot t σ H Q := h
theorem st_b {t : TE} {σ : L2.St} {H : Hp} {Q : Bool → Hp → Prop} (h : t σ H fun x H1 => ∃ c, x = .bl c ∧ Q c H1) : tB t σ H Q := h
theorem st_call {sp : Sp} {dvs : List V} {E : XK} {t : TA} {σ : L2.St} {H : Hp} {Q : VK} (h : t σ H fun vs H1 => sp (vs ++ dvs) H1 Q E) : tCall sp dvs E t σ H Q := h
theorem szAll_filter (p : PyData → Bool) : ∀ ds : List PyData, szAll (ds.filter p) ≤ szAll ds
  | [] => Nat.le_refl _
  | d :: ds => by
    have ih := szAll_filter p ds
    rw [List.filter_cons]
    split <;> simp only [szAll] <;> omega
theorem all_filter {p : PyData → Bool} : ∀ ds : List PyData, (ds.filter fun x => !isNone x).all p = ds.all fun a => isNone a || p a
  | [] => rfl
  | d :: ds => by
    have ih := all_filter (p := p) ds
    rw [List.filter_cons, List.all_cons]
    cases h : isNone d with
    | true => simpa [h] using ih
    | false => simp only [Bool.not_false, if_true, List.all_cons, Bool.false_or, ih]
theorem in4 (n : Nat) : inV (.int (n : Int)) [.int 1, .int 2, .int 3, .int 4] = (decide (1 ≤ (n : Int)) && decide ((n : Int) ≤ 4)) := by
  rw [Bool.eq_iff_iff]
  simp [inV, eqV]
  omega
theorem in3 (n : Nat) : inV (.int (n : Int)) [.int 1, .int 2, .int 3] = (decide (1 ≤ (n : Int)) && decide ((n : Int) ≤ 3)) := by
  rw [Bool.eq_iff_iff]
  simp [inV, eqV]
  omega
theorem isi_list {d : PyData} (h : isiD "list" d = false) {lo hi : Int} : isLs lo hi d = false := by
  cases d <;> first | rfl | exact absurd (h.symm.trans rfl : false = true) Bool.false_ne_true
theorem isi_list' {d : PyData} (h : isiD "list" d = true) : ∃ ds, d = .list ds := by
  cases d with
  | list ds => exact ⟨ds, rfl⟩
  | _ => cases h
end
end Law

set_option Elab.async false
set_option linter.all false
set_option maxRecDepth 100000
set_option maxHeartbeats 4000000
namespace Law
open PySem PySem.Spec PyProof.Rows L2 GxR GX Tree Kit Data Loops Comps Purse Sets Small Ib
section
variable {P : Program} {w : World} {K : PySem.W.Frag} {mg : Str → Option Value} {base : Heap} {fa : String → Addr} {fd : String → FuncData} {ca ta : String → Addr}
def sp_law_is_day : Sp := fun vs H Q _ => ∃ v d, vs = [v] ∧ Tr [] H v d ∧ sz d ≤ 100000 ∧ (∃ L M, Bd L M d ∧ L ≤ 60) ∧ ∀ H', Kx [] H H' → Q (.bl (isDayB d)) H'
theorem ok__law_is_day (Y : Facts K mg base fa fd ca ta) : FnOk P w K mg base CX0 4 (fa "_law_is_day") (fd "_law_is_day") ["thing"] sp_law_is_day := by
  refine Y.d__law_is_day.ok sc__law_is_day (fun vs H Q E h => ?_) (fun cdv A outer s H vs Q E hcd hr h => ?_)
  · obtain ⟨v, d, rfl, _⟩ := h; rfl
  · obtain ⟨v, d, rfl, ht, hz, ⟨L, M, hb, hL⟩, q⟩ := h
    refine ⟨_, (pss_cons (ps_if ((pw_or (pt_not (pt_val (pe_callB (call_isiK' K rfl) (by rfl) Y.b.isinstance (by decide +kernel) (pa_cons (pv 0) (pa_cons (pe_bltn (v := .ty "tuple") (by rfl) Y.b.tuple (by decide +kernel) rfl) pa_nil))))) (pw_or (pt_cmpR op_ne (pe_callB (call_lenK K rfl) (by rfl) Y.b.len (by decide +kernel) (pa_cons (pv 0) pa_nil)) pe_int (nomark _)) (pw_or1 (pt_not (pt_val (pe_call (ok__law_whole Y) (hr.mono (by decide)) (by rfl) Y.d__law_whole.g Y.d__law_whole.kp Y.d__law_whole.b .nil pass0 (pa_cons (pe_ix (ix_tupK K rfl) (pv 0) pe_int (fun _ _ => rfl)) (pa_cons pe_int (pa_cons pe_int pa_nil)))))))))).pt (pss_one (ps_ret pe_bl)) pss_nil)
      (pss_cons (ps_asg (pv 0) (pg_tupK (n := 5) K rfl rfl (pgs_cons (pg_name (i := 1) sc__law_is_day.nd rfl (by first | exact Or.inl rfl | exact Or.inr rfl)) (pgs_cons (pg_name (i := 2) sc__law_is_day.nd rfl (by first | exact Or.inl rfl | exact Or.inr rfl)) (pgs_cons (pg_name (i := 3) sc__law_is_day.nd rfl (by first | exact Or.inl rfl | exact Or.inr rfl)) (pgs_cons (pg_name (i := 4) sc__law_is_day.nd rfl (by first | exact Or.inl rfl | exact Or.inr rfl)) (pgs_cons (pg_name (i := 5) sc__law_is_day.nd rfl (by first | exact Or.inl rfl | exact Or.inr rfl)) pgs_nil)))))))
      (pss_cons (ps_if ((pw_or (pt_not (pt_val (pe_call (ok__law_each Y) (hr.mono (by decide)) (by rfl) Y.d__law_each.g Y.d__law_each.kp Y.d__law_each.b .nil pass0 (pa_cons (pv 2) (pa_cons pe_int (pa_cons pe_int pa_nil)))))) (pw_or (pt_not (pt_val (pe_callB (call_isiK' K rfl) (by rfl) Y.b.isinstance (by decide +kernel) (pa_cons (pv 3) (pa_cons (pe_bltn (v := .ty "list") (by rfl) Y.b.list (by decide +kernel) rfl) pa_nil))))) (pw_or1 (pt_not (pt_val (pe_callB (call_isiK' K rfl) (by rfl) Y.b.isinstance (by decide +kernel) (pa_cons (pv 4) (pa_cons (pe_bltn (v := .ty "list") (by rfl) Y.b.list (by decide +kernel) rfl) pa_nil))))))))).pt (pss_one (ps_ret pe_bl)) pss_nil)
      (pss_cons (ps_if ((pw_or (pt_not (pt_val (pe_callB (call_isiK' K rfl) (by rfl) Y.b.isinstance (by decide +kernel) (pa_cons (pv 5) (pa_cons (pe_bltn (v := .ty "list") (by rfl) Y.b.list (by decide +kernel) rfl) pa_nil))))) (pw_or (pt_cmpR (op_notInK K rfl) (pe_callB (call_lenK K rfl) (by rfl) Y.b.len (by decide +kernel) (pa_cons (pv 2) pa_nil)) (pe_lst (pa_cons pe_int (pa_cons pe_int (pa_cons pe_int (pa_cons pe_int pa_nil))))) (by rfl)) (pw_or1 (pt_cmpR (op_notInK K rfl) (pe_callB (call_lenK K rfl) (by rfl) Y.b.len (by decide +kernel) (pa_cons (pv 3) pa_nil)) (pe_lst (pa_cons pe_int (pa_cons pe_int (pa_cons pe_int pa_nil)))) (by rfl)))))).pt (pss_one (ps_ret pe_bl)) pss_nil)
      (pss_cons (ps_if ((pw_or (pt_cmpR op_ne (pe_callB (call_lenK K rfl) (by rfl) Y.b.len (by decide +kernel) (pa_cons (pv 4) pa_nil)) (pe_callB (call_lenK K rfl) (by rfl) Y.b.len (by decide +kernel) (pa_cons (pv 3) pa_nil)) (nomark _)) (pw_or1 (pt_cmpR op_gt (pe_callB (call_lenK K rfl) (by rfl) Y.b.len (by decide +kernel) (pa_cons (pv 5) pa_nil)) pe_int (nomark _))))).pt (pss_one (ps_ret pe_bl)) pss_nil)
      (pss_cons (ps_if (pt_not (pt_val (pe_call (ok__law_each Y) (hr.mono (by decide)) (by rfl) Y.d__law_each.g Y.d__law_each.kp Y.d__law_each.b .nil pass0 (pa_cons (pe_lc (own := [("one", 8)]) (g := gName 8) rfl sc__law_is_day.nd (pi_listK K rfl (pv 4)) (blkOk_by (N := ["thing", "hours", "stores", "sights", "asks", "blocks", "sight", "block", "one"]) (sc := defScope s__law_is_day) (by decide +kernel)) (fun _ _ _ _ _ => (pg_name (i := 8) sc__law_is_day.nd rfl (by first | exact Or.inl rfl | exact Or.inr rfl))) (fun _ _ _ _ _ => (pts_one (pt_cmpR op_notN (pv 8) pe_non (nomark _)))) (fun _ _ _ _ _ => (pv 8))) (pa_cons pe_int (pa_cons pe_int pa_nil)))))) (pss_one (ps_ret pe_bl)) pss_nil)
      (pss_cons (ps_if (pt_cmpR (op_neNil hr.units0) (pe_lc (own := [("sight", 6)]) (g := gName 6) rfl sc__law_is_day.nd (pi_listK K rfl (pv 3)) (blkOk_by (N := ["thing", "hours", "stores", "sights", "asks", "blocks", "sight", "block", "one"]) (sc := defScope s__law_is_day) (by decide +kernel)) (fun _ _ _ _ _ => (pg_name (i := 6) sc__law_is_day.nd rfl (by first | exact Or.inl rfl | exact Or.inr rfl))) (fun _ _ _ _ _ => (pts_one (pt_not (pt_val (pe_call (ok__law_is_sight Y) (hr.mono (by decide)) (by rfl) Y.d__law_is_sight.g Y.d__law_is_sight.kp Y.d__law_is_sight.b .nil pass0 (pa_cons (pv 6) (pa_cons (pv 1) (pa_cons (pe_callB (call_lenK K rfl) (by rfl) Y.b.len (by decide +kernel) (pa_cons (pv 2) pa_nil)) pa_nil)))))))) (fun _ _ _ _ _ => (pv 6))) (pe_lst pa_nil) (nomark _)) (pss_one (ps_ret pe_bl)) pss_nil)
      (pss_one (ps_ret (pe_cmpR (op_eqNil hr.units0) (pe_lc (own := [("block", 7)]) (g := gName 7) rfl sc__law_is_day.nd (pi_listK K rfl (pv 5)) (blkOk_by (N := ["thing", "hours", "stores", "sights", "asks", "blocks", "sight", "block", "one"]) (sc := defScope s__law_is_day) (by decide +kernel)) (fun _ _ _ _ _ => (pg_name (i := 7) sc__law_is_day.nd rfl (by first | exact Or.inl rfl | exact Or.inr rfl))) (fun _ _ _ _ _ => (pts_one (pt_not (pt_val (pe_call (ok__law_is_block Y) (hr.mono (by decide)) (by rfl) Y.d__law_is_block.g Y.d__law_is_block.kp Y.d__law_is_block.b .nil pass0 (pa_cons (pv 7) (pa_cons (pv 1) (pa_cons (pe_callB (call_lenK K rfl) (by rfl) Y.b.len (by decide +kernel) (pa_cons (pv 2) pa_nil)) pa_nil)))))))) (fun _ _ _ _ _ => (pv 7))) (pe_lst pa_nil) (nomark _))))))))))), ?_⟩
    have no : ∀ H', Kx [] H H' → isDayB d = false → Q (.bl false) H' := fun H' k e => by
      have := q H' k
      rwa [e] at this
    refine ⟨v, rfl, v, .ty "tuple", _, _, _, rfl, .ty _, ht.ty, kit_tuple d, _, rfl, ite2 (fun c => ?_) (fun c => ?_)⟩
    · exact no H (Kx.refl H) (not_tuple (by simpa using c) isDayB_tp)
    · cases ht with
      | tup m ha l =>
        rename_i a xs ds
        have hlen := l.length
        refine ⟨_, rfl, a, xs, rfl, .inr (SqT.of ha), rfl, _, rfl, ite2 (fun c1 => ?_) (fun c1 => ?_)⟩
        · exact no H (Kx.refl H) (isDayB_tp _ (by rw [hlen] at c1; exact len5 c1))
        obtain ⟨ho, st, si, as, bl, rfl⟩ := tuple5 (by rw [← hlen]; exact len5' c1)
        obtain ⟨v1, v2, v3, v4, v5, rfl, t1, t2, t3, t4, t5⟩ := TrAll.five l
        have hbs := bdAll_iff.mp hb.2
        refine ⟨.ref a, rfl, a, _, 0, v1, rfl, rfl, SqT.of ha, rfl, v1, ho, 1, 10, rfl, t1, fun H1 k1 => ⟨_, rfl, ?_⟩⟩
        cases h1 : isWh 1 10 ho with
        | false => exact iteT (no _ k1 (by simp only [isDayB, h1, Bool.false_and]))
        | true =>
        obtain ⟨hh, rfl, _, _⟩ := isWh_int h1
        cases t1
        have ha1 := k1.tup (by simp) ha
        refine iteF ⟨.ref a, rfl, a, _, rfl, SqT.of ha1, rfl, _, _, rfl, v2, _, rfl, v3, _, rfl, v4, _, rfl, v5, _, rfl, rfl, ?_⟩
        -- the stores are whole numbers; sights, asks are lists
        refine ⟨_, rfl, v2, st, 0, 5, rfl, t2.up k1, sz_inT (by simp) hz, fun H2 k2 => ⟨_, rfl, ?_⟩⟩
        have k12 := k1.trans k2
        cases h2 : listAll (isWh 0 5) st with
        | false => exact iteT (no _ k12 (by simp only [isDayB, storesB, h2, Bool.false_and, Bool.and_false]))
        | true =>
        obtain ⟨sts, rfl⟩ : ∃ sts, st = .list sts := by
          cases st with
          | list sts => exact ⟨sts, rfl⟩
          | _ => cases h2
        refine iteF ⟨v3, rfl, v3, .ty "list", _, _, _, rfl, .ty _, (t3.up k12).ty, kit_list si, _, rfl, ?_⟩
        cases h3 : isiD "list" si with
        | false => exact iteT (no _ k12 (by simp only [isDayB, sightsB, isi_list h3, Bool.false_and, Bool.and_false]))
        | true =>
        obtain ⟨sis, rfl⟩ := isi_list' h3
        refine iteF ⟨v4, rfl, v4, .ty "list", _, _, _, rfl, .ty _, (t4.up k12).ty, kit_list as, _, rfl, ?_⟩
        cases h4 : isiD "list" as with
        | false => exact iteT (no _ k12 (by simp only [isDayB, asksB, isi_list h4, Bool.false_and, Bool.and_false]))
        | true =>
        obtain ⟨ass, rfl⟩ := isi_list' h4
        -- blocks is a list; how many
        refine iteF ⟨v5, rfl, v5, .ty "list", _, _, _, rfl, .ty _, (t5.up k12).ty, kit_list bl, _, rfl, ?_⟩
        cases h5 : isiD "list" bl with
        | false => exact iteT (no _ k12 (by simp only [isDayB, blocksB, isi_list h5, Bool.false_and, Bool.and_false]))
        | true =>
        obtain ⟨bls, rfl⟩ := isi_list' h5
        obtain ⟨a2, x2, rfl, e2, l2⟩ := t2.listV
        obtain ⟨a3, x3, rfl, e3, l3⟩ := t3.listV
        obtain ⟨a4, x4, rfl, e4, l4⟩ := t4.listV
        obtain ⟨a5, x5, rfl, e5, l5⟩ := t5.listV
        have n2 := l2.length
        have n3 := l3.length
        have n4 := l4.length
        have n5 := l5.length
        refine iteF ⟨.ref a2, rfl, a2, x2, rfl, .inl (SqL.of (k12.lst (by simp) e2)), len_ok, fun N1 hN1 => ?_⟩
        have kN1 := k12.trans (Kx.new (o := .lst [.int 1, .int 2, .int 3, .int 4]) hN1)
        refine ⟨N1, _, rfl, .inl (SqL.of upd_same), rfl, rfl, _, rfl, ?_⟩
        rw [if_pos rfl, in4]
        cases h6 : (decide (1 ≤ (x2.length : Int)) && decide ((x2.length : Int) ≤ 4)) with
        | false => exact iteT (no _ kN1 (by rw [n2] at h6; simp only [isDayB, storesB, isLs, h6, Bool.false_and, Bool.and_false]))
        | true =>
        refine iteF ⟨.ref a3, rfl, a3, x3, rfl, .inl (SqL.of (kN1.lst (by simp) e3)), len_ok, fun N2 hN2 => ?_⟩
        generalize hq : upd _ N2 _ = H3
        have kN2 : Kx [] H H3 := hq ▸ kN1.trans (Kx.new (o := .lst [.int 1, .int 2, .int 3]) hN2)
        have eN2 : H3 N2 = some (.lst [.int 1, .int 2, .int 3]) := hq ▸ upd_same
        clear hq
        refine ⟨N2, _, rfl, .inl (SqL.of eN2), rfl, rfl, _, rfl, ?_⟩
        rw [if_pos rfl, in3]
        cases h7 : (decide (1 ≤ (x3.length : Int)) && decide ((x3.length : Int) ≤ 3)) with
        | false => exact iteT (no _ kN2 (by rw [n3] at h7; simp only [isDayB, sightsB, isLs, h7, Bool.false_and, Bool.and_false]))
        | true =>
        refine iteF ⟨.ref a4, rfl, a4, x4, rfl, .inl (SqL.of (kN2.lst (by simp) e4)), .ref a3, rfl, a3, x3, rfl, .inl (SqL.of (kN2.lst (by simp) e3)), rfl, _, rfl, ?_⟩
        cases h8 : decide (V.int (x4.length : Int) = V.int (x3.length : Int)) with
        | false =>
          have n34 : ¬ (ass.length : Int) = (sis.length : Int) := fun z => by
            have := of_decide_eq_false h8
            rw [n3, n4, z] at this
            exact this rfl
          have ea : isLs (sis.length : Int) (sis.length : Int) (.list ass) = false := by
            show (decide ((sis.length : Int) ≤ (ass.length : Int)) && decide ((ass.length : Int) ≤ (sis.length : Int))) = false
            rw [Bool.eq_false_iff]
            intro z
            simp only [Bool.and_eq_true, decide_eq_true_eq] at z
            omega
          exact iteT (no _ kN2 (by simp only [isDayB, asksB, lenD, ea, Bool.false_and, Bool.and_false]))
        | true =>
        have n34 : (ass.length : Int) = (sis.length : Int) := by
          have := V.int.inj (of_decide_eq_true h8)
          omega
        have ea : isLs (sis.length : Int) (sis.length : Int) (.list ass) = true := by
          show (decide ((sis.length : Int) ≤ (ass.length : Int)) && decide ((ass.length : Int) ≤ (sis.length : Int))) = true
          simp only [Bool.and_eq_true, decide_eq_true_eq]
          omega
        refine iteF ⟨.ref a5, rfl, a5, x5, rfl, .inl (SqL.of (kN2.lst (by simp) e5)), _, _, rfl, rfl, _, rfl, ?_⟩
        cases h9 : decide ((14 : Int) < (x5.length : Int)) with
        | true =>
          have eb : isLs 0 14 (.list bls) = false := by
            have := of_decide_eq_true h9
            show (decide ((0 : Int) ≤ (bls.length : Int)) && decide ((bls.length : Int) ≤ 14)) = false
            rw [Bool.eq_false_iff]
            intro z
            simp only [Bool.and_eq_true, decide_eq_true_eq] at z
            omega
          exact iteT (no _ kN2 (by simp only [isDayB, blocksB, eb, Bool.false_and, Bool.and_false]))
        | false =>
        have eb : isLs 0 14 (.list bls) = true := by
          have := of_decide_eq_false h9
          show (decide ((0 : Int) ≤ (bls.length : Int)) && decide ((bls.length : Int) ≤ 14)) = true
          simp only [Bool.and_eq_true, decide_eq_true_eq]
          omega
        have szs : szAll sts + szAll sis + szAll ass + szAll bls ≤ 90000 ∨ True := .inr trivial
        have zA : sz (.list ass) ≤ 100000 := sz_inT (by simp) hz
        have zS : sz (.list sis) ≤ 100000 := sz_inT (by simp) hz
        have zB : sz (.list bls) ≤ 100000 := sz_inT (by simp) hz
        have small : ∀ {xs : List PyData}, sz (.list xs) ≤ 100000 → xs.length < sizeLine := fun {xs} h => by
          have := szAll_len xs
          simp only [sz] at h
          unfold sizeLine
          omega
        -- the asks
        refine iteF ?_
        refine st_next ?_
        dsimp only
        refine st_seq (st_ifs (st_not (st_b (st_call (st_cons (lc_use ?_))))))
        refine ⟨.ref a4, rfl, a4, rfl, ⟨x4, SqL.of (kN2.lst (by simp) e4)⟩, ?_⟩
        refine lc_filter (fun x => !isNone x) (kN2.lst (by simp) e4) (l4.up kN2) (small zA) (fun x d H' hd t k R R0 hR hR0 => ?_) fun D ys H4 k4 hD hdd ty => ?_
        · refine ⟨rfl, x, rfl, rfl, _, rfl, ?_⟩
          rw [isNone_v t]
          exact ite2 (fun c => ⟨x, rfl, hR c H' (Kx.refl _)⟩) (fun c => hR0 (notE c) H' (Kx.refl _))
        have kk4 := kN2.trans k4
        refine ⟨_, .list (ass.filter fun x => !isNone x), 0, 999, rfl, .lst (by simp) hdd ty, ?_, fun H5 k5 => ⟨_, rfl, ?_⟩⟩
        · have := szAll_filter (fun x => !isNone x) ass
          simp only [sz] at zA ⊢
          omega
        have kk5 := kk4.trans k5
        have eA : listAll (isWh 0 999) (.list (ass.filter fun x => !isNone x)) = listAll (fun a => isNone a || isWh 0 999 a) (.list ass) := all_filter ass
        rw [eA]
        cases hA : listAll (fun a => isNone a || isWh 0 999 a) (.list ass) with
        | false => exact iteT (no _ kk5 (by simp only [isDayB, asksB, hA, Bool.false_and, Bool.and_false]))
        | true =>
        -- the sights
        refine iteF ?_
        refine st_next ?_
        dsimp only
        refine st_seq (st_ifs (st_test (st_op (lc_use ?_))))
        refine ⟨.ref a3, rfl, a3, rfl, ⟨x3, SqL.of (kk5.lst (by simp) e3)⟩, ?_⟩
        refine lc_filter (fun x => !sightB hh (x2.length : Int) x) (kk5.lst (by simp) e3) (l3.up kk5) (small zS) (fun x d H' hd t k R R0 hR hR0 => ?_) fun D2 ys2 H6 k6 hD2 hdd2 ty2 => ?_
        · refine ⟨rfl, x, rfl, .int hh, rfl, .ref a2, rfl, a2, x2, rfl, .inl (SqL.of ((kk5.trans k).lst (by simp) e2)), x, d, hh, (x2.length : Int), rfl, t, sz_in hd zS, ⟨L, M, bdAll_iff.mp (hbs (.list sis) (by simp)).2 d hd, hL⟩, fun H'' k2 => ?_⟩
          exact ⟨_, rfl, ite2 (fun c => ⟨x, rfl, hR c H'' k2⟩) (fun c => hR0 (notE c) H'' k2)⟩
        have kk6 := kk5.trans k6
        refine ⟨len_ok, fun N3 hN3 => ⟨D2, N3, ys2, rfl, rfl, (Kx.new (B := []) hN3).lst (by simp) hdd2, upd_same, _, rfl, ?_⟩⟩
        have kk7 := kk6.trans (Kx.new (o := .lst []) hN3)
        generalize upd H6 N3 (.lst []) = H7 at kk7 ⊢
        have eS : ys2.isEmpty = listAll (sightB hh (x2.length : Int)) (.list sis) := by
          rw [trAll_empty ty2, filter_not_nil]
          rfl
        rw [eS]
        cases hS : listAll (sightB hh (x2.length : Int)) (.list sis) with
        | false => exact iteT (no _ kk7 (by rw [n2] at hS; simp only [isDayB, sightsB, lenD, intOf, hS, Bool.false_and, Bool.and_false]))
        | true =>
        -- the blocks
        refine iteF ?_
        refine st_next ?_
        dsimp only
        refine st_ret (st_op (lc_use ?_))
        refine ⟨.ref a5, rfl, a5, rfl, ⟨x5, SqL.of (kk7.lst (by simp) e5)⟩, ?_⟩
        refine lc_filter (fun x => !blockB hh (x2.length : Int) x) (kk7.lst (by simp) e5) (l5.up kk7) (small zB) (fun x d H' hd t k R R0 hR hR0 => ?_) fun D3 ys3 H8 k8 hD3 hdd3 ty3 => ?_
        · refine ⟨rfl, x, rfl, .int hh, rfl, .ref a2, rfl, a2, x2, rfl, .inl (SqL.of ((kk7.trans k).lst (by simp) e2)), x, d, hh, (x2.length : Int), rfl, t, fun H'' k2 => ?_⟩
          exact ⟨_, rfl, ite2 (fun c => ⟨x, rfl, hR c H'' k2⟩) (fun c => hR0 (notE c) H'' k2)⟩
        refine ⟨len_ok, fun N4 hN4 => ⟨D3, N4, ys3, rfl, rfl, (Kx.new (B := []) hN4).lst (by simp) hdd3, upd_same, ?_⟩⟩
        have eB : ys3.isEmpty = listAll (blockB hh (x2.length : Int)) (.list bls) := by
          rw [trAll_empty ty3, filter_not_nil]
          rfl
        have fin := q _ ((kk7.trans k8).trans (Kx.new (o := .lst []) hN4))
        have e0 : isDayB (.tuple [.int hh, .list sts, .list sis, .list ass, .list bls]) = listAll (blockB hh (x2.length : Int)) (.list bls) := by
          rw [n2] at h6 hS ⊢
          rw [n3] at h7
          have h6' : isLs 1 4 (.list sts) = true := h6
          have h7' : isLs 1 3 (.list sis) = true := h7
          simp only [isDayB, storesB, sightsB, asksB, blocksB, lenD, intOf, h1, h2, h6', h7', hS, hA, ea, eb, Bool.true_and]
        rw [e0] at fin
        rw [eB]
        exact fin
      | _ => exact absurd rfl c
end
end Law

set_option Elab.async false
set_option linter.all false
set_option maxRecDepth 100000
set_option maxHeartbeats 4000000
namespace Law
open PySem PySem.Spec PyProof.Rows L2 GxR GX Tree Kit Data Loops Comps Purse Sets Small Ib Lit
section
variable {P : Program} {w : World} {K : PySem.W.Frag} {mg : Str → Option Value} {base : Heap} {fa : String → Addr} {fd : String → FuncData} {ca ta : String → Addr}
/-! ### days near a bound -/
theorem mem_pad {ds : List PyData} {x d : PyData} {n k : Nat} (h : d ∈ (ds ++ (List.replicate n [x]).flatten).take k) : d ∈ ds ∨ d = x := by
  rcases List.mem_append.mp (List.mem_of_mem_take h) with z | z
  · exact .inl z
  · obtain ⟨l, h1, h2⟩ := List.mem_flatten.mp z
    rw [(List.mem_replicate.mp h1).2] at h2
    exact .inr (List.mem_singleton.mp h2)
/-- what holds of all things -/
abbrev Ok (d : PyData) : Prop := Sm 60 10000000000 2000 9 d
theorem near_sm {hh : Int} {sts sis ask bls : List PyData} (h : hh.natAbs ≤ 1000000) (l1 : sts.length ≤ 5) (l2 : sis.length ≤ 4) (l3 : ask.length ≤ 4) (l4 : bls.length ≤ 15)
    (g1 : ∀ d ∈ sts, Sm 20 1000000 1 0 d) (g2 : ∀ d ∈ sis, Sm 20 1000000 51 2 d) (g3 : ∀ d ∈ ask, Sm 20 1000000 1 0 d) (g4 : ∀ d ∈ bls, Sm 20 1000000 6 1 d) : Sm 20 1000000 400 4 (.tuple [.int hh, .list sts, .list sis, .list ask, .list bls]) := by
  have h1 := Sm.list g1 l1 (by decide)
  have h2 := Sm.list g2 l2 (by decide)
  have h3 := Sm.list g3 l3 (by decide)
  have h4 := Sm.list g4 l4 (by decide)
  have h0 : Sm 20 1000000 1 0 (.int hh) := Sm.int h
  refine Sm.mkTuple (by simp) ?_ (fun d hd => ?_) (by decide)
  · have := h1.sz
    have := h2.sz
    have := h3.sz
    have := h4.sz
    have := h0.sz
    simp only [szAll]
    omega
  · simp only [List.mem_cons, List.mem_singleton, List.not_mem_nil, or_false] at hd
    rcases hd with rfl | rfl | rfl | rfl | rfl
    · exact ⟨h0.bd, by have := h0.dp; omega⟩
    · exact ⟨h1.bd, by have := h1.dp; omega⟩
    · exact ⟨h2.bd, by have := h2.dp; omega⟩
    · exact ⟨h3.bd, by have := h3.dp; omega⟩
    · exact ⟨h4.bd, by have := h4.dp; omega⟩
theorem Sm.ok {L M S D : Nat} {d : PyData} (h : Sm L M S D d) (h1 : L ≤ 60 := by decide) (h2 : M ≤ 10000000000 := by decide) (h3 : S ≤ 2000 := by decide) (h4 : D ≤ 9 := by decide) : Ok d := h.mono h1 h2 h3 h4
theorem near_ok {hh : Int} {sts sis ask bls : List PyData} (h : hh.natAbs ≤ 1000000) (l1 : sts.length ≤ 5) (l2 : sis.length ≤ 4) (l3 : ask.length ≤ 4) (l4 : bls.length ≤ 15)
    (g1 : ∀ d ∈ sts, Sm 20 1000000 1 0 d) (g2 : ∀ d ∈ sis, Sm 20 1000000 51 2 d) (g3 : ∀ d ∈ ask, Sm 20 1000000 1 0 d) (g4 : ∀ d ∈ bls, Sm 20 1000000 6 1 d) : Ok (.tuple [.int hh, .list sts, .list sis, .list ask, .list bls]) := Sm.ok (near_sm h l1 l2 l3 l4 g1 g2 g3 g4)
/-- the list of things at F -/
structure Fnd (Ts C : List Addr) (p : Addr) (n : Nat) (F : Addr) (m : Nat) (H : Hp) : Prop where
  at_ : At Ts (F :: C) p n H
  ne : F ≠ p
  ex : ∃ xs ds, H F = some (.lst xs) ∧ TrAll (F :: C) H xs ds ∧ ds.length ≤ m ∧ ∀ d ∈ ds, Ok d
section
variable {Ts C : List Addr} {p : Addr} {n m : Nat} {F : Addr} {H H' : Hp}
theorem Fnd.kx (f : Fnd Ts C p n F m H) (k : Kx [] H H') : Fnd Ts C p n F m H' := by
  obtain ⟨xs, ds, h1, h2, h3⟩ := f.ex
  exact ⟨f.at_.kx k, f.ne, xs, ds, k.lst (by simp) h1, h2.up k, h3⟩
theorem Fnd.coin (f : Fnd Ts C p n F m H) {n' : Nat} (k : Kx [p] H H') (a : At Ts (F :: C) p n' H') : Fnd Ts C p n' F m H' := by
  obtain ⟨xs, ds, h1, h2, h3⟩ := f.ex
  exact ⟨a, f.ne, xs, ds, k.lst (by simpa using f.ne) h1, f.at_.trs h2 k, h3⟩
theorem Fnd.app (f : Fnd Ts C p n F m H) {xs : List V} (e : H F = some (.lst xs)) {v : V} {d : PyData} (t : Tr (F :: C) H v d) (g : Ok d) : Fnd Ts C p n F (m + 1) (upd H F (.lst (xs ++ [v]))) := by
  obtain ⟨ys, ds, h1, h2, h3, h4⟩ := f.ex
  rw [e] at h1
  cases h1
  refine ⟨f.at_.set e f.ne, f.ne, xs ++ [v], ds ++ [d], upd_same, TrAll.kx (Kx.put (B := [F]) (by simp)) (fun b hb => by simp_all) _ _ (h2.snoc t), by rw [List.length_append]; exact Nat.succ_le_succ h3, fun y hy => ?_⟩
  rcases List.mem_append.mp hy with z | z
  · exact h4 y z
  · rw [List.mem_singleton.mp z]; exact g
end
/-- the parts of a day -/
structure Parts (C : List Addr) (H : Hp) (aS aI aA aB : Addr) (sts sis ask bls : List PyData) : Prop where
  s : Tr C H (.ref aS) (.list sts)
  i : Tr C H (.ref aI) (.list sis)
  a : Tr C H (.ref aA) (.list ask)
  b : Tr C H (.ref aB) (.list bls)
theorem Parts.kx {C B : List Addr} {H H' : Hp} {aS aI aA aB : Addr} {sts sis ask bls : List PyData} (p : Parts C H aS aI aA aB sts sis ask bls) (k : Kx B H H') (h : ∀ b ∈ B, b ∈ C) : Parts C H' aS aI aA aB sts sis ask bls :=
  ⟨Tr.kx k h _ _ p.s, Tr.kx k h _ _ p.i, Tr.kx k h _ _ p.a, Tr.kx k h _ _ p.b⟩
/-- found.append(..) -/
theorem st_app {K' : PySem.W.Frag} {Ts C : List Addr} {p : Addr} {n m : Nat} {F : Addr} {H : Hp} {σ : L2.St} {te : TE} {D : Ends} {d : PyData} (f : Fnd Ts C p n F m H) (hσ : σ[8]? = some (some (.ref F))) (l : LitE σ (F :: C) H te d) (g : Ok d) (hm : m ≤ 1000)
    (q : ∀ H', Kx [F] H H' → Fnd Ts C p n F (m + 1) H' → D.nx σ H') : tDrop (tBM K' "list" rAppend (tVar 8) (tCons te tNil)) D σ H := by
  obtain ⟨xs, ds, h1, h2, h3, h4⟩ := f.ex
  refine ⟨.ref F, hσ, .inl ⟨rfl, xs, SqL.of h1⟩, ?_⟩
  refine st_cons (lit_use l fun v H' k t => ?_)
  have e : H' F = some (.lst xs) := k.lst (by simp) h1
  refine ⟨F, xs, v, rfl, rfl, e, by have := h2.length; unfold sizeLine; omega, ?_⟩
  exact q _ (k.of.trans (Kx.put (by simp))) ((f.kx k).app e t g)
def sp_law_near (Ts : List Addr) : Sp := fun vs H Q _ => ∃ (p : Addr) (n : Nat) (C : List Addr) (v : V) (d : PyData), vs = [.ref p, v] ∧ n ≤ 700000000000 ∧ At Ts C p n H ∧ Tr C H v d ∧ DayG 10 14 d ∧ (∀ F ds H', Kx [p] H H' → At Ts C p (n + 1) H' → Tr C H' (.ref F) (.list ds) → ds.length ≤ 20 → (∀ d ∈ ds, Ok d) → Q (.ref F) H')
theorem ok__law_near (Y : Facts K mg base fa fd ca ta) : FnOk P w K mg base CX0 2 (fa "_law_near") (fd "_law_near") ["purse", "day"] (sp_law_near (Ts ta)) := by
  refine Y.d__law_near.ok sc__law_near (fun vs H Q E h => ?_) (fun cdv A outer s H vs Q E hcd hr h => ?_)
  · obtain ⟨p, n, C, v, d, rfl, _⟩ := h; rfl
  · obtain ⟨p, n, C, v, d, rfl, hn, hA, ht, ⟨hh, sts, sis, ask, bls, rfl, h1, h2, s1, s2, i1, i2, a1, b1, gS, gI, gA, gB, -⟩, q⟩ := h
    refine ⟨_, (pss_cons (ps_asg (pv 1) (pg_tupK (n := 5) K rfl rfl (pgs_cons (pg_name (i := 2) sc__law_near.nd rfl (by first | exact Or.inl rfl | exact Or.inr rfl)) (pgs_cons (pg_name (i := 3) sc__law_near.nd rfl (by first | exact Or.inl rfl | exact Or.inr rfl)) (pgs_cons (pg_name (i := 4) sc__law_near.nd rfl (by first | exact Or.inl rfl | exact Or.inr rfl)) (pgs_cons (pg_name (i := 5) sc__law_near.nd rfl (by first | exact Or.inl rfl | exact Or.inr rfl)) (pgs_cons (pg_name (i := 6) sc__law_near.nd rfl (by first | exact Or.inl rfl | exact Or.inr rfl)) pgs_nil)))))))
      (pss_cons (ps_setLc (i := 7) (own := [("hour", 13)]) (g := gName 13) (tt := tYes) rfl sc__law_near.nd rfl rfl (sw_true rfl rfl rfl (by decide +kernel)) (pi_range1 (by rfl) Y.b.range (pa_cons (pv 2) pa_nil)) (blkOk_by (N := ["purse", "day", "hours", "stores", "sights", "asks", "blocks", "sight", "found", "ready", "due", "worth", "house", "hour"]) (sc := defScope s__law_near) (by decide +kernel)) (fun _ _ _ _ _ => (pg_name (i := 13) sc__law_near.nd rfl (by first | exact Or.inl rfl | exact Or.inr rfl))) (fun _ _ _ _ _ => pts_nil) (fun _ _ _ _ _ => (pe_lst pa_nil)))
      (pss_cons (ps_set (i := 8) sc__law_near.nd rfl (by first | exact Or.inl rfl | exact Or.inr rfl) (pe_lst (pa_cons (pe_tup (pa_cons (pv 2) (pa_cons (pe_slice (sl_listK K rfl) (pe_op op_cat (pv 3) (pe_op op_rep (pe_lst (pa_cons pe_int pa_nil)) pe_int)) po_none (po_some pe_int)) (pa_cons (pv 4) (pa_cons (pv 5) (pa_cons (pv 6) pa_nil)))))) pa_nil)))
      (pss_cons (ps_expr (pe_bm PySem.F.plainAttrs_list PySem.F.slot_list_append PySem.F.type_list_append mt_append (pv 8) (pa_cons (pe_tup (pa_cons (pv 2) (pa_cons (pe_slice (sl_listK K rfl) (pe_op op_cat (pv 3) (pe_op op_rep (pe_lst (pa_cons pe_int pa_nil)) pe_int)) po_none (po_some pe_int)) (pa_cons (pv 4) (pa_cons (pv 5) (pa_cons (pv 6) pa_nil)))))) pa_nil)))
      (pss_cons (ps_expr (pe_bm PySem.F.plainAttrs_list PySem.F.slot_list_append PySem.F.type_list_append mt_append (pv 8) (pa_cons (pe_tup (pa_cons (pv 2) (pa_cons (pv 3) (pa_cons (pe_slice (sl_listK K rfl) (pe_op op_cat (pv 4) (pe_op op_rep (pe_lst (pa_cons (pv 7) pa_nil)) pe_int)) po_none (po_some pe_int)) (pa_cons (pe_slice (sl_listK K rfl) (pe_op op_cat (pv 5) (pe_op op_rep (pe_lst (pa_cons pe_int pa_nil)) pe_int)) po_none (po_some pe_int)) (pa_cons (pv 6) pa_nil)))))) pa_nil)))
      (pss_cons (ps_expr (pe_bm PySem.F.plainAttrs_list PySem.F.slot_list_append PySem.F.type_list_append mt_append (pv 8) (pa_cons (pe_tup (pa_cons (pv 2) (pa_cons (pv 3) (pa_cons (pe_slice (sl_listK K rfl) (pe_op op_cat (pv 4) (pe_op op_rep (pe_lst (pa_cons (pv 7) pa_nil)) pe_int)) po_none (po_some pe_int)) (pa_cons (pe_slice (sl_listK K rfl) (pe_op op_cat (pv 5) (pe_op op_rep (pe_lst (pa_cons pe_int pa_nil)) pe_int)) po_none (po_some pe_int)) (pa_cons (pv 6) pa_nil)))))) pa_nil)))
      (pss_cons (ps_set (i := 9) sc__law_near.nd rfl (by first | exact Or.inl rfl | exact Or.inr rfl) (pe_call (ok__law_coin Y) (hr.mono (by decide)) (by rfl) Y.d__law_coin.g Y.d__law_coin.kp Y.d__law_coin.b .nil pass0 (pa_cons (pv 0) (pa_cons (pv 2) pa_nil))))
      (pss_cons (ps_for PassesOwn.never rfl (pi_listK K rfl (pe_lst (pa_cons (pe_tup (pa_cons (pe_op op_sub (pv 9) pe_int) (pa_cons pe_int (pa_cons pe_int pa_nil)))) (pa_cons (pe_tup (pa_cons (pv 9) (pa_cons pe_int (pa_cons pe_int pa_nil)))) (pa_cons (pe_tup (pa_cons (pv 2) (pa_cons pe_int (pa_cons pe_int pa_nil)))) (pa_cons (pe_tup (pa_cons pe_non (pa_cons pe_int (pa_cons pe_int pa_nil)))) (pa_cons (pe_tup (pa_cons pe_non (pa_cons pe_int (pa_cons pe_int pa_nil)))) pa_nil))))))) (pg_tupK (n := 3) K rfl rfl (pgs_cons (pg_name (i := 10) sc__law_near.nd rfl (by first | exact Or.inl rfl | exact Or.inr rfl)) (pgs_cons (pg_name (i := 11) sc__law_near.nd rfl (by first | exact Or.inl rfl | exact Or.inr rfl)) (pgs_cons (pg_name (i := 12) sc__law_near.nd rfl (by first | exact Or.inl rfl | exact Or.inr rfl)) pgs_nil)))) (pss_one (ps_expr (pe_bm PySem.F.plainAttrs_list PySem.F.slot_list_append PySem.F.type_list_append mt_append (pv 8) (pa_cons (pe_tup (pa_cons (pv 2) (pa_cons (pv 3) (pa_cons (pv 4) (pa_cons (pv 5) (pa_cons (pe_op op_cat (pe_lst (pa_cons (pe_tup (pa_cons (pv 12) (pa_cons (pe_op op_sub (pe_callB (call_lenK K rfl) (by rfl) Y.b.len (by decide +kernel) (pa_cons (pv 3) pa_nil)) pe_int) (pa_cons (pv 9) (pa_cons (pv 10) (pa_cons (pv 11) pa_nil)))))) pa_nil)) (pe_slice (sl_listK K rfl) (pv 6) (po_some pe_int) po_none)) pa_nil)))))) pa_nil)))))
      (pss_cons (ps_expr (pe_bm PySem.F.plainAttrs_list PySem.F.slot_list_append PySem.F.type_list_append mt_append (pv 8) (pa_cons (pe_tup (pa_cons (pv 2) (pa_cons (pv 3) (pa_cons (pv 4) (pa_cons (pv 5) (pa_cons (pe_slice (sl_listK K rfl) (pe_op op_cat (pv 6) (pe_op op_rep (pe_lst (pa_cons (pe_tup (pa_cons pe_int (pa_cons pe_int (pa_cons pe_int (pa_cons pe_non (pa_cons pe_int pa_nil)))))) pa_nil)) pe_int)) po_none (po_some pe_int)) pa_nil)))))) pa_nil)))
      (pss_cons (ps_expr (pe_bm PySem.F.plainAttrs_list PySem.F.slot_list_append PySem.F.type_list_append mt_append (pv 8) (pa_cons (pe_tup (pa_cons (pv 2) (pa_cons (pv 3) (pa_cons (pv 4) (pa_cons (pv 5) (pa_cons (pe_slice (sl_listK K rfl) (pe_op op_cat (pv 6) (pe_op op_rep (pe_lst (pa_cons (pe_tup (pa_cons pe_int (pa_cons pe_int (pa_cons pe_int (pa_cons pe_non (pa_cons pe_int pa_nil)))))) pa_nil)) pe_int)) po_none (po_some pe_int)) pa_nil)))))) pa_nil)))
      (pss_one (ps_ret (pe_op op_cat (pv 8) (pe_lst (pa_cons (pe_tup (pa_cons pe_int (pa_cons (pe_lst pa_nil) (pa_cons (pe_lst (pa_cons (pe_lst (pa_cons (pe_lst pa_nil) pa_nil)) pa_nil)) (pa_cons (pe_lst (pa_cons pe_non pa_nil)) (pa_cons (pe_lst pa_nil) pa_nil)))))) (pa_cons (pe_tup (pa_cons pe_int (pa_cons (pe_lst (pa_cons pe_int pa_nil)) (pa_cons (pe_lst (pa_cons (pe_lst pa_nil) pa_nil)) (pa_cons (pe_lst (pa_cons pe_non pa_nil)) (pa_cons (pe_lst pa_nil) pa_nil)))))) (pa_cons (pe_tup (pa_cons pe_int (pa_cons (pe_lst (pa_cons pe_int pa_nil)) (pa_cons (pe_lst pa_nil) (pa_cons (pe_lst pa_nil) (pa_cons (pe_lst pa_nil) pa_nil)))))) pa_nil))))))))))))))))), ?_⟩
    obtain ⟨a, xs, rfl, ex, tx⟩ := ht.tupV
    obtain ⟨v1, v2, v3, v4, v5, rfl, t1, t2, t3, t4, t5⟩ := TrAll.five tx
    cases t1
    obtain ⟨aS, xS, rfl, -, -⟩ := t2.listV
    obtain ⟨aI, xI, rfl, -, -⟩ := t3.listV
    obtain ⟨aA, xA, rfl, -, -⟩ := t4.listV
    obtain ⟨aB, xB, rfl, -, -⟩ := t5.listV
    have P0 : Parts C H aS aI aA aB sts sis ask bls := ⟨t2, t3, t4, t5⟩
    refine st_seq ⟨.ref a, rfl, a, _, rfl, SqT.of ex, rfl, _, _, rfl, .ref aS, _, rfl, .ref aI, _, rfl, .ref aA, _, rfl, .ref aB, _, rfl, rfl, ?_⟩
    dsimp only
    -- a sight without ears
    refine st_set (lc_use ?_)
    refine ⟨_, rfl, hh, rfl, by omega, by omega, ?_⟩
    refine lc_pu (itr_at hh.toNat) (by omega) 0 (fun d => d = .list []) true hA (fun D i Hs hD hi ks As R R0 hR hR0 => ?_) fun SG sg H1 k1 A1 tG lG _ gG => ?_
    · refine ⟨rfl, st_yes ⟨len_ok, fun L hL => ?_⟩⟩
      obtain ⟨kL, eL, tL⟩ := mk_lst As.al .nil hL
      exact hR _ _ _ kL.of ((As.kx kL).mono (by omega)) tL rfl
    have sg_sm : Sm 20 1000000 51 2 (.list sg) := (Sm.list (S := 1) (D := 1) (N := 10) (fun d hd => by rw [gG d hd]; exact Sm.mkList (by simp) (by simp [szAll]) (fun y hy => by simp at hy) (by decide)) (by omega) (by decide)).mono (Nat.le_refl _) (Nat.le_refl _) (by decide) (by decide)
    have P1 := P0.kx k1 (fun b hb => by rw [List.mem_singleton.mp hb]; exact hA.mem)
    have al1 := A1.al
    refine st_set (st_lst ?_)
    refine (lit_cons (lit_tup al1 (lit_cons (lit_var rfl (.int hh)) (lit_cons (lit_take al1 (n := 4) (lit_cat al1 (lit_var rfl P1.s) (lit_rep al1 (n := 4) (lit_lst al1 (lit_cons lit_int lit_nil) (by simp)) (by simp) (by decide)) (by simp; omega))) (lit_cons (lit_var rfl P1.i) (lit_cons (lit_var rfl P1.a) (lit_cons (lit_var rfl P1.b) lit_nil))))) (by simp)) lit_nil) H1 (Kx.refl _) _ fun vs H2 k2 tvs => ?_
    have A2 := A1.kx k2
    have lvs := tvs.length
    refine ⟨by unfold sizeLine; simp only [List.length_cons, List.length_nil] at lvs; omega, fun F hF => ?_⟩
    have nF : F ∉ C := A2.not hF
    have P2 : Parts (F :: C) H2 aS aI aA aB sts sis ask bls := by
      have := P1.kx k2 (by simp)
      exact ⟨avoid hF _ _ this.s, avoid hF _ _ this.i, avoid hF _ _ this.a, avoid hF _ _ this.b⟩
    have tG2 : Tr (F :: C) H2 (.ref SG) (.list sg) := avoid hF _ _ (tG.up k2)
    have tvs2 := avoidAll hF _ _ tvs
    generalize hq : upd H2 F _ = H3
    obtain ⟨k3, e3⟩ := new_at hF hq
    clear hq
    have i_sm : Sm 20 1000000 1 0 (.int 0) := Sm.int (by decide)
    have b_sm : Sm 20 1000000 6 1 (.tuple [.int 0, .int 0, .int 0, .none, .int 1]) := Sm.tuple (N := 5) (S := 1) (D := 0) (fun d hd => by
      simp only [List.mem_cons, List.mem_singleton, List.not_mem_nil, or_false] at hd
      rcases hd with rfl | rfl | rfl | rfl | rfl
      · exact Sm.int (by decide)
      · exact Sm.int (by decide)
      · exact Sm.int (by decide)
      · exact Sm.none
      · exact Sm.int (by decide)) (by simp) (by decide)
    have hb1 : bls.length ≤ 14 := by omega
    have F0 : Fnd (Ts ta) C p (n + hh.toNat * 0) F 1 H3 := by
      refine ⟨(A2.kx k3).cons (by rw [e3]; simp), fun e => nF (by rw [e]; exact hA.mem), vs, _, e3, tvs2.up k3, by simp, fun d hd => ?_⟩
      rw [List.mem_singleton.mp hd]
      exact (near_ok (by omega) (Nat.le_trans (List.length_take_le _ _) (by decide)) (by omega) (by omega) (by omega) (fun d hd => (mem_pad hd).elim (gS d) fun e => by rw [e]; exact i_sm) gI gA gB)
    have P3 := P2.kx k3 (by simp)
    have tG3 := tG2.up k3
    have k03 : Kx [p] H H3 := k1.trans (k2.trans k3).of
    have al3 := F0.at_.al
    refine st_seq (st_app F0 rfl (lit_tup al3 (lit_cons (lit_var rfl (.int hh)) (lit_cons (lit_take al3 (n := 5) (lit_cat al3 (lit_var rfl P3.s) (lit_rep al3 (n := 5) (lit_lst al3 (lit_cons lit_int lit_nil) (by simp)) (by simp) (by decide)) (by simp; omega))) (lit_cons (lit_var rfl P3.i) (lit_cons (lit_var rfl P3.a) (lit_cons (lit_var rfl P3.b) lit_nil))))) (by simp)) (near_ok (by omega) (Nat.le_trans (List.length_take_le _ _) (by decide)) (by omega) (by omega) (by omega) (fun d hd => (mem_pad hd).elim (gS d) fun e => by rw [e]; exact i_sm) gI gA gB) (by decide) fun H4 k4 F1 => ?_)
    dsimp only
    have P4 := P3.kx k4 (fun b hb => by rw [List.mem_singleton.mp hb]; exact List.mem_cons_self)
    have tG4 := Tr.kx k4 (fun b hb => by rw [List.mem_singleton.mp hb]; exact List.mem_cons_self) _ _ tG3
    have kF4 : Kx [F] H3 H4 := k4
    have al4 := F1.at_.al
    refine st_seq (st_app F1 rfl (lit_tup al4 (lit_cons (lit_var rfl (.int hh)) (lit_cons (lit_var rfl P4.s) (lit_cons (lit_take al4 (n := 3) (lit_cat al4 (lit_var rfl P4.i) (lit_rep al4 (n := 3) (lit_lst al4 (lit_cons (lit_var rfl tG4) lit_nil) (by simp)) (by simp) (by decide)) (by simp; omega))) (lit_cons (lit_take al4 (n := 3) (lit_cat al4 (lit_var rfl P4.a) (lit_rep al4 (n := 3) (lit_lst al4 (lit_cons lit_int lit_nil) (by simp)) (by simp) (by decide)) (by simp; omega))) (lit_cons (lit_var rfl P4.b) lit_nil))))) (by simp)) (near_ok (by omega) (by omega) (Nat.le_trans (List.length_take_le _ _) (by decide)) (Nat.le_trans (List.length_take_le _ _) (by decide)) (by omega) gS (fun d hd => (mem_pad hd).elim (gI d) fun e => by rw [e]; exact sg_sm) (fun d hd => (mem_pad hd).elim (gA d) fun e => by rw [e]; exact i_sm) gB) (by decide) fun H5 k5 F2 => ?_)
    dsimp only
    have P5 := P4.kx k5 (fun b hb => by rw [List.mem_singleton.mp hb]; exact List.mem_cons_self)
    have tG5 := Tr.kx k5 (fun b hb => by rw [List.mem_singleton.mp hb]; exact List.mem_cons_self) _ _ tG4
    have kF5 : Kx [F] H3 H5 := kF4.trans k5
    have al5 := F2.at_.al
    refine st_seq (st_app F2 rfl (lit_tup al5 (lit_cons (lit_var rfl (.int hh)) (lit_cons (lit_var rfl P5.s) (lit_cons (lit_take al5 (n := 4) (lit_cat al5 (lit_var rfl P5.i) (lit_rep al5 (n := 4) (lit_lst al5 (lit_cons (lit_var rfl tG5) lit_nil) (by simp)) (by simp) (by decide)) (by simp; omega))) (lit_cons (lit_take al5 (n := 4) (lit_cat al5 (lit_var rfl P5.a) (lit_rep al5 (n := 4) (lit_lst al5 (lit_cons lit_int lit_nil) (by simp)) (by simp) (by decide)) (by simp; omega))) (lit_cons (lit_var rfl P5.b) lit_nil))))) (by simp)) (near_ok (by omega) (by omega) (Nat.le_trans (List.length_take_le _ _) (by decide)) (Nat.le_trans (List.length_take_le _ _) (by decide)) (by omega) gS (fun d hd => (mem_pad hd).elim (gI d) fun e => by rw [e]; exact sg_sm) (fun d hd => (mem_pad hd).elim (gA d) fun e => by rw [e]; exact i_sm) gB) (by decide) fun H6 k6 F3 => ?_)
    dsimp only
    have P6 := P5.kx k6 (fun b hb => by rw [List.mem_singleton.mp hb]; exact List.mem_cons_self)
    have tG6 := Tr.kx k6 (fun b hb => by rw [List.mem_singleton.mp hb]; exact List.mem_cons_self) _ _ tG5
    have kF6 : Kx [F] H3 H6 := kF5.trans k6
    -- an hour
    refine st_seq ?_
    refine ⟨.ref p, rfl, .int hh, rfl, p, _, hh, _, rfl, by omega, by omega, by omega, F3.at_, fun re H7 re0 re1 k7 A7 => ?_⟩
    refine st_name ?_
    dsimp only
    have F4 := F3.coin k7 A7
    have P7 := P6.kx k7 (fun b hb => by rw [List.mem_singleton.mp hb]; exact List.mem_cons_of_mem _ hA.mem)
    have al7 := F4.at_.al
    refine st_seq (st_for (st_ilist ?_))
    refine lit_use (lit_lst al7 (lit_cons (lit_tup al7 (lit_cons (lit_sub (lit_var rfl (.int re))) (lit_cons lit_int (lit_cons lit_int lit_nil))) (by simp)) (lit_cons (lit_tup al7 (lit_cons (lit_var rfl (.int re)) (lit_cons lit_int (lit_cons lit_int lit_nil))) (by simp)) (lit_cons (lit_tup al7 (lit_cons (lit_var rfl (.int hh)) (lit_cons lit_int (lit_cons lit_int lit_nil))) (by simp))
      (lit_cons (lit_tup al7 (lit_cons lit_non (lit_cons lit_int (lit_cons lit_int lit_nil))) (by simp)) (lit_cons (lit_tup al7 (lit_cons lit_non (lit_cons lit_int (lit_cons lit_int lit_nil))) (by simp)) lit_nil))))) (by simp)) fun v H8 k8 tv => ?_
    obtain ⟨Lt, xt, rfl, et, tt⟩ := tv.listV
    have F5 := F4.kx k8
    have P8 := P7.kx k8 (by simp)
    have lxt := tt.length
    simp only [List.length_cons, List.length_nil] at lxt
    refine ⟨Lt, rfl, ⟨xt, SqL.of et⟩, ?_⟩
    have nLt : Lt ∉ [F] := fun z => tv.out (by rw [List.mem_singleton.mp z]; exact List.mem_cons_self)
    refine for_gen (itl_at et nLt) (Iv := fun i σ' H' => (∃ y1 y2 y3, σ' = [some (.ref p), some (.ref a), some (.int hh), some (.ref aS), some (.ref aI), some (.ref aA), some (.ref aB), some (.ref SG), some (.ref F), some (.int re), y1, y2, y3, none]) ∧ Fnd (Ts ta) C p (n + hh.toNat * 0 + 1) F (4 + i) H')
      ⟨⟨none, none, none, rfl⟩, F5⟩ (fun i σ' H9 hi k9 ⟨⟨y1, y2, y3, e⟩, F6⟩ Nn hN => ?_) fun σ' H9 k9 ⟨⟨y1, y2, y3, e⟩, F6⟩ => ?_
    · subst e
      have P9 := P8.kx k9 (fun b hb => by rw [List.mem_singleton.mp hb]; exact List.mem_cons_self)
      have ex : xt[i]? = some xt[i] := List.getElem?_eq_getElem hi
      have tt9 := TrAll.kx k9 (fun b hb => by rw [List.mem_singleton.mp hb]; exact List.mem_cons_self) _ _ tt
      obtain ⟨d, ed, td⟩ := tt9.get ex
      have eg : xt.getD i .non = xt[i] := by rw [List.getD_eq_getElem?_getD, ex]; rfl
      rw [eg]
      obtain ⟨du, wo, ho, rfl, sdu, hw, hho⟩ : ∃ (du : PyData) (wo ho : Int), d = .tuple [du, .int wo, .int ho] ∧ Sm 20 1000000 1 0 du ∧ wo.natAbs ≤ 1000000 ∧ ho.natAbs ≤ 1000000 := by
        have hm := List.mem_of_getElem? ed
        simp only [List.mem_cons, List.mem_singleton, List.not_mem_nil, or_false] at hm
        rcases hm with rfl | rfl | rfl | rfl | rfl
        · exact ⟨_, _, _, rfl, Sm.int (by omega), by decide, by decide⟩
        · exact ⟨_, _, _, rfl, Sm.int (by omega), by decide, by decide⟩
        · exact ⟨_, _, _, rfl, Sm.int (by omega), by decide, by decide⟩
        · exact ⟨_, _, _, rfl, Sm.none, by decide, by decide⟩
        · exact ⟨_, _, _, rfl, Sm.none, by decide, by decide⟩
      obtain ⟨at3, x3, e3', ex3, tx3⟩ := td.tupV
      rw [e3']
      obtain ⟨u1, u2, u3, rfl, tu1, tu2, tu3⟩ : ∃ u1 u2 u3, x3 = [u1, u2, u3] ∧ Tr (F :: C) H9 u1 du ∧ Tr (F :: C) H9 u2 (.int wo) ∧ Tr (F :: C) H9 u3 (.int ho) := by
        cases tx3 with
        | cons w1 r => cases r with
          | cons w2 r => cases r with
            | cons w3 r => cases r; exact ⟨_, _, _, rfl, w1, w2, w3⟩
      cases tu2
      cases tu3
      refine ⟨at3, _, rfl, SqT.of ex3, rfl, u1, _, rfl, .int wo, _, rfl, .int ho, _, rfl, rfl, ?_⟩
      have al9 := F6.at_.al
      have g9 : Sm 20 1000000 6 1 (.tuple [.int ho, .int ((sts.length : Int) - 1), .int re, du, .int wo]) := Sm.tuple (N := 5) (S := 1) (D := 0) (fun d hd => by
        simp only [List.mem_cons, List.mem_singleton, List.not_mem_nil, or_false] at hd
        rcases hd with rfl | rfl | rfl | rfl | rfl
        · exact Sm.int hho
        · exact Sm.int (by omega)
        · exact Sm.int (by omega)
        · exact sdu
        · exact Sm.int hw) (by simp) (by decide)
      refine st_app F6 rfl (lit_tup al9 (lit_cons (lit_var rfl (.int hh)) (lit_cons (lit_var rfl P9.s) (lit_cons (lit_var rfl P9.i) (lit_cons (lit_var rfl P9.a) (lit_cons (lit_cat al9 (lit_lst al9 (lit_cons (lit_tup al9 (lit_cons (lit_var rfl (.int ho)) (lit_cons (lit_sub (lit_len rfl P9.s)) (lit_cons (lit_var rfl (.int re)) (lit_cons (lit_var rfl tu1) (lit_cons (lit_var rfl (.int wo)) lit_nil))))) (by simp)) lit_nil) (by simp)) (lit_drop al9 (n := 1) (lit_var rfl P9.b)) (by simp only [List.length_cons, List.length_nil, List.length_drop]; omega)) lit_nil))))) (by simp)) (near_ok (by omega) (by omega) (by omega) (by omega) (by simp only [List.length_append, List.length_cons, List.length_nil, List.length_drop]; omega) gS gI gA (fun d hd => ?_)) (by omega) fun H10 k10 F7 => ?_
      · rcases List.mem_append.mp hd with z | z
        · rw [List.mem_singleton.mp z]; exact g9
        · exact gB d (List.mem_of_mem_drop z)
      · exact hN _ _ (k9.trans k10) ⟨⟨_, _, _, rfl⟩, F7⟩
    subst e
    rw [lxt] at F6
    have P9 := P8.kx k9 (fun b hb => by rw [List.mem_singleton.mp hb]; exact List.mem_cons_self)
    dsimp only
    have al9 := F6.at_.al
    refine st_seq (st_app F6 rfl (lit_tup al9 (lit_cons (lit_var rfl (.int hh)) (lit_cons (lit_var rfl P9.s) (lit_cons (lit_var rfl P9.i) (lit_cons (lit_var rfl P9.a) (lit_cons (lit_take al9 (n := 14) (lit_cat al9 (lit_var rfl P9.b) (lit_rep al9 (n := 14) (lit_lst al9 (lit_cons (lit_tup al9 (lit_cons lit_int (lit_cons lit_int (lit_cons lit_int (lit_cons lit_non (lit_cons lit_int lit_nil))))) (by simp)) lit_nil) (by simp)) (by simp) (by decide)) (by simp; omega))) lit_nil))))) (by simp)) (near_ok (by omega) (by omega) (by omega) (by omega) (Nat.le_trans (List.length_take_le _ _) (by decide)) gS gI gA (fun d hd => (mem_pad hd).elim (gB d) fun e => by rw [e]; exact b_sm)) (by decide) fun H11 k11 F8 => ?_)
    dsimp only
    have P11 := P9.kx k11 (fun b hb => by rw [List.mem_singleton.mp hb]; exact List.mem_cons_self)
    have al11 := F8.at_.al
    refine st_seq (st_app F8 rfl (lit_tup al11 (lit_cons (lit_var rfl (.int hh)) (lit_cons (lit_var rfl P11.s) (lit_cons (lit_var rfl P11.i) (lit_cons (lit_var rfl P11.a) (lit_cons (lit_take al11 (n := 15) (lit_cat al11 (lit_var rfl P11.b) (lit_rep al11 (n := 15) (lit_lst al11 (lit_cons (lit_tup al11 (lit_cons lit_int (lit_cons lit_int (lit_cons lit_int (lit_cons lit_non (lit_cons lit_int lit_nil))))) (by simp)) lit_nil) (by simp)) (by simp) (by decide)) (by simp; omega))) lit_nil))))) (by simp)) (near_ok (by omega) (by omega) (by omega) (by omega) (Nat.le_trans (List.length_take_le _ _) (by decide)) gS gI gA (fun d hd => (mem_pad hd).elim (gB d) fun e => by rw [e]; exact b_sm)) (by decide) fun H12 k12 F9 => ?_)
    dsimp only
    have P12 := P11.kx k12 (fun b hb => by rw [List.mem_singleton.mp hb]; exact List.mem_cons_self)
    -- the end
    obtain ⟨xf, dF, ef, tf, lf, gf⟩ := F9.ex
    have A12 : At (Ts ta) C p (n + hh.toNat * 0 + 1) H12 := F9.at_.less (fun c hc => List.mem_cons_of_mem _ hc) hA.mem
    have al12 := A12.al
    have tF : Tr C H12 (.ref F) (.list dF) := .lst nF ef (TrAll.less (fun b hb => List.mem_cons_of_mem _ hb) _ _ tf)
    refine st_ret (lit_use (lit_cat al12 (lit_var rfl tF) (lit_lst al12 (lit_cons (lit_tup al12 (lit_cons lit_int (lit_cons (lit_lst al12 lit_nil (by simp)) (lit_cons (lit_lst al12 (lit_cons (lit_lst al12 (lit_cons (lit_lst al12 lit_nil (by simp)) lit_nil) (by simp)) lit_nil) (by simp)) (lit_cons (lit_lst al12 (lit_cons lit_non lit_nil) (by simp)) (lit_cons (lit_lst al12 lit_nil (by simp)) lit_nil))))) (by simp))
      (lit_cons (lit_tup al12 (lit_cons lit_int (lit_cons (lit_lst al12 (lit_cons lit_int lit_nil) (by simp)) (lit_cons (lit_lst al12 (lit_cons (lit_lst al12 lit_nil (by simp)) lit_nil) (by simp)) (lit_cons (lit_lst al12 (lit_cons lit_non lit_nil) (by simp)) (lit_cons (lit_lst al12 lit_nil (by simp)) lit_nil))))) (by simp))
      (lit_cons (lit_tup al12 (lit_cons lit_int (lit_cons (lit_lst al12 (lit_cons lit_int lit_nil) (by simp)) (lit_cons (lit_lst al12 lit_nil (by simp)) (lit_cons (lit_lst al12 lit_nil (by simp)) (lit_cons (lit_lst al12 lit_nil (by simp)) lit_nil))))) (by simp)) lit_nil))) (by simp)) (by simp; omega)) fun v H13 k13 tv13 => ?_)
    obtain ⟨Fe, xe, rfl, -, -⟩ := tv13.listV
    have kall : Kx [p] H H13 := by
      have k312 : Kx [p, F] H3 H13 := (kF6.sub (by simp)).trans ((k7.sub (by simp)).trans (k8.of.trans ((k9.sub (by simp)).trans ((k11.sub (by simp)).trans ((k12.sub (by simp)).trans k13.of)))))
      have kH3 : Kx [p, F] H H13 := (k03.sub (by simp)).trans k312
      refine (k1.trans k2.of).trans (Kx.weak (D := [p, F]) (k3.of.trans k312) fun b hb => ?_)
      simp only [List.mem_cons, List.not_mem_nil, or_false] at hb
      rcases hb with rfl | rfl
      · exact .inl (by simp)
      · exact .inr hF
    refine q Fe _ H13 kall ((A12.kx k13).mono (by omega)) tv13 (by simp; omega) fun d hd => ?_
    rcases List.mem_append.mp hd with z | z
    · exact gf d z
    · simp only [List.mem_cons, List.mem_singleton, List.not_mem_nil, or_false] at z
      rcases z with rfl | rfl | rfl
      · exact ⟨by simp [Bd, BdAll], by decide, by decide⟩
      · exact ⟨by simp [Bd, BdAll], by decide, by decide⟩
      · exact ⟨by simp [Bd, BdAll], by decide, by decide⟩
end
end Law

set_option Elab.async false
set_option linter.all false
set_option maxRecDepth 100000
set_option maxHeartbeats 4000000
namespace Law
open PySem PySem.Spec PyProof.Rows L2 GxR GX Tree Kit Data Loops Comps Purse Sets Small Ib Lit EndG Shown
section
variable {P : Program} {w : World} {K : PySem.W.Frag} {mg : Str → Option Value} {base : Heap} {fa : String → Addr} {fd : String → FuncData} {ca ta : String → Addr}
/-! ### the law -/
theorem sqL_kx {H H' : Hp} {a : Addr} {xs : List V} (h : SqL K H a xs) (k : Kx [] H H') : SqL K H' a xs := by
  rcases h with (h | ⟨o, h⟩) | h
  · exact .inl (.inl (k.lst (by simp) h))
  · exact .inl (.inr ⟨o, k.at (by simp) h fun _ z => by cases z⟩)
  · exact .inr h
section
variable {σ : L2.St} {C : List Addr} {H : Hp} {te te' : TE} {ds es : List PyData}
theorem lit_listT (al : ∀ c ∈ C, H c ≠ none) {j : Nat} {a : Addr} (hσ : σ[j]? = some (some (.ref a))) (t : Tr C H (.ref a) (.tuple ds)) : LitE σ C H (tCB (rListK K) (tCons (tVar j) tNil)) (.list ds) := fun H1 k Q q => by
  obtain ⟨xs, ex, tx⟩ := (t.up k).itemsT
  refine ⟨.ref a, hσ, a, xs, rfl, .inr (SqT.of ex), fun p hp => ?_⟩
  obtain ⟨k4, e4, t4⟩ := mk_lst (al_up al k) tx hp
  exact q _ _ k4 t4
theorem lit_takeT (al : ∀ c ∈ C, H c ≠ none) {n : Nat} (a : LitE σ C H te (.tuple ds)) (hn : n < ds.length) : LitE σ C H (tSl (rSlA K) te tNoPart (tPart (tC (.int (n : Int))))) (.tuple (ds.take n)) := fun H1 k Q q =>
  a H1 k _ fun v H2 k2 t => by
    obtain ⟨x, xs, rfl, ex, tx⟩ := t.tupV
    have hl := tx.length
    refine ⟨_, rfl, x, xs, rfl, SqT.of ex, fun z => ?_, fun _ p hp => ?_⟩
    · have := z.2
      rw [HT.sIx_nat] at this
      omega
    · rw [cut_hi]
      obtain ⟨k4, e4, t4⟩ := mk_tup (al_up al (k.trans k2)) (tx.take n) hp
      exact q _ _ (k2.trans k4) t4
theorem lit_catT (al : ∀ c ∈ C, H c ≠ none) (a : LitE σ C H te (.tuple ds)) (b : LitE σ C H te' (.tuple es)) (h1 : ds ≠ []) (h2 : es ≠ []) (hl : ds.length + es.length ≤ 100000) : LitE σ C H (tOp (rCatA K) te te') (.tuple (ds ++ es)) := fun H1 k Q q =>
  st_op (a H1 k _ fun v H2 k2 t => b H2 (k.trans k2) _ fun u H3 k3 t3 => by
    obtain ⟨x, xs, rfl, ex, tx⟩ := (t.up k3).tupV
    obtain ⟨y, ys, rfl, ey, ty⟩ := t3.tupV
    have l1 := tx.length
    have l2 := ty.length
    refine ⟨x, y, xs, ys, rfl, rfl, SqT.of ex, SqT.of ey, by unfold sizeLine; omega, fun z => ?_, fun _ z => ?_, fun _ _ p hp => ?_⟩
    · rw [z] at l1
      exact absurd (List.length_eq_zero_iff.mp l1.symm) h1
    · rw [z] at l2
      exact absurd (List.length_eq_zero_iff.mp l2.symm) h2
    · obtain ⟨k4, e4, t4⟩ := mk_tup (al_up al (k.trans (k2.trans k3))) (tx.append ty) hp
      exact q _ _ (k2.trans (k3.trans k4)) t4)
end
theorem st_andv {ta tb : TE} {σ : L2.St} {H : Hp} {Q : VK} (h : ta σ H fun x H1 => ∃ c, x = .bl c ∧ if c = true then tb σ H1 Q else Q (.bl false) H1) : tAndV ta tb σ H Q := h
theorem st_notv {ta : TE} {σ : L2.St} {H : Hp} {Q : VK} (h : ta σ H fun x H1 => ∃ c, x = .bl c ∧ Q (.bl (!c)) H1) : tNotV ta σ H Q := h
theorem st_call8 {sp : Sp} {dvs : List V} {E : XK} {t : TA} {σ : L2.St} {H : Hp} {Q : VK} (h : t σ H fun vs H1 => sp (vs ++ dvs) H1 Q E) : tCall sp dvs E t σ H Q := h
theorem kx_drop {p : Addr} {H H' H0 : Hp} (k0 : Kx [] H0 H) (hp : H0 p = none) (k : Kx [p] H H') : Kx [] H0 H' := Kx.weak (k0.of.trans k) fun b hb => .inr (by rw [List.mem_singleton.mp hb]; exact hp)
def sp_law (K : PySem.W.Frag) (ta : String → Addr) : Sp := fun vs H Q _ => ∃ (a : Addr) (ns : List Int), vs = [.ref a] ∧ SqL K H a (ns.map V.int) ∧ ns.length ≤ 63 ∧ Tb (Ts ta) H ∧ ∀ H', Q (.bl true) H'
theorem ok_law (Y : Facts K mg base fa fd ca ta) {f : Addr} {fl : FuncData} (F : FunD K "law" "law" (defArgs s_law) (defBody s_law) (defScope s_law) [] [] f fl) (hm : ∃ o, base.get? sysModules = some o) : FnG P w K mg base 15 f fl ["script"] (sp_law K ta) := by
  refine fnG F sc_law (fun vs H Q E h => ?_) (fun cdv A outer s H vs Q E hg hcd hr h => ?_)
  · obtain ⟨a, ns, rfl, _⟩ := h; rfl
  · obtain ⟨a, ns, rfl, ha, hl, hT, q⟩ := h
    refine ⟨_, (pss_cons (ps_for PassesOwn.never rfl (pi_range1 (by rfl) Y.b.range (pa_cons (pe_callB (call_max2 rfl) (by rfl) Y.b.max (by decide +kernel) (pa_cons pe_int (pa_cons (pe_callB (call_min2 rfl) (by rfl) Y.b.min (by decide +kernel) (pa_cons pe_int (pa_cons (pe_callB (call_lenK K rfl) (by rfl) Y.b.len (by decide +kernel) (pa_cons (pv 0) pa_nil)) pa_nil))) pa_nil))) pa_nil)) (pg_name (i := 1) sc_law.nd rfl (by first | exact Or.inl rfl | exact Or.inr rfl)) (pss_cons (ps_set (i := 2) sc_law.nd rfl (by first | exact Or.inl rfl | exact Or.inr rfl) (pe_call (ok__law_purse Y) (hr.mono (by decide)) (by rfl) Y.d__law_purse.g Y.d__law_purse.kp Y.d__law_purse.b .nil pass0 (pa_cons (pv 0) (pa_cons (pv 1) pa_nil))))
      (pss_cons (ps_set (i := 3) sc_law.nd rfl (by first | exact Or.inl rfl | exact Or.inr rfl) (pe_call (ok__law_day Y) (hr.mono (by decide)) (by rfl) Y.d__law_day.g Y.d__law_day.kp Y.d__law_day.b .nil pass0 (pa_cons (pv 2) (pa_cons pe_int (pa_cons pe_int pa_nil)))))
      (pss_cons (ps_set (i := 4) sc_law.nd rfl (by first | exact Or.inl rfl | exact Or.inr rfl) (pe_op op_cat (pe_lst (pa_cons (pv 3) (pa_cons (pe_callTy (call_listK K rfl) (by rfl) Y.b.list (by decide +kernel) (pa_cons (pv 3) pa_nil)) (pa_cons (pe_slice (sl_tupAK K rfl) (pv 3) po_none (po_some pe_int)) (pa_cons (pe_op (op_catAK K rfl) (pv 3) (pe_tup (pa_cons (pe_lst pa_nil) pa_nil))) (pa_cons pe_non (pa_cons pe_str (pa_cons pe_int (pa_cons (pe_lst pa_nil) (pa_cons (pe_tup pa_nil) (pa_cons pe_dnewK pa_nil))))))))))) (pe_call (ok__law_near Y) (hr.mono (by decide)) (by rfl) Y.d__law_near.g Y.d__law_near.kp Y.d__law_near.b .nil pass0 (pa_cons (pv 2) (pa_cons (pv 3) pa_nil)))))
      (pss_cons (ps_for PassesOwn.never rfl (pi_range1 (by rfl) Y.b.range (pa_cons pe_int pa_nil)) (pg_name (i := 5) sc_law.nd rfl (by first | exact Or.inl rfl | exact Or.inr rfl)) (pss_cons (ps_set (i := 6) sc_law.nd rfl (by first | exact Or.inl rfl | exact Or.inr rfl) (pe_call (ok__law_bent Y) (hr.mono (by decide)) (by rfl) Y.d__law_bent.g Y.d__law_bent.kp Y.d__law_bent.b .nil pass0 (pa_cons (pv 2) (pa_cons (pv 3) pa_nil))))
      (pss_one (ps_set (i := 4) sc_law.nd rfl (by first | exact Or.inl rfl | exact Or.inr rfl) (pe_op op_cat (pv 4) (pe_lst (pa_cons (pv 6) (pa_cons (pe_call (ok__law_bent Y) (hr.mono (by decide)) (by rfl) Y.d__law_bent.g Y.d__law_bent.kp Y.d__law_bent.b .nil pass0 (pa_cons (pv 2) (pa_cons (pv 6) pa_nil))) pa_nil))))))))
      (pss_one (ps_for PassesOwn.never rfl (pi_listK K rfl (pv 4)) (pg_name (i := 7) sc_law.nd rfl (by first | exact Or.inl rfl | exact Or.inr rfl)) (pss_cons (ps_set (i := 8) sc_law.nd rfl (by first | exact Or.inl rfl | exact Or.inr rfl) (pe_callB (call_repr_tree hg hr.units hm) (by rfl) Y.b.repr (by decide +kernel) (pa_cons (pv 7) pa_nil)))
      (pss_cons (ps_set (i := 9) sc_law.nd rfl (by first | exact Or.inl rfl | exact Or.inr rfl) (pe_call (ok_is_day Y) (hr.mono (by decide)) (by rfl) Y.d_is_day.g Y.d_is_day.kp Y.d_is_day.b .nil pass0 (pa_cons (pv 7) pa_nil)))
      (pss_one (ps_if ((pw_or (pt_not (pt_val (pe_callB (call_isiK' K rfl) (by rfl) Y.b.isinstance (by decide +kernel) (pa_cons (pv 9) (pa_cons (pe_bltn (v := .ty "bool") (by rfl) Y.b.bool (by decide +kernel) rfl) pa_nil))))) (pw_or (pt_cmpR op_ne (pv 9) (pe_call (ok__law_is_day Y) (hr.mono (by decide)) (by rfl) Y.d__law_is_day.g Y.d__law_is_day.kp Y.d__law_is_day.b .nil pass0 (pa_cons (pv 7) pa_nil)) (nomark _)) (pw_or1 (pt_cmpR op_ne (pe_callB (call_repr_tree hg hr.units hm) (by rfl) Y.b.repr (by decide +kernel) (pa_cons (pv 7) pa_nil)) (pv 8) (nomark _)))))).pt (pss_one (ps_ret pe_bl)) pss_nil)))))))))))
      (pss_one (ps_ret (pe_and (pe_call (ok_is_day Y) (hr.mono (by decide)) (by rfl) Y.d_is_day.g Y.d_is_day.kp Y.d_is_day.b .nil pass0 (pa_cons (pe_tup (pa_cons pe_int (pa_cons (pe_lst (pa_cons pe_int pa_nil)) (pa_cons (pe_lst (pa_cons (pe_lst (pa_cons (pe_lst (pa_cons pe_int pa_nil)) pa_nil)) pa_nil)) (pa_cons (pe_lst (pa_cons pe_non pa_nil)) (pa_cons (pe_lst pa_nil) pa_nil)))))) pa_nil)) (pe_one (pe_not (pe_call (ok_is_day Y) (hr.mono (by decide)) (by rfl) Y.d_is_day.g Y.d_is_day.kp Y.d_is_day.b .nil pass0 (pa_cons (pe_tup (pa_cons pe_int (pa_cons (pe_lst (pa_cons pe_int pa_nil)) (pa_cons (pe_lst (pa_cons (pe_lst (pa_cons (pe_lst (pa_cons pe_int pa_nil)) pa_nil)) pa_nil)) (pa_cons (pe_lst (pa_cons pe_non pa_nil)) (pa_cons (pe_lst pa_nil) pa_nil)))))) pa_nil)))))))), ?_⟩
    refine st_seq (st_for ?_)
    refine ⟨.ref a, rfl, a, _, rfl, .inl ha, _, _, rfl, _, _, rfl, _, rfl, ?_, ?_, ?_⟩
    · split <;> omega
    · rw [List.length_map]
      split <;> (try split) <;> omega
    have hN : ∀ i : Nat, i < (if (if (((ns.map V.int).length : Nat) : Int) < 4 then (((ns.map V.int).length : Nat) : Int) else 4) > 1 then (if (((ns.map V.int).length : Nat) : Int) < 4 then (((ns.map V.int).length : Nat) : Int) else 4) else 1 : Int).toNat → i < 4 := fun i hi => by
      split at hi <;> (try split at hi) <;> omega
    generalize (if (if (((ns.map V.int).length : Nat) : Int) < 4 then (((ns.map V.int).length : Nat) : Int) else 4) > 1 then (if (((ns.map V.int).length : Nat) : Int) < 4 then (((ns.map V.int).length : Nat) : Int) else 4) else 1 : Int) = N0 at hN ⊢
    refine for_gen (itr_at N0.toNat) (B := []) (Iv := fun i σ' H' => ∃ y1 y2 y3 y4 y5 y6 y7 y8 y9, σ' = [some (.ref a), y1, y2, y3, y4, y5, y6, y7, y8, y9]) ⟨_, _, _, _, _, _, _, _, _, rfl⟩ (fun i σ' H1 hi k1 ⟨y1, y2, y3, y4, y5, y6, y7, y8, y9, e⟩ Nn hNn => ?_) fun σ' H1 k1 ⟨y1, y2, y3, y4, y5, y6, y7, y8, y9, e⟩ => ?_
    · subst e
      have hi4 := hN i hi
      refine st_name (st_seq ?_)
      refine ⟨.ref a, rfl, .int i, rfl, a, ns, i, rfl, sqL_kx ha k1, hi4, hl, fun p H2 k2 hp pu => ?_⟩
      have k12 := k1.trans k2
      have A2 : At (Ts ta) [p] p 0 H2 := ⟨fun c hc => by rw [List.mem_singleton.mp hc]; exact pu.ne, by simp, pu, hT.kx k12⟩
      refine ⟨.ref p, rfl, p, 0, [p], 10, 14, rfl, by decide, by decide, by decide, by decide, by decide, A2, fun v d H3 k3 A3 t3 g3 => ?_⟩
      have g3' := g3
      obtain ⟨hh, sts, sis, ask, bls, rfl, h1, h2, s1, s2, i1, i2, a1, b1, gS, gI, gA, gB, -⟩ := g3
      have dsm := near_sm (hh := hh) (by omega) (show sts.length ≤ 5 by omega) (show sis.length ≤ 4 by omega) (show ask.length ≤ 4 by omega) (show bls.length ≤ 15 by omega) gS gI gA gB
      obtain ⟨ad, xd, rfl, ed, td⟩ := t3.tupV
      have al3 := A3.al
      refine st_name ?_
      dsimp only
      refine st_set (st_op ?_)
      refine lit_use (lit_lst al3 (lit_cons (lit_var rfl t3) (lit_cons (lit_listT al3 rfl t3) (lit_cons (lit_takeT al3 (n := 4) (lit_var rfl t3) (by simp)) (lit_cons (lit_catT al3 (lit_var rfl t3) (lit_tup al3 (lit_cons (lit_lst al3 lit_nil (by simp)) lit_nil) (by simp)) (by simp) (by simp) (by simp))
        (lit_cons lit_non (lit_cons lit_str (lit_cons lit_int (lit_cons (lit_lst al3 lit_nil (by simp)) (lit_cons (lit_tup al3 lit_nil (by simp)) (lit_cons (lit_dict al3) lit_nil)))))))))) (by simp)) fun vL H4 k4 tL => ?_
      have A4 := A3.kx k4
      refine ⟨.ref p, rfl, .ref ad, rfl, p, _, [p], .ref ad, _, rfl, by decide, A4, t3.up k4, g3', fun F nds H5 k5 A5 t5 l5 g5 => ?_⟩
      obtain ⟨aL, xL, rfl, eL, txL⟩ := (A4.tr tL k5).listV
      obtain ⟨xF, eF, txF⟩ := t5.items
      have lL := txL.length
      have lF := txF.length
      simp only [List.length_cons, List.length_nil] at lL
      refine ⟨aL, F, xL, xF, rfl, rfl, eL, eF, by unfold sizeLine; omega, fun Th hTh => ?_⟩
      obtain ⟨k6, e6, t6⟩ := mk_lst A5.al (txL.append txF) hTh
      have A6 := A5.kx k6
      generalize upd H5 Th (.lst (xL ++ xF)) = H6 at k6 e6 t6 A6 ⊢
      have k26 : Kx [p] H2 H6 := k3.trans (k4.of.trans (k5.trans k6.of))
      have t36 : Tr [p] H6 (.ref ad) (.tuple [.int hh, .list sts, .list sis, .list ask, .list bls]) := (A4.tr (t3.up k4) k5).up k6
      obtain ⟨q1, q2, q3⟩ := dsm.itemsT
      have okd : ∀ y ∈ [PyData.int hh, .list sts, .list sis, .list ask, .list bls], Bd 60 10000000000 y ∧ y.depth + 1 ≤ 9 := fun y hy => ⟨Bd.up (q3 y hy).1 (by decide) (by decide), by have := (q3 y hy).2; omega⟩
      have ok0 : ∀ y ∈ ([.tuple [.int hh, .list sts, .list sis, .list ask, .list bls], .list [.int hh, .list sts, .list sis, .list ask, .list bls], .tuple ([.int hh, .list sts, .list sis, .list ask, .list bls].take 4), .tuple ([.int hh, .list sts, .list sis, .list ask, .list bls] ++ [.list []]), .none, .str "day", .int 3, .list [], .tuple [], .dict []] : List PyData) ++ nds, Ok y := fun y hy => by
        rcases List.mem_append.mp hy with z | z
        · simp only [List.mem_cons, List.mem_singleton, List.not_mem_nil, or_false] at z
          rcases z with rfl | rfl | rfl | rfl | rfl | rfl | rfl | rfl | rfl | rfl
          · exact dsm.mono (by decide) (by decide) (by decide) (by decide)
          · exact Sm.mkList (by simp) (by omega) okd (by decide)
          · exact Sm.mkTuple (by simp) (by have := szAll_take [.int hh, .list sts, .list sis, .list ask, .list bls] 4; omega) (fun y hy => okd y (List.mem_of_mem_take hy)) (by decide)
          · refine Sm.mkTuple (by simp) (by rw [szAll_append]; simp only [szAll, sz] at q2 ⊢; omega) (fun y hy => ?_) (by decide)
            rcases List.mem_append.mp hy with z | z
            · exact okd y z
            · rw [List.mem_singleton.mp z]
              exact ⟨by simp [Bd, BdAll], by decide⟩
          · exact ⟨trivial, by decide, by decide⟩
          · exact ⟨by show (reprText _).length ≤ 140; decide +kernel, by decide, by decide⟩
          · exact ⟨by show (3 : Int).natAbs ≤ _; decide, by decide, by decide⟩
          · exact ⟨by simp [Bd, BdAll], by decide, by decide⟩
          · exact ⟨by simp [Bd, BdAll], by decide, by decide⟩
          · exact ⟨rfl, by decide, by decide⟩
        · exact g5 y z
      -- bent ones
      refine st_seq (st_for ?_)
      refine ⟨_, rfl, by decide, by decide, ?_⟩
      refine for_gen (itr_at (8 : Int).toNat) (B := [p]) (Iv := fun j σ' H' => (∃ lt z5 z6 z7 z8 z9 dth, σ' = [some (.ref a), some (.int i), some (.ref p), some (.ref ad), some (.ref lt), z5, z6, z7, z8, z9] ∧ Tr [p] H' (.ref lt) (.list dth) ∧ dth.length ≤ 40 + 2 * j ∧ ∀ y ∈ dth, Ok y) ∧ At (Ts ta) [p] p (20000 + 300 * j) H')
        ⟨⟨Th, _, _, _, _, _, _, rfl, t6, by simp only [List.length_append, List.length_cons, List.length_nil]; omega, ok0⟩, A6.mono (by decide)⟩ (fun j σ' H7 hj k7 ⟨⟨lt, z5, z6, z7, z8, z9, dth, e, tt, lt_, okt⟩, A7⟩ Nm hNm => ?_) fun σ' H7 k7 ⟨⟨lt, z5, z6, z7, z8, z9, dth, e, tt, lt_, okt⟩, A7⟩ => ?_
      · subst e
        have hj8 : j < 8 := hj
        have t37 := A6.tr t36 k7
        refine ⟨.ref p, rfl, .ref ad, rfl, 4, by decide, p, _, [p], .ref ad, _, 20, 1000000, 400, rfl, by omega, A7, t37, dsm, by decide, by decide, fun o1 d1 H8 k8 A8 t8 g8 => ?_⟩
        obtain ⟨xt, et, ttx⟩ := (A7.tr tt k8).items
        refine ⟨.ref lt, rfl, o1, rfl, .ref p, rfl, o1, rfl, 5, by decide, p, _, [p], o1, d1, 21, 1001000000, 801, rfl, by omega, A8, t8, g8, by decide, by decide, fun o2 d2 H9 k9 A9 t9 g9 => ⟨len_ok, fun L2 hL2 => ?_⟩⟩
        have t8' := A8.tr t8 k9
        obtain ⟨k10, e10, t10⟩ := mk_lst A9.al (.cons t8' (.cons t9 .nil)) hL2
        have A10 := A9.kx k10
        generalize upd H9 L2 (.lst [o1, o2]) = H10 at k10 e10 t10 A10 ⊢
        obtain ⟨xt2, et2, ttx2⟩ := ((A8.tr (A7.tr tt k8) k9).up k10).items
        have lx2 := ttx2.length
        refine ⟨lt, L2, xt2, _, rfl, rfl, et2, e10, by unfold sizeLine; simp only [List.length_cons, List.length_nil]; omega, fun T2 hT2 => ?_⟩
        obtain ⟨k11, e11, t11⟩ := mk_lst A10.al (ttx2.append (.cons (t8'.up k10) (.cons (t9.up k10) .nil))) hT2
        have A11 := A10.kx k11
        refine hNm _ _ (k7.trans (k8.trans (k9.trans (k10.trans k11).of))) ⟨⟨T2, _, _, _, _, _, _, rfl, t11, by simp only [List.length_append, List.length_cons, List.length_nil]; omega, fun y hy => ?_⟩, A11.mono (by omega)⟩
        rcases List.mem_append.mp hy with z | z
        · exact okt y z
        · simp only [List.mem_cons, List.mem_singleton, List.not_mem_nil, or_false] at z
          rcases z with rfl | rfl
          · exact g8.mono (by decide) (by decide) (by decide) (by decide)
          · exact g9.mono (by decide) (by decide) (by decide) (by decide)
      -- each of them
      subst e
      have k17 : Kx [] H1 H7 := kx_drop k2 hp (k26.trans k7)
      obtain ⟨xt, et, ttx⟩ := tt.nil.items
      have lxt := ttx.length
      have lt8 : dth.length ≤ 56 := lt_
      dsimp only
      refine st_for ?_
      refine ⟨.ref lt, rfl, lt, rfl, ⟨xt, SqL.of et⟩, ?_⟩
      refine for_gen (itl_at (B := []) et (by simp)) (Iv := fun j σ' H' => ∃ z5 z6 z7 z8 z9, σ' = [some (.ref a), some (.int i), some (.ref p), some (.ref ad), some (.ref lt), z5, z6, z7, z8, z9])
        ⟨_, _, _, _, _, rfl⟩ (fun j σ' H8 hj k8 ⟨z5', z6', z7', z8', z9', e⟩ Nm hNm => ?_) fun σ' H8 k8 ⟨z5', z6', z7', z8', z9', e⟩ => ?_
      · subst e
        have ex : xt[j]? = some xt[j] := List.getElem?_eq_getElem hj
        obtain ⟨dx, edx, tx⟩ := (ttx.up k8).get ex
        have eg : xt.getD j .non = xt[j] := by rw [List.getD_eq_getElem?_getD, ex]; rfl
        rw [eg]
        generalize xt[j] = x at tx
        have okx := okt dx (List.mem_of_getElem? edx)
        obtain ⟨w1, w2, w3⟩ := shows okx (by decide) (by decide) (by decide)
        have hT8 := (A7.kx k8).tb
        refine ⟨x, rfl, x, dx, rfl, tx, w1, w2, w3, ?_⟩
        refine ⟨x, rfl, x, dx, rfl, tx, Nat.le_trans okx.sz (by decide), hT8, fun H9 k9 => ?_⟩
        refine ⟨.bl (isDayB dx), rfl, .bl (isDayB dx), .ty "bool", _, _, _, rfl, .ty _, (Tr.bl (B := []) (H := H9) (isDayB dx)).ty, kit_bool (.bool (isDayB dx)), _, rfl, iteF ?_⟩
        refine ⟨.bl (isDayB dx), rfl, x, rfl, x, dx, rfl, tx.up k9, Nat.le_trans okx.sz (by decide), ⟨60, 10000000000, okx.bd, by decide⟩, fun H10 k10 => ?_⟩
        have sc : scal (.bl (isDayB dx)) (.bl (isDayB dx)) = true := rfl
        refine ⟨sc, _, rfl, ?_⟩
        rw [decide_eq_true rfl]
        refine iteF ?_
        refine ⟨x, rfl, x, dx, rfl, tx.up (k9.trans k10), w1, w2, w3, .str dx.shown, rfl, rfl, _, rfl, ?_⟩
        rw [decide_eq_true rfl]
        refine iteF ?_
        exact hNm _ _ (k8.trans (k9.trans k10)) ⟨_, _, _, _, _, rfl⟩
      · subst e
        exact hNn _ _ (k1.trans (k17.trans k8)) ⟨_, _, _, _, _, _, _, _, _, rfl⟩
    · subst e
      dsimp only
      have al0 : ∀ c ∈ ([] : List Addr), H1 c ≠ none := fun c hc => nomatch hc
      refine st_ret (st_andv (st_call8 (st_cons ?_)))
      refine lit_use (lit_tup al0 (lit_cons lit_int (lit_cons (lit_lst al0 (lit_cons lit_int lit_nil) (by simp)) (lit_cons (lit_lst al0 (lit_cons (lit_lst al0 (lit_cons (lit_lst al0 (lit_cons lit_int lit_nil) (by simp)) lit_nil) (by simp)) lit_nil) (by simp)) (lit_cons (lit_lst al0 (lit_cons lit_non lit_nil) (by simp)) (lit_cons (lit_lst al0 lit_nil (by simp)) lit_nil))))) (by simp)) fun v H2 k2 t2 => ?_
      have e1 : isDayB (.tuple [.int 1, .list [.int 0], .list [.list [.list [.int 0]]], .list [.none], .list []]) = true := by decide +kernel
      have e2 : isDayB (.tuple [.int 1, .list [.int 0], .list [.list [.list [.int 1]]], .list [.none], .list []]) = false := by decide +kernel
      refine ⟨v, _, rfl, t2, by decide, hT.kx (k1.trans k2), fun H3 k3 => ⟨_, rfl, ?_⟩⟩
      rw [e1]
      refine iteT (st_notv (st_call8 (st_cons ?_)))
      have al1 : ∀ c ∈ ([] : List Addr), H3 c ≠ none := fun c hc => nomatch hc
      refine lit_use (lit_tup al1 (lit_cons lit_int (lit_cons (lit_lst al1 (lit_cons lit_int lit_nil) (by simp)) (lit_cons (lit_lst al1 (lit_cons (lit_lst al1 (lit_cons (lit_lst al1 (lit_cons lit_int lit_nil) (by simp)) lit_nil) (by simp)) lit_nil) (by simp)) (lit_cons (lit_lst al1 (lit_cons lit_non lit_nil) (by simp)) (lit_cons (lit_lst al1 lit_nil (by simp)) lit_nil))))) (by simp)) fun v4 H4 k4 t4 => ?_
      refine ⟨v4, _, rfl, t4, by decide, hT.kx (k1.trans (k2.trans (k3.trans k4))), fun H5 k5 => ⟨_, rfl, ?_⟩⟩
      rw [e2]
      exact q H5
end
end Law

set_option Elab.async false
set_option linter.all false
set_option maxRecDepth 100000
set_option maxHeartbeats 0
namespace Law
open PySem PySem.Spec PyProof.Rows L2 GxR GX Tree Kit EndG
/-! ### the head -/
def dd_is_number : He.DefD := ⟨("is_number", none), "is_number", "is_number", defArgs s_is_number, defBody s_is_number, defScope s_is_number, [], []⟩
def dd_is_whole : He.DefD := ⟨("is_whole", none), "is_whole", "is_whole", defArgs s_is_whole, defBody s_is_whole, defScope s_is_whole, [], []⟩
def dd_is_list : He.DefD := ⟨("is_list", none), "is_list", "is_list", defArgs s_is_list, defBody s_is_list, defScope s_is_list, [], []⟩
def dd_is_tuple : He.DefD := ⟨("is_tuple", none), "is_tuple", "is_tuple", defArgs s_is_tuple, defBody s_is_tuple, defScope s_is_tuple, [], []⟩
def dd_rises : He.DefD := ⟨("rises", none), "rises", "rises", defArgs s_rises, defBody s_rises, defScope s_rises, [], []⟩
def dd_is_day : He.DefD := ⟨("is_day", none), "is_day", "is_day", defArgs s_is_day, defBody s_is_day, defScope s_is_day, [], []⟩
def dd__are_stores : He.DefD := ⟨("_are_stores", none), "_are_stores", "_are_stores", defArgs s__are_stores, defBody s__are_stores, defScope s__are_stores, [], []⟩
def dd__are_sights : He.DefD := ⟨("_are_sights", none), "_are_sights", "_are_sights", defArgs s__are_sights, defBody s__are_sights, defScope s__are_sights, [], []⟩
def dd__is_sight : He.DefD := ⟨("_is_sight", none), "_is_sight", "_is_sight", defArgs s__is_sight, defBody s__is_sight, defScope s__is_sight, [], []⟩
def dd__are_heard : He.DefD := ⟨("_are_heard", none), "_are_heard", "_are_heard", defArgs s__are_heard, defBody s__are_heard, defScope s__are_heard, [], []⟩
def dd__are_asks : He.DefD := ⟨("_are_asks", none), "_are_asks", "_are_asks", defArgs s__are_asks, defBody s__are_asks, defScope s__are_asks, [], []⟩
def dd__are_blocks : He.DefD := ⟨("_are_blocks", none), "_are_blocks", "_are_blocks", defArgs s__are_blocks, defBody s__are_blocks, defScope s__are_blocks, [], []⟩
def dd_is_block : He.DefD := ⟨("is_block", none), "is_block", "is_block", defArgs s_is_block, defBody s_is_block, defScope s_is_block, [], []⟩
def dd__law_purse : He.DefD := ⟨("_law_purse", none), "_law_purse", "_law_purse", defArgs s__law_purse, defBody s__law_purse, defScope s__law_purse, [], []⟩
def dd__law_coin : He.DefD := ⟨("_law_coin", none), "_law_coin", "_law_coin", defArgs s__law_coin, defBody s__law_coin, defScope s__law_coin, [], []⟩
def dd__law_sight : He.DefD := ⟨("_law_sight", none), "_law_sight", "_law_sight", defArgs s__law_sight, defBody s__law_sight, defScope s__law_sight, [], []⟩
def dd__law_block : He.DefD := ⟨("_law_block", none), "_law_block", "_law_block", defArgs s__law_block, defBody s__law_block, defScope s__law_block, [], []⟩
def dd__law_day : He.DefD := ⟨("_law_day", none), "_law_day", "_law_day", defArgs s__law_day, defBody s__law_day, defScope s__law_day, [], []⟩
def dd__law_other : He.DefD := ⟨("_law_other", none), "_law_other", "_law_other", defArgs s__law_other, defBody s__law_other, defScope s__law_other, [], []⟩
def dd__law_bent_row : He.DefD := ⟨("_law_bent_row", none), "_law_bent_row", "_law_bent_row", defArgs s__law_bent_row, defBody s__law_bent_row, defScope s__law_bent_row, [], []⟩
def dd__law_bent : He.DefD := ⟨("_law_bent", none), "_law_bent", "_law_bent", defArgs s__law_bent, defBody s__law_bent, defScope s__law_bent, [], []⟩
def dd__law_whole : He.DefD := ⟨("_law_whole", none), "_law_whole", "_law_whole", defArgs s__law_whole, defBody s__law_whole, defScope s__law_whole, [], []⟩
def dd__law_each : He.DefD := ⟨("_law_each", none), "_law_each", "_law_each", defArgs s__law_each, defBody s__law_each, defScope s__law_each, [], []⟩
def dd__law_is_sight : He.DefD := ⟨("_law_is_sight", none), "_law_is_sight", "_law_is_sight", defArgs s__law_is_sight, defBody s__law_is_sight, defScope s__law_is_sight, [], []⟩
def dd__law_is_block : He.DefD := ⟨("_law_is_block", none), "_law_is_block", "_law_is_block", defArgs s__law_is_block, defBody s__law_is_block, defScope s__law_is_block, [], []⟩
def dd__law_is_day : He.DefD := ⟨("_law_is_day", none), "_law_is_day", "_law_is_day", defArgs s__law_is_day, defBody s__law_is_day, defScope s__law_is_day, [], []⟩
def dd__law_near : He.DefD := ⟨("_law_near", none), "_law_near", "_law_near", defArgs s__law_near, defBody s__law_near, defScope s__law_near, [], []⟩
def dd_law : He.DefD := ⟨("law", none), "law", "law", defArgs s_law, defBody s_law, defScope s_law, [], []⟩
def fns : List He.DefD := [dd_is_number, dd_is_whole, dd_is_list, dd_is_tuple, dd_rises, dd_is_day, dd__are_stores, dd__are_sights, dd__is_sight, dd__are_heard, dd__are_asks, dd__are_blocks, dd_is_block, dd__law_purse, dd__law_coin, dd__law_sight, dd__law_block, dd__law_day, dd__law_other, dd__law_bent_row, dd__law_bent, dd__law_whole, dd__law_each, dd__law_is_sight, dd__law_is_block, dd__law_is_day, dd__law_near, dd_law]
def fas : List He.Fa := [.glo "is_number", .glo "is_whole", .glo "is_list", .glo "is_tuple", .glo "rises", .glo "is_day", .glo "_are_stores", .glo "_are_sights", .glo "_is_sight", .glo "_are_heard", .glo "_are_asks", .glo "_are_blocks", .glo "is_block", .glo "_law_purse", .glo "_law_coin", .glo "_law_sight", .glo "_law_block", .glo "_law_day", .glo "_law_other", .glo "_law_bent_row", .glo "_law_bent", .glo "_law_whole", .glo "_law_each", .glo "_law_is_sight", .glo "_law_is_block", .glo "_law_is_day", .glo "_law_near", .glo "law", .int "MOST_HOURS" 10, .int "MOST_CRAFT" 4, .int "MOST_STORE" 5, .int "MOST_DISHES" 3, .int "MOST_ASK" 999, .int "MOST_BLOCKS" 14, .int "MOST_HOUSE" 5, .int "MOST_WORTH" 9999, .free "len", .free "range", .free "isinstance", .free "int", .free "bool", .free "str", .free "list", .free "tuple", .free "set", .free "dict", .free "sorted", .free "repr", .free "max", .free "min", .free "sum", .free "all", .free "any"]
def tfs : List He.Defn := [("rises", none), ("_are_stores", none), ("_are_sights", none), ("_is_sight", none), ("_are_heard", none), ("_are_asks", none), ("_are_blocks", none)]
def looseN : List Str := (["MOST_HOURS", "MOST_CRAFT", "MOST_STORE", "MOST_DISHES", "MOST_ASK", "MOST_BLOCKS", "MOST_HOUSE", "MOST_WORTH", "is_number", "is_whole", "is_list", "is_tuple", "rises", "is_day", "_are_stores", "_are_sights", "_is_sight", "_are_heard", "_are_asks", "_are_blocks", "is_block", "_law_purse", "_law_coin", "_law_sight", "_law_block", "_law_day", "_law_other", "_law_bent_row", "_law_bent", "_law_whole"] : List Str) ++ (["_law_each", "_law_is_sight", "_law_is_block", "_law_is_day", "_law_near"] : List Str)
abbrev R : PySem.W.OpenRow := PySem.W.OpenLaw.row PySem.Challenge.rw_skyprices_k01_what_is_a_day
def lawAt : Nat := 37
/-- sys.modules is a dict -/
def smB (g : Addr → Option Obj) : Bool := match g sysModules with
  | some o => decide (o.cls = .type "dict")
  | none => false
theorem smB_ok {h : Heap} (e : smB h.get? = true) : ∃ o, h.get? sysModules = some o ∧ o.cls = .type "dict" := by
  unfold smB at e
  cases q : h.get? sysModules with
  | none => rw [q] at e; cases e
  | some o => rw [q] at e; exact ⟨o, rfl, of_decide_eq_true e⟩
abbrev exT : PySem.W.Frag → Bool := fun _ => true
def hookS (n : Nat) (fa : List He.Fa) (fn : List He.DefD) (tf : List He.Defn) : PySem.W.Hook where
  α := He.AlX × Bool
  obs := fun s => (He.obsX n fa fn [] tf exT s.heap.get?, smB s.heap.get?)
  val := fun w => (He.valX fn [] w, true)
  says := fun w h => (∃ K : PySem.W.Frag, K.In h ∧ He.SaysX fa fn [] tf exT w h K) ∧ ∃ o, h.get? sysModules = some o ∧ o.cls = .type "dict"
  of := fun _ _ e => ⟨⟨_, He.frT_in, He.saysX_of (congrArg (fun z : He.AlX × Bool => z.1) e)⟩, smB_ok (congrArg (fun z : He.AlX × Bool => z.2) e)⟩
  keeps := fun _ _ _ ⟨⟨K, hK, c⟩, o, e, c2⟩ k => ⟨⟨K, PySem.W.Frag.In.keeps hK k, ⟨c.t, c.more, c.hd, c.out, fun p hp => k _ _ (c.empty p hp)⟩⟩, o, k _ _ e, c2⟩
abbrev hk : PySem.W.Hook := hookS 4 fas fns tfs
def ob (s : PySem.W.SharedT) : He.AlX × Bool := (He.obsX 4 fas fns [] tfs exT (HandSHeadRun.getT s), smB (HandSHeadRun.getT s))
theorem ob_eq (s : PySem.W.SharedT) : ob s = hk.obs s.abs := by
  have e : HandSHeadRun.getT s = s.abs.heap.get? := funext (HandSHeadRun.getT_eq s)
  unfold ob
  rw [e]
  rfl
theorem run (w : World) : HandSHeadRun.RunEq R (PySem.W.view R.prog [lawAt]) hk ob 2000 looseN w := by
  intro os
  kernel_rfl
def fdOf (K : PySem.W.Frag) (d0 : FuncData) (x : String) : FuncData := match K.lookup (He.ga K x) with
  | some ⟨_, _, .func fd, _⟩ => fd
  | _ => d0
theorem fdOf_eq {K : PySem.W.Frag} {d0 : FuncData} {x : String} {q : Str} {pa : Arguments} {b : List Stmt} {sc : Scope} {fd : FuncData} (F : FunD K x q pa b sc [] [] (He.ga K x) fd) : fdOf K d0 x = fd := by
  obtain ⟨oc, od, dV, kV, doc, pm, an, cdv, ct, osl, rfl, lk, hcd, _, _⟩ := F.ex
  unfold fdOf
  rw [lk]
theorem code_at {K : PySem.W.Frag} {x : String} {q : Str} {pa : Arguments} {b : List Stmt} {sc : Scope} {fd : FuncData} (F : FunD K x q pa b sc [] [] (He.ga K x) fd) : fd.code = .ref (He.codeOf K (x, none)) := by
  obtain ⟨oc, od, dV, kV, doc, pm, an, cdv, ct, osl, rfl, lk, hcd, _, _⟩ := F.ex
  obtain ⟨c, rfl⟩ := He.codeIn_ref hcd
  rw [He.codeOf_eq (p := (x, none)) lk rfl]
theorem facts {w : World} {K : PySem.W.Frag} {h : Heap} {mg : Str → Option Value} (X : K.In h) (G : h.Ns mainGlobals mg) (c : He.SaysX fas fns [] tfs exT w h K) (d0 : FuncData) (base : Heap) (hB : ∀ p ∈ tfs.map (He.cT K), LamX.TabB base mg p.1 p.2) :
    Facts K mg base (fun x => He.ga K x) (fdOf K d0) (fun x => He.codeOf K (x, none)) (fun x => He.tabOf K (He.codeOf K (x, none))) := by
  have d := c.t.d
  obtain ⟨f_is_number, F_is_number⟩ := d.def_ 0 (d := dd_is_number) rfl
  obtain ⟨f_is_whole, F_is_whole⟩ := d.def_ 1 (d := dd_is_whole) rfl
  obtain ⟨f_is_list, F_is_list⟩ := d.def_ 2 (d := dd_is_list) rfl
  obtain ⟨f_is_tuple, F_is_tuple⟩ := d.def_ 3 (d := dd_is_tuple) rfl
  obtain ⟨f_rises, F_rises⟩ := d.def_ 4 (d := dd_rises) rfl
  obtain ⟨f_is_day, F_is_day⟩ := d.def_ 5 (d := dd_is_day) rfl
  obtain ⟨f__are_stores, F__are_stores⟩ := d.def_ 6 (d := dd__are_stores) rfl
  obtain ⟨f__are_sights, F__are_sights⟩ := d.def_ 7 (d := dd__are_sights) rfl
  obtain ⟨f__is_sight, F__is_sight⟩ := d.def_ 8 (d := dd__is_sight) rfl
  obtain ⟨f__are_heard, F__are_heard⟩ := d.def_ 9 (d := dd__are_heard) rfl
  obtain ⟨f__are_asks, F__are_asks⟩ := d.def_ 10 (d := dd__are_asks) rfl
  obtain ⟨f__are_blocks, F__are_blocks⟩ := d.def_ 11 (d := dd__are_blocks) rfl
  obtain ⟨f_is_block, F_is_block⟩ := d.def_ 12 (d := dd_is_block) rfl
  obtain ⟨f__law_purse, F__law_purse⟩ := d.def_ 13 (d := dd__law_purse) rfl
  obtain ⟨f__law_coin, F__law_coin⟩ := d.def_ 14 (d := dd__law_coin) rfl
  obtain ⟨f__law_sight, F__law_sight⟩ := d.def_ 15 (d := dd__law_sight) rfl
  obtain ⟨f__law_block, F__law_block⟩ := d.def_ 16 (d := dd__law_block) rfl
  obtain ⟨f__law_day, F__law_day⟩ := d.def_ 17 (d := dd__law_day) rfl
  obtain ⟨f__law_other, F__law_other⟩ := d.def_ 18 (d := dd__law_other) rfl
  obtain ⟨f__law_bent_row, F__law_bent_row⟩ := d.def_ 19 (d := dd__law_bent_row) rfl
  obtain ⟨f__law_bent, F__law_bent⟩ := d.def_ 20 (d := dd__law_bent) rfl
  obtain ⟨f__law_whole, F__law_whole⟩ := d.def_ 21 (d := dd__law_whole) rfl
  obtain ⟨f__law_each, F__law_each⟩ := d.def_ 22 (d := dd__law_each) rfl
  obtain ⟨f__law_is_sight, F__law_is_sight⟩ := d.def_ 23 (d := dd__law_is_sight) rfl
  obtain ⟨f__law_is_block, F__law_is_block⟩ := d.def_ 24 (d := dd__law_is_block) rfl
  obtain ⟨f__law_is_day, F__law_is_day⟩ := d.def_ 25 (d := dd__law_is_day) rfl
  obtain ⟨f__law_near, F__law_near⟩ := d.def_ 26 (d := dd__law_near) rfl
  obtain ⟨f_law, F_law⟩ := d.def_ 27 (d := dd_law) rfl
  refine ⟨?_,
    ?_,
    ?_,
    ?_,
    ?_,
    ?_,
    ?_,
    ?_,
    ?_,
    ?_,
    ?_,
    ?_,
    ?_,
    ?_,
    ?_,
    ?_,
    ?_,
    ?_,
    ?_,
    ?_,
    ?_,
    ?_,
    ?_,
    ?_,
    ?_,
    ?_,
    ?_,
    ?_,
    ?_,
    ?_,
    ?_,
    ?_,
    ?_,
    ?_,
    ?_,
    ?_,
    ?_,
    ?_,
    ?_,
    ?_,
    ?_,
    ?_,
    ?_⟩
  · exact ⟨He.free_ok X G (d.fact 36 (f := .free "len") rfl), He.free_ok X G (d.fact 37 (f := .free "range") rfl), He.free_ok X G (d.fact 38 (f := .free "isinstance") rfl), He.free_ok X G (d.fact 39 (f := .free "int") rfl), He.free_ok X G (d.fact 40 (f := .free "bool") rfl), He.free_ok X G (d.fact 41 (f := .free "str") rfl), He.free_ok X G (d.fact 42 (f := .free "list") rfl), He.free_ok X G (d.fact 43 (f := .free "tuple") rfl), He.free_ok X G (d.fact 44 (f := .free "set") rfl), He.free_ok X G (d.fact 45 (f := .free "dict") rfl), He.free_ok X G (d.fact 46 (f := .free "sorted") rfl), He.free_ok X G (d.fact 47 (f := .free "repr") rfl), He.free_ok X G (d.fact 48 (f := .free "max") rfl), He.free_ok X G (d.fact 49 (f := .free "min") rfl), He.free_ok X G (d.fact 50 (f := .free "sum") rfl), He.free_ok X G (d.fact 51 (f := .free "all") rfl), He.free_ok X G (d.fact 52 (f := .free "any") rfl)⟩
  · exact He.int_ok X G (d.fact 28 (f := .int "MOST_HOURS" 10) rfl)
  · exact He.int_ok X G (d.fact 29 (f := .int "MOST_CRAFT" 4) rfl)
  · exact He.int_ok X G (d.fact 30 (f := .int "MOST_STORE" 5) rfl)
  · exact He.int_ok X G (d.fact 31 (f := .int "MOST_DISHES" 3) rfl)
  · exact He.int_ok X G (d.fact 32 (f := .int "MOST_ASK" 999) rfl)
  · exact He.int_ok X G (d.fact 33 (f := .int "MOST_BLOCKS" 14) rfl)
  · exact He.int_ok X G (d.fact 34 (f := .int "MOST_HOUSE" 5) rfl)
  · exact He.int_ok X G (d.fact 35 (f := .int "MOST_WORTH" 9999) rfl)
  · rw [fdOf_eq F_is_number]
    exact ⟨F_is_number, He.glo_ok X G (d.fact 0 (f := .glo "is_number") rfl), FunD.bindsN F_is_number fun _ _ _ _ _ _ us hl => match us, hl with | [_], _ => rfl⟩
  · rw [fdOf_eq F_is_whole]
    exact ⟨F_is_whole, He.glo_ok X G (d.fact 1 (f := .glo "is_whole") rfl), FunD.bindsN F_is_whole fun _ _ _ _ _ _ us hl => match us, hl with | [_, _, _], _ => rfl⟩
  · rw [fdOf_eq F_is_list]
    exact ⟨F_is_list, He.glo_ok X G (d.fact 2 (f := .glo "is_list") rfl), FunD.bindsN F_is_list fun _ _ _ _ _ _ us hl => match us, hl with | [_, _, _], _ => rfl⟩
  · rw [fdOf_eq F_is_tuple]
    exact ⟨F_is_tuple, He.glo_ok X G (d.fact 3 (f := .glo "is_tuple") rfl), FunD.bindsN F_is_tuple fun _ _ _ _ _ _ us hl => match us, hl with | [_, _], _ => rfl⟩
  · rw [fdOf_eq F_rises]
    exact ⟨F_rises, He.glo_ok X G (d.fact 4 (f := .glo "rises") rfl), FunD.bindsN F_rises fun _ _ _ _ _ _ us hl => match us, hl with | [_], _ => rfl⟩
  · rw [fdOf_eq F_is_day]
    exact ⟨F_is_day, He.glo_ok X G (d.fact 5 (f := .glo "is_day") rfl), FunD.bindsN F_is_day fun _ _ _ _ _ _ us hl => match us, hl with | [_], _ => rfl⟩
  · rw [fdOf_eq F__are_stores]
    exact ⟨F__are_stores, He.glo_ok X G (d.fact 6 (f := .glo "_are_stores") rfl), FunD.bindsN F__are_stores fun _ _ _ _ _ _ us hl => match us, hl with | [_], _ => rfl⟩
  · rw [fdOf_eq F__are_sights]
    exact ⟨F__are_sights, He.glo_ok X G (d.fact 7 (f := .glo "_are_sights") rfl), FunD.bindsN F__are_sights fun _ _ _ _ _ _ us hl => match us, hl with | [_, _, _], _ => rfl⟩
  · rw [fdOf_eq F__is_sight]
    exact ⟨F__is_sight, He.glo_ok X G (d.fact 8 (f := .glo "_is_sight") rfl), FunD.bindsN F__is_sight fun _ _ _ _ _ _ us hl => match us, hl with | [_, _, _], _ => rfl⟩
  · rw [fdOf_eq F__are_heard]
    exact ⟨F__are_heard, He.glo_ok X G (d.fact 9 (f := .glo "_are_heard") rfl), FunD.bindsN F__are_heard fun _ _ _ _ _ _ us hl => match us, hl with | [_, _], _ => rfl⟩
  · rw [fdOf_eq F__are_asks]
    exact ⟨F__are_asks, He.glo_ok X G (d.fact 10 (f := .glo "_are_asks") rfl), FunD.bindsN F__are_asks fun _ _ _ _ _ _ us hl => match us, hl with | [_, _], _ => rfl⟩
  · rw [fdOf_eq F__are_blocks]
    exact ⟨F__are_blocks, He.glo_ok X G (d.fact 11 (f := .glo "_are_blocks") rfl), FunD.bindsN F__are_blocks fun _ _ _ _ _ _ us hl => match us, hl with | [_, _, _], _ => rfl⟩
  · rw [fdOf_eq F_is_block]
    exact ⟨F_is_block, He.glo_ok X G (d.fact 12 (f := .glo "is_block") rfl), FunD.bindsN F_is_block fun _ _ _ _ _ _ us hl => match us, hl with | [_, _, _], _ => rfl⟩
  · rw [fdOf_eq F__law_purse]
    exact ⟨F__law_purse, He.glo_ok X G (d.fact 13 (f := .glo "_law_purse") rfl), FunD.bindsN F__law_purse fun _ _ _ _ _ _ us hl => match us, hl with | [_, _], _ => rfl⟩
  · rw [fdOf_eq F__law_coin]
    exact ⟨F__law_coin, He.glo_ok X G (d.fact 14 (f := .glo "_law_coin") rfl), FunD.bindsN F__law_coin fun _ _ _ _ _ _ us hl => match us, hl with | [_, _], _ => rfl⟩
  · rw [fdOf_eq F__law_sight]
    exact ⟨F__law_sight, He.glo_ok X G (d.fact 15 (f := .glo "_law_sight") rfl), FunD.bindsN F__law_sight fun _ _ _ _ _ _ us hl => match us, hl with | [_, _, _], _ => rfl⟩
  · rw [fdOf_eq F__law_block]
    exact ⟨F__law_block, He.glo_ok X G (d.fact 16 (f := .glo "_law_block") rfl), FunD.bindsN F__law_block fun _ _ _ _ _ _ us hl => match us, hl with | [_, _, _], _ => rfl⟩
  · rw [fdOf_eq F__law_day]
    exact ⟨F__law_day, He.glo_ok X G (d.fact 17 (f := .glo "_law_day") rfl), FunD.bindsN F__law_day fun _ _ _ _ _ _ us hl => match us, hl with | [_, _, _], _ => rfl⟩
  · rw [fdOf_eq F__law_other]
    exact ⟨F__law_other, He.glo_ok X G (d.fact 18 (f := .glo "_law_other") rfl), FunD.bindsN F__law_other fun _ _ _ _ _ _ us hl => match us, hl with | [_, _], _ => rfl⟩
  · rw [fdOf_eq F__law_bent_row]
    exact ⟨F__law_bent_row, He.glo_ok X G (d.fact 19 (f := .glo "_law_bent_row") rfl), FunD.bindsN F__law_bent_row fun _ _ _ _ _ _ us hl => match us, hl with | [_, _], _ => rfl⟩
  · rw [fdOf_eq F__law_bent]
    exact ⟨F__law_bent, He.glo_ok X G (d.fact 20 (f := .glo "_law_bent") rfl), FunD.bindsN F__law_bent fun _ _ _ _ _ _ us hl => match us, hl with | [_, _], _ => rfl⟩
  · rw [fdOf_eq F__law_whole]
    exact ⟨F__law_whole, He.glo_ok X G (d.fact 21 (f := .glo "_law_whole") rfl), FunD.bindsN F__law_whole fun _ _ _ _ _ _ us hl => match us, hl with | [_, _, _], _ => rfl⟩
  · rw [fdOf_eq F__law_each]
    exact ⟨F__law_each, He.glo_ok X G (d.fact 22 (f := .glo "_law_each") rfl), FunD.bindsN F__law_each fun _ _ _ _ _ _ us hl => match us, hl with | [_, _, _], _ => rfl⟩
  · rw [fdOf_eq F__law_is_sight]
    exact ⟨F__law_is_sight, He.glo_ok X G (d.fact 23 (f := .glo "_law_is_sight") rfl), FunD.bindsN F__law_is_sight fun _ _ _ _ _ _ us hl => match us, hl with | [_, _, _], _ => rfl⟩
  · rw [fdOf_eq F__law_is_block]
    exact ⟨F__law_is_block, He.glo_ok X G (d.fact 24 (f := .glo "_law_is_block") rfl), FunD.bindsN F__law_is_block fun _ _ _ _ _ _ us hl => match us, hl with | [_, _, _], _ => rfl⟩
  · rw [fdOf_eq F__law_is_day]
    exact ⟨F__law_is_day, He.glo_ok X G (d.fact 25 (f := .glo "_law_is_day") rfl), FunD.bindsN F__law_is_day fun _ _ _ _ _ _ us hl => match us, hl with | [_], _ => rfl⟩
  · rw [fdOf_eq F__law_near]
    exact ⟨F__law_near, He.glo_ok X G (d.fact 26 (f := .glo "_law_near") rfl), FunD.bindsN F__law_near fun _ _ _ _ _ _ us hl => match us, hl with | [_, _], _ => rfl⟩
  · rw [fdOf_eq F_rises]
    exact ⟨code_at F_rises, hB _ (List.mem_map.mpr ⟨("rises", none), by simp [tfs], rfl⟩)⟩
  · rw [fdOf_eq F__are_stores]
    exact ⟨code_at F__are_stores, hB _ (List.mem_map.mpr ⟨("_are_stores", none), by simp [tfs], rfl⟩)⟩
  · rw [fdOf_eq F__are_sights]
    exact ⟨code_at F__are_sights, hB _ (List.mem_map.mpr ⟨("_are_sights", none), by simp [tfs], rfl⟩)⟩
  · rw [fdOf_eq F__is_sight]
    exact ⟨code_at F__is_sight, hB _ (List.mem_map.mpr ⟨("_is_sight", none), by simp [tfs], rfl⟩)⟩
  · rw [fdOf_eq F__are_heard]
    exact ⟨code_at F__are_heard, hB _ (List.mem_map.mpr ⟨("_are_heard", none), by simp [tfs], rfl⟩)⟩
  · rw [fdOf_eq F__are_asks]
    exact ⟨code_at F__are_asks, hB _ (List.mem_map.mpr ⟨("_are_asks", none), by simp [tfs], rfl⟩)⟩
  · rw [fdOf_eq F__are_blocks]
    exact ⟨code_at F__are_blocks, hB _ (List.mem_map.mpr ⟨("_are_blocks", none), by simp [tfs], rfl⟩)⟩
theorem lawAtG_ok {w : World} {K : PySem.W.Frag} {h : Heap} {mg : Str → Option Value} {f : Addr} (X : K.In h) (G : h.Ns mainGlobals mg) (hf : mg ("law" : Str) = some (.ref f)) (c : He.SaysX fas fns [] tfs exT w h K) (hsm : ∃ o, h.get? sysModules = some o ∧ o.cls = .type "dict") :
    LawAtG PySem.Challenge.rw_skyprices_k01_what_is_a_day w K 15 63 ("script" : Str) mg f h := by
  have d := c.t.d
  obtain ⟨fl, FL⟩ := d.def_ 27 (d := dd_law) rfl
  have e := hf.symm.trans (He.glo_ok X G (d.fact 27 (f := .glo "law") rfl))
  cases e
  refine ⟨fl, tfs.map (He.cT K), sp_law K (fun x => He.tabOf K (He.codeOf K (x, none))), fun p hp => ?_, fun p hp => ?_, fun p hp => ?_, hsm, fun s u => ?_, fun H a ns hn _ hH hS => ?_, fun base hB hN hT hs => ?_⟩
  · obtain ⟨q, hq, rfl⟩ := List.mem_map.mp hp
    exact c.empty q hq
  · obtain ⟨q, hq, rfl⟩ := List.mem_map.mp hp
    exact c.out q hq
  · obtain ⟨q, hq, rfl⟩ := List.mem_map.mp hp
    exact PySem.W.codeHd_of_K X (c.hd q hq)
  · exact FunD.bindsA (ps := ["script"]) FL (fun _ _ _ _ _ _ us hl => match us, hl with | [_], _ => rfl) s [u] rfl
  · refine ⟨a, ns, rfl, hS, hn, fun P hP => ?_, fun _ => rfl⟩
    have key : ∀ x : String, ((x : Str), (none : Option Str)) ∈ tfs → TabG H (He.tabOf K (He.codeOf K (x, none))) := fun x hx => ⟨#[], hH _ (List.mem_map.mpr ⟨_, hx, rfl⟩), by simp [TriplesOk]⟩
    simp only [Ts, List.mem_cons, List.not_mem_nil, or_false] at hP
    rcases hP with rfl | rfl | rfl | rfl | rfl | rfl | rfl
    · exact key "rises" (by simp [tfs])
    · exact key "_are_stores" (by simp [tfs])
    · exact key "_are_sights" (by simp [tfs])
    · exact key "_is_sight" (by simp [tfs])
    · exact key "_are_heard" (by simp [tfs])
    · exact key "_are_asks" (by simp [tfs])
    · exact key "_are_blocks" (by simp [tfs])
  · exact ok_law (facts X G c fl base hT) FL hs
end Law

set_option Elab.async false
open PySem PySem.W PySem.Calls PyProof.Rows
set_option maxRecDepth 100000 in
set_option maxHeartbeats 0 in
theorem PySem.Challenge.cw_skyprices_k01_what_is_a_day_holds : PySem.Challenge.rw_skyprices_k01_what_is_a_day.Holds := by
  w_on; o_law
  refine HandSHeadRun.head_any (r := OpenLaw.row PySem.Challenge.rw_skyprices_k01_what_is_a_day) (q := view (OpenLaw.row PySem.Challenge.rw_skyprices_k01_what_is_a_day).prog [Law.lawAt]) (H := Law.hk) (ob := Law.ob) (M := 2000) (loose := Law.looseN) (d := HandSHeadRun.topDef (OpenLaw.row PySem.Challenge.rw_skyprices_k01_what_is_a_day).prog Law.lawAt) (kwd := []) Law.ob_eq
    (by kernel_rfl) (fun s => by kernel_rfl) Law.run (by kernel_rfl) (by kernel_rfl) (by kernel_rfl) (by rfl) (by first | assumption | decide +kernel) (by decide +kernel) ⟨rfl, rfl, rfl, rfl, rfl, by decide +kernel⟩ ?hw ?hc
  case hw => w_witness2
  case hc =>
    refine EndG.walk_ofG (l := PySem.Challenge.rw_skyprices_k01_what_is_a_day) (n := 63) (k := 15) (x := "script") rfl (by decide) (by kernel_rfl) ⟨rfl, by decide, by decide⟩ ?F
    intro w mg fa h Y G hmg0
    obtain ⟨⟨K, KX, c⟩, hsm⟩ := Y
    have hmg : mg ("law" : PySem.Str) = some (.ref fa) := by
      have e : (HandSHeadRun.topDef (OpenLaw.row PySem.Challenge.rw_skyprices_k01_what_is_a_day).prog Law.lawAt).name = ("law" : PySem.Str) := by kernel_rfl
      rw [← e]
      exact hmg0
    exact ⟨K, KX, Law.lawAtG_ok KX G hmg c hsm⟩
