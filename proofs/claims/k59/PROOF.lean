import PyProof.Rows.All
import Wide.All
import OpenK.AllK
import Wide.FinOn
import HandS.AnyAll
import HandS.GenOver
import HandS.ForMost
import HandS.IsInst
import HandS.EndTab
import HandS.Wide
import HandS.Style
import HandS.Defaults
import HandS.Head0
import HandS.Head1
import HandS.Head2
import HandS.HeadEnd
import HandS.HeadHook1
import HandS.HeadHook2
import HandS.HeadHook3
import HandS.HeadHook4
import HandS.HeadWalk
import HandS.EndOwn
import HandS.Evl
import HandS.TupAny
import HandS.DictComp
import HandS.More
import HandS.Walk
import HandS.WordsDict
import HandS.Conv
import HandS.Strs
import HandS.Deep
import PyProof.TupleOfGen
import HandS.List
import HandS.Text
import HandS.FStr
import HandS.Steps
import HandS.Iter
import KE.KDictList
import HandS.ListItems
import HandS.SetFor
import HandS.Zip
import PyProof.P3Eq
import HandS.RaiseMore
import HandS.Star
import HandS.Finally
import PySem.Challenge.RW_hearkenway_k59_desk_of_hearings
set_option Elab.async false
set_option linter.all false
set_option maxRecDepth 100000
set_option maxHeartbeats 2000000
namespace GAl
open PySem PySem.Spec PyProof.Rows L2 GxR
open Sem (wp)

theorem Inv.kall {X : Cx} {pins : List (Addr × Obj)} {σ : L2.St} {H : Hp} {s s'' : Shared} (I : Inv X pins σ H s) (ho : s''.os = s.os) (hb : AllBare s''.gens)
    (k : ∀ b o, s.heap.get? b = some o → s''.heap.get? b = some o) : Inv X pins σ H s'' := by
  obtain ⟨h', g', d', t', o'⟩ := s''
  have e : o' = s.os := ho
  subst e
  exact I.call (h' := h') (g' := g') (d' := d') (t' := t') (ch := []) (Un.kept k) (I.hok.kept k) hb (fun b z => absurd z (by simp))

theorem bare_set {s : Shared} {g : Nat} {x : GenState} (h : AllBare s.gens) (hx : x.bare = true) : AllBare (s.setGen g x).gens := by
  intro y hy
  simp only [Shared.setGen] at hy
  rcases Array.mem_or_eq_of_mem_setIfInBounds hy with z | z
  · exact h y z
  · rw [z]; exact hx

/-- the context of a generator expression's code -/
abbrev gcx (X : Cx) (A' : Around) (s : Shared) (H : Hp) (cenv : Env) (fp : List Addr) : Cx :=
  { X with A := A', s_0 := s, H_0 := H, env := cenv, outer := X.stack, stack := cenv :: X.stack, ex := fp, fn := fun _ => false, pn := [], xe := fun _ _ => False }

section
variable {X : Cx} {pins : List (Addr × Obj)} {σ : L2.St} {H : Hp} {s : Shared}

theorem gen_start {scope : Scope} {own : List (Str × Nat)} {fp : List Addr} {A' : Around} {cenv : Env} {code : Value} {m : Str → Option Value} {h5 : Heap} {g' : Array GenState} {t5 : Nat} {a : Addr} {oa : Obj}
    (I : Inv X pins σ H s) (ok : BlkOk X.N X.env.scope scope own) (hcell : ∀ y ∈ scope.names, y.2 ≠ .cell) (hN : X.N.Nodup)
    (hfp : ∀ b ∈ fp, FpOk X pins H b ∧ b < s.heap.objs.size)
    (hce : cenv = genEnv scope (cloFrom X.env.cells scope.names []) s.heap.objs.size code builtinsNs X.env)
    (hA : A'.frames = some (cenv :: X.stack)) (hh : A'.handled = none)
    (hns : h5.Ns s.heap.objs.size m) (kp : ∀ b o, s.heap.get? b = some o → h5.get? b = some o) (hb : AllBare g')
    (ha : h5.get? a = some oa) (hla : s.heap.objs.size < a) (hda : ∀ v, oa.data ≠ .cell v) :
    Inv (gcx X A' s H cenv fp) [(a, oa)] (wipe σ (own.map (·.2))) H { s with heap := h5, gens := g', toks := t5 } := by
  have hfree : ∀ y ∈ scope.names, y.2 = .free → ∃ c, X.env.cells.lookup y.1 = some c := fun y hy e => by
    rcases ok.free y hy e with k | k
    · exact I.ok.has _ (.inl k)
    · exact I.ok.has _ (.inr k)
  have hL : cenv.locals = s.heap.objs.size := by rw [hce]; rfl
  have hcl : cenv.cells = cloFrom X.env.cells scope.names [] := by rw [hce]; rfl
  have hsc : cenv.scope = scope := by rw [hce]; rfl
  have mem : ∀ {y c}, cenv.cells.lookup y = some c → X.env.cells.lookup y = some c ∧ c < s.heap.objs.size := fun {y c} e => by
    rw [hcl] at e
    rcases cloFrom_mem (PySem.mem_of_lookup e) with hm | ⟨h1, rfl⟩
    · cases hm
    · obtain ⟨c, hc⟩ := hfree _ h1 rfl
      rw [hc]
      obtain ⟨w, z⟩ := I.cell _ _ hc
      exact ⟨rfl, z.lt⟩
  have look : ∀ {y}, scope.names.lookup y = some .free → ∃ c, cenv.cells.lookup y = some c ∧ X.env.cells.lookup y = some c := fun {y} hl => by
    have hy : (y, NameKind.free) ∈ scope.names := PySem.mem_of_lookup hl
    obtain ⟨c', e'⟩ := mem_lookup (cloFrom_has (cells := X.env.cells) (acc := []) hy)
    rw [← hcl] at e'
    exact ⟨c', e', (mem e').1⟩
  have kfree : ∀ {y k}, cenv.kindOf y = some k → (k = .cell ∨ k = .free) → scope.names.lookup y = some .free := fun {y k} hk hk' => by
    unfold Env.kindOf at hk
    rw [hsc] at hk
    rcases hk' with rfl | rfl
    · exact absurd rfl (hcell _ (PySem.mem_of_lookup hk))
    · exact hk
  have okB : (gcx X A' s H cenv fp).Ok := by
    refine ⟨I.ok.mod, by show cenv.scope.kind = _; rw [hsc]; exact ok.kind, by show cenv.globals = _; rw [hce]; exact I.ok.glob, by show cenv.builtins = _; rw [hce]; rfl, by show s.heap.objs.size ≤ cenv.locals; rw [hL]; exact Nat.le_refl _,
      fun y z c e1 e2 => I.ok.inj y z c (mem e1).1 (mem e2).1, fun y hy => ?_, fun y c z e => (by cases z), fun _ => hh, hA, .inr ⟨rfl, by show cenv.frame = some cenv.locals; rw [hce]; rfl⟩, fun b hb => ⟨?_, fun y c e z => ?_⟩, I.bs, Nat.le_trans I.ok.bsz I.sz, fun b o e hb => ?_, fun b hb z => ?_, I.stack, I.stkFree⟩
    · rcases hy with hy | hy
      · obtain ⟨c, h1, _⟩ := look (kfree hy (.inl rfl)); exact ⟨c, h1⟩
      · obtain ⟨c, h1, _⟩ := look (kfree hy (.inr rfl)); exact ⟨c, h1⟩
    · show b ≠ cenv.locals
      rw [hL]; exact Nat.ne_of_lt (hfp b hb).2
    · exact (hfp b hb).1.2.2.2.2.1 y c (mem e).1 z
    · rcases (hfp b hb).1.2.2.2.1 with z | z
      · exact I.ok.noex b o e z
      · exact absurd (Nat.lt_of_lt_of_le (Heap.lt_size e) (Nat.le_trans I.ok.bsz z)) (Nat.lt_irrefl _)
    · rcases List.mem_cons.mp (I.stkSub b z) with z | z
      · exact (hfp b hb).1.2.1 z
      · exact (hfp b hb).1.2.2.1 z
  refine ⟨okB, rfl, hb, Un.kept kp, ⟨m, ?_, fun i y av e1 e2 e3 => ?_⟩, fun y c e => ?_, ?_, fun y c e => ?_, fun p hp => ?_, I.hok.kept kp, by rw [wipe_length]; exact I.len⟩
  · show Heap.Ns _ cenv.locals _
    rw [hL]
    exact hns
  · obtain ⟨e2, hne⟩ := wipe_some e2
    have hfr : scope.names.lookup y = some .free := by
      have key : ∀ k, scope.names.lookup y = some k → k = .local ∨ k = .cell ∨ k = .free → scope.names.lookup y = some .free := fun k hk hk' => by
        have no : ¬ (k = .local ∨ k = .cell) := fun hh => by
          rcases ok.own _ (PySem.mem_of_lookup hk) hh with e' | e'
          · obtain ⟨p, hp, hpy⟩ := List.mem_map.mp e'
            have e3 := ok.ix p hp
            have : p.1 = y := hpy
            rw [this] at e3
            exact hne (List.mem_map.mpr ⟨p, hp, nodup_ix hN e3 e1⟩)
          · exact e' (List.mem_of_getElem? e1)
        rcases hk' with rfl | rfl | rfl
        · exact absurd (.inl rfl) no
        · exact absurd (.inr rfl) no
        · exact hk
      have e3 : Vis cenv.scope y := e3
      rw [hsc] at e3
      rcases e3 with e3 | e3 | e3
      · exact key _ e3 (.inl rfl)
      · exact key _ e3 (.inr (.inl rfl))
      · exact key _ e3 (.inr (.inr rfl))
    obtain ⟨m, hn, hl⟩ := I.loc
    have hvis : Vis X.env.scope y := (ok.free _ (PySem.mem_of_lookup hfr) rfl).elim (fun k => .inr (.inl k)) (fun k => .inr (.inr k))
    obtain ⟨w, r, q⟩ := hl i y av e1 e2 hvis
    refine ⟨w, r, .inr ⟨.inr (by show cenv.scope.names.lookup y = _; rw [hsc]; exact hfr), ?_⟩⟩
    obtain ⟨c, h1, h2⟩ := look hfr
    rcases q with ⟨k, _⟩ | ⟨_, c', e', z⟩
    · have k : X.env.scope.names.lookup y = some .local := k
      rcases ok.free _ (PySem.mem_of_lookup hfr) rfl with k' | k' <;> rw [show X.env.scope.names.lookup y = _ from k'] at k <;> cases k
    · rw [h2] at e'; cases e'
      exact ⟨c, h1, z.keeps kp⟩
  · obtain ⟨w, z⟩ := I.cell y c (mem e).1
    exact ⟨w, z.keeps kp⟩
  · show H cenv.locals = none
    rw [hL]; exact I.hok.fresh (Nat.le_refl _)
  · exact I.freeC y c (mem e).1
  · have hp : p ∈ ([] : List (Addr × Obj)) ++ [(a, oa)] := hp
    simp only [List.nil_append, List.mem_singleton] at hp
    subst hp
    refine ⟨ha, I.hok.fresh (Nat.le_of_lt hla), ?_, ?_, hda⟩
    · show a ≠ cenv.locals
      rw [hL]; exact Nat.ne_of_gt hla
    · intro z
      have z : a ∈ frs X.stack := z
      obtain ⟨_, o, ho, _⟩ := I.stack.mem z
      exact absurd (Nat.lt_trans hla (Heap.lt_size ho)) (Nat.lt_irrefl _)
end
end GAl

set_option Elab.async false
set_option linter.all false
set_option maxRecDepth 100000
set_option maxHeartbeats 2000000
namespace GAl
open PySem PySem.Spec PyProof.Rows L2 GxR
open Sem (wp)

/-- the generator's end and what it hands out -/
def REnd (XG : Cx) (a : Addr) (oa : Obj) (σw : L2.St) (Qd : Hp → Prop) : Nat → Shared → Shared → Prop := fun _ _ s₁ => ∃ H4, Inv XG [(a, oa)] σw H4 s₁ ∧ Qd H4
def YOut (XG : Cx) (a : Addr) (oa : Obj) (stp : V → Hp → Prop → Prop) : Protocol := fun _ _ v s kap =>
  ∃ y H4 σ4, Inv XG [(a, oa)] σ4 H4 s ∧ RelV y v ∧ stp y H4 (∀ s'' : Shared, s''.os = s.os → AllBare s''.gens → (∀ b o, s.heap.get? b = some o → s''.heap.get? b = some o) → kap (.send .none) s'')

/-- what a turn asks (W by the turn and a measure) -/
def GTurn (J : It) (g : TG) (tt : TT) (te : TE) (vs : List Nat) (σw : L2.St) (Qd : Hp → Prop) (stp : V → Hp → Prop → Prop) (W : Nat → Nat → Hp → Prop) : Prop :=
  ∀ i m H, W i m H → (J.stop i H ∧ Qd H) ∨ (J.go i H ∧ ∃ Nx : Hp → Prop, (∀ H', Nx H' → ∃ m', m' < m ∧ W (i + 1) m' H') ∧ ∀ x H', J.yld i H x H' → g x σw H' fun σ2 H2 => wipe σ2 vs = σw ∧ tt σ2 H2 fun b H3 =>
    if b = true then te σ2 H3 fun y H4 => stp y H4 (Nx H4) else Nx H3)

section
variable {X : Cx} {σ : L2.St} {elt tg iter : Expr} {ifs : List Expr} {scope : Scope} {pos : Pos} {it a : Addr} {oa : Obj} {fp : List Addr} {cenv : Env} {AG : Around} {s4 : Shared} {Hs : Hp} {J : It} {tn : Nat → Heap → Prop}
  {g : TG} {tt : TT} {te : TE} {vs : List Nat} {σw : L2.St} {Qd : Hp → Prop} {stp : V → Hp → Prop → Prop} {W : Nat → Nat → Hp → Prop}

theorem gen_loop (hc : X.calm = true) (hco : cenv.scope.isCoroutine = false) (T : Turn X.prog X.w X.K tg J fp it tn) (hafp : ∀ b ∈ fp, a ≠ b)
    (hmono : ∀ y H (p q : Prop), (p → q) → stp y H p → stp y H q)
    (pg : PG (gcx X (AG.over (.compLoop (.GeneratorExp elt [⟨tg, iter, ifs, 0⟩] scope pos) 0 (.ref it) .none cenv) []) s4 Hs cenv fp) tg g)
    (pt : PTs (gcx X (AG.over (.compLoop (.GeneratorExp elt [⟨tg, iter, ifs, 0⟩] scope pos) 0 (.ref it) .none cenv) []) s4 Hs cenv fp) ifs tt)
    (pe : PE (gcx X (AG.over (.compLoop (.GeneratorExp elt [⟨tg, iter, ifs, 0⟩] scope pos) 0 (.ref it) .none cenv) []) s4 Hs cenv fp) elt te)
    (hW : GTurn J g tt te vs σw Qd stp W) :
    ∀ (m n i : Nat) (s₀ s : Shared) (H : Hp), m < n → W i m H → Inv (gcx X (AG.over (.compLoop (.GeneratorExp elt [⟨tg, iter, ifs, 0⟩] scope pos) 0 (.ref it) .none cenv) []) s4 Hs cenv fp) [(a, oa)] σw H s → tn i s.heap → (∀ b ∈ fp, H b = none) →
      Seg (model X.prog X.w) AG (fun n s₀ r s₁ => r = .ok .next ∧ REnd (gcx X (AG.over (.compLoop (.GeneratorExp elt [⟨tg, iter, ifs, 0⟩] scope pos) 0 (.ref it) .none cenv) []) s4 Hs cenv fp) a oa σw Qd n s₀ s₁)
        (YOut (gcx X (AG.over (.compLoop (.GeneratorExp elt [⟨tg, iter, ifs, 0⟩] scope pos) 0 (.ref it) .none cenv) []) s4 Hs cenv fp) a oa stp) n s₀
        (.compLoop (.GeneratorExp elt [⟨tg, iter, ifs, 0⟩] scope pos) 0 (.ref it) .none cenv)
        ((model X.prog X.w).den (.compLoop (.GeneratorExp elt [⟨tg, iter, ifs, 0⟩] scope pos) 0 (.ref it) .none cenv)) [] s := by
  generalize hXG : gcx X (AG.over (.compLoop (.GeneratorExp elt [⟨tg, iter, ifs, 0⟩] scope pos) 0 (.ref it) .none cenv) []) s4 Hs cenv fp = XG at pg pt pe ⊢
  have hA : XG.A = AG.over (.compLoop (.GeneratorExp elt [⟨tg, iter, ifs, 0⟩] scope pos) 0 (.ref it) .none cenv) [] := by rw [← hXG]
  have hP : XG.prog = X.prog := by rw [← hXG]
  have hw : XG.w = X.w := by rw [← hXG]
  have hK : XG.K = X.K := by rw [← hXG]
  have hcalm : XG.calm = true := by rw [← hXG]; exact hc
  have henv : XG.env = cenv := by rw [← hXG]
  have hxe : XG.xe = fun _ _ => False := by rw [← hXG]
  have hex : XG.ex = fp := by rw [← hXG]
  have hpn : XG.pn = [] := by rw [← hXG]
  have stat : ∀ {σ' : L2.St} {H' : Hp} {s' : Shared}, Inv XG [(a, oa)] σ' H' s' → (∀ b ∈ fp, H' b = none) → ∀ b ∈ fp, FpOk XG [(a, oa)] H' b := fun {σ' H' s'} I' hn b hb =>
    ⟨hn b hb, (I'.ok.exf b (by rw [hex]; exact hb)).1, I'.ok.exfs b (by rw [hex]; exact hb), .inl (by rw [hex]; exact hb), fun x c e => (I'.ok.exf b (by rw [hex]; exact hb)).2 x c e, fun p hp => by
      rw [hpn] at hp
      simp only [List.nil_append, List.mem_singleton] at hp
      subst hp
      exact hafp b hb⟩
  intro m
  induction m using Nat.strongRecOn with
  | ind m ih =>
    intro n i s₀ s H hmn w I st nH
    show Seg _ AG _ _ _ s₀ _ ((compTurn (.GeneratorExp elt [⟨tg, iter, ifs, 0⟩] scope pos) 0 (.ref it) .none cenv).onRaise (leaving cenv)) [] s
    rw [compTurn_gen, Sem.onRaise_eq_wrap]
    refine seg_bind_wrap (wpAny_standAt ?_)
    rcases hW i m H w with ⟨stop, qq⟩ | ⟨go, Nx, hNx, step⟩
    · have td := T.done XG hP hw hK hcalm i _ s _ H (fun _ _ => False) I (stat I nH) st stop
      rw [hA] at td
      refine seg_bind_wrap (thnF td fun r s1 ⟨hr, I1⟩ => ?_)
      subst hr
      exact seg_end (.ok .next) ⟨rfl, H, I1, qq⟩
    · have ti := T.item XG hP hw hK hcalm i _ s _ H (fun _ _ => False) I (stat I nH) st go
      rw [hA] at ti
      refine seg_bind_wrap (thnF ti fun r s1 ⟨u, hr, h1⟩ => ?_)
      subst hr
      refine seg_bind_wrap (thnF h1 fun _ s2 ⟨x, H2, I2, r2, y2, st2, n2⟩ => ?_)
      have I2' := I2.pinned (stat I2 n2) (T.obj _ _ st2)
      have rg := pg.run _ s2 _ H2 x u _ I2' r2 (step x H2 y2)
      rw [hA, hP, hw, henv, hxe] at rg
      refine seg_bind_wrap (thnF rg fun _ s3 ⟨σ3, H3, I3, hw3, q3⟩ => ?_)
      have rt := pt.run _ s3 σ3 H3 _ I3 q3
      rw [hA, hP, hw, henv, hxe] at rt
      refine seg_bind_wrap (thnF rt fun b s5 ⟨H5, I5, q5⟩ => ?_)
      have fin : ∀ {s' s'' : Shared} {H' : Hp}, Inv XG ([(a, oa)] ++ pinsAt fp s2.heap) σ3 H' s' → s''.os = s'.os → AllBare s''.gens → (∀ b o, s'.heap.get? b = some o → s''.heap.get? b = some o) → Nx H' →
          ∃ m', m' < m ∧ W (i + 1) m' H' ∧ Inv XG [(a, oa)] σw H' s'' ∧ tn (i + 1) s''.heap ∧ (∀ b ∈ fp, H' b = none) := fun {s' s'' H'} I' e1 e2 e3 nx => by
        obtain ⟨m', hm, w'⟩ := hNx H' nx
        have pin' : ∀ b ∈ fp, ∀ o, s2.heap.get? b = some o → s'.heap.get? b = some o ∧ H' b = none := fun b hb o e =>
          let z := I'.pin (b, o) (List.mem_append_right _ (List.mem_append_right _ (mem_pinsAt hb e)))
          ⟨z.1, z.2.1⟩
        have hl : σw.length = σ3.length := by rw [← hw3, wipe_length]
        refine ⟨m', hm, w', Inv.kall ((I'.unpinned (pins := [(a, oa)])).weak hl (fun j v e => ?_)) e1 e2 e3, T.keep _ _ _ st2 fun b hb o e => e3 b o (pin' b hb o e).1, fun b hb => ?_⟩
        · rw [← hw3] at e
          exact (wipe_some e).1
        · obtain ⟨o, e, _⟩ := T.obj _ _ st2 b hb
          exact (pin' b hb o e).2
      cases b with
      | false =>
        simp only [Bool.false_eq_true, if_false] at q5 ⊢
        obtain ⟨m', hm, w', I', st', n'⟩ := fin I5 rfl I5.bare (fun _ _ e => e) q5
        exact seg_again rfl (ih m' hm n (i + 1) s₀ s5 H5 (by omega) w' I' st' n')
      | true =>
        simp only [if_true] at q5 ⊢
        have hy : ∀ v, yieldOut cenv v = yieldValue v := fun v => by simp only [yieldOut, hco, Bool.false_eq_true, if_false]
        simp only [hy]
        rw [Sem.bind_eq_wrap', Sem.bind_eq_wrap', Sem.wrap_wrap, Sem.wrap_wrap]
        have re := pe.run _ s5 σ3 H5 _ I5 q5
        rw [hA, hP, hw, henv, hxe] at re
        refine seg_wrap (thnF re fun z s6 ⟨yv, H6, I6, r6, q6⟩ => ?_)
        cases n with
        | zero => exact absurd hmn (Nat.not_lt_zero _)
        | succ n =>
          refine seg_at (seg_yield rfl rfl rfl ⟨yv, H6, σ3, I6.unpinned (pins := [(a, oa)]), r6, hmono _ _ _ _ (fun nx s'' e1 e2 e3 => ?_) q6⟩)
          obtain ⟨m', hm, w', I', st', n'⟩ := fin I6 e1 e2 e3 nx
          exact seg_again rfl (ih m' hm n (i + 1) s'' s'' H6 (by omega) w' I' st' n')

theorem gen_begin (hc : X.calm = true) (hco : cenv.scope.isCoroutine = false) (T : Turn X.prog X.w X.K tg J fp it tn) (hafp : ∀ b ∈ fp, a ≠ b)
    (hmono : ∀ y H (p q : Prop), (p → q) → stp y H p → stp y H q)
    (pg : PG (gcx X (AG.over (.compLoop (.GeneratorExp elt [⟨tg, iter, ifs, 0⟩] scope pos) 0 (.ref it) .none cenv) []) s4 Hs cenv fp) tg g)
    (pt : PTs (gcx X (AG.over (.compLoop (.GeneratorExp elt [⟨tg, iter, ifs, 0⟩] scope pos) 0 (.ref it) .none cenv) []) s4 Hs cenv fp) ifs tt)
    (pe : PE (gcx X (AG.over (.compLoop (.GeneratorExp elt [⟨tg, iter, ifs, 0⟩] scope pos) 0 (.ref it) .none cenv) []) s4 Hs cenv fp) elt te)
    (hW : GTurn J g tt te vs σw Qd stp W) (m : Nat) (s₀ s : Shared) (H : Hp) (w : W 0 m H)
    (I : Inv (gcx X (AG.over (.compLoop (.GeneratorExp elt [⟨tg, iter, ifs, 0⟩] scope pos) 0 (.ref it) .none cenv) []) s4 Hs cenv fp) [(a, oa)] σw H s) (st : tn 0 s.heap) (nH : ∀ b ∈ fp, H b = none) :
      Seg (model X.prog X.w) AG (fun n s₀ r s₁ => r = .ok .next ∧ REnd (gcx X (AG.over (.compLoop (.GeneratorExp elt [⟨tg, iter, ifs, 0⟩] scope pos) 0 (.ref it) .none cenv) []) s4 Hs cenv fp) a oa σw Qd n s₀ s₁)
        (YOut (gcx X (AG.over (.compLoop (.GeneratorExp elt [⟨tg, iter, ifs, 0⟩] scope pos) 0 (.ref it) .none cenv) []) s4 Hs cenv fp) a oa stp) (m + 1) s₀
        (.compStart (.GeneratorExp elt [⟨tg, iter, ifs, 0⟩] scope pos) 0 (.ref it) .none cenv)
        ((model X.prog X.w).den (.compStart (.GeneratorExp elt [⟨tg, iter, ifs, 0⟩] scope pos) 0 (.ref it) .none cenv)) [] s := by
  have loop := gen_loop (a := a) (oa := oa) hc hco T hafp hmono pg pt pe hW m (m + 1) 0 s₀ s H (Nat.lt_succ_self _) w I st nH
  show Seg _ AG _ _ _ s₀ _ ((compStart (.GeneratorExp elt [⟨tg, iter, ifs, 0⟩] scope pos) 0 (.ref it) .none cenv).onRaise (leaving cenv)) [] s
  unfold compStart
  rw [Sem.onRaise_eq_wrap]
  show Seg _ AG _ _ _ s₀ _ ((ask >>= _).wrap _ _ _ _) [] s
  refine seg_bind_wrap (wpAny_askSetting ?_)
  split
  · exact seg_again rfl loop
  · first
      | exact seg_bind_wrap (wpAny_rule (seg_bind_wrap (wpAny_standAt (seg_bind_wrap (T.self _ 0 s _ _ st (seg_again rfl loop))))))
      | (refine seg_bind_wrap (wpAny_rule ?_); show Seg _ AG _ _ _ s₀ _ ((standAt iter.pos >>= _).wrap _ _ _ _) [] s; exact seg_bind_wrap (wpAny_standAt (seg_bind_wrap (T.self _ 0 s _ _ st (seg_again rfl loop)))))
end

/-! ### the consumer's side -/
section
variable {prog : Program} {w : World} {A : Around} {E : Value → Shared → Prop} {s : Shared}
theorem next_sz {a : Addr} {g n : Nat} {gs : GenState} {P : Nat → Shared → Shared → Prop} {Y : Protocol} {Q : Option Value → Shared → Prop} (hh : A.handled = none)
    (hl : s.heap.NoLimit) (hroom : A.depth < recursionLimit)
    (hg : s.heap.IsGen a g) (hgs : s.gens[g]? = some gs)
    (hgo : gs.Goes (model prog w) A.in1 (fun n s₀ r s₁ => r = .ok .next ∧ P n s₀ s₁) Y n (.send .none) (s.setGen g .running))
    (hY : ∀ v s₁ gs', s.gens.size ≤ s₁.gens.size → gs'.bare = true → Y (n - 1) (s.setGen g .running) v s₁ (fun r' s'' => match n with
        | 0 => False
        | m + 1 => gs'.Goes (model prog w) A.in1 (fun n s₀ r s₁ => r = .ok .next ∧ P n s₀ s₁) Y m r' s'') → Q (some v) (s₁.setGen g gs'))
    (hP : ∀ s₁, s.gens.size ≤ s₁.gens.size → P n (s.setGen g .running) s₁ → ∀ h', (∀ b o, s₁.heap.get? b = some o → h'.get? b = some o) → Q none { s₁.setGen g .finished with heap := h' }) :
    wpAny (model prog w) A (pyNext (.ref a)) Q E s := by
  refine GenW.wpAny_gsz (n := s.gens.size) (Nat.le_refl _) (wpAny_pyNext_genexpQ (E := fun e s' => s.gens.size ≤ s'.gens.size → E e s') (Q := fun r s' => s.gens.size ≤ s'.gens.size → Q r s') hh hl hroom hg hgs hgo
    (fun v s₁ gs' hb hv hz => hY v s₁ gs' (by rw [GenW.setGen_size] at hz; exact hz) hb hv)
    (fun s₁ hp h' hk hz => hP s₁ (by have z : s.gens.size ≤ (s₁.setGen g .finished).gens.size := hz; rw [GenW.setGen_size] at z; exact z) hp h' hk))
end
end GAl

set_option Elab.async false
set_option linter.all false
set_option maxRecDepth 100000
set_option maxHeartbeats 2000000
namespace GAl
open PySem PySem.Spec PyProof.Rows L2 GxR
open Sem (wp)

/-- the generator stands, ready for its next turn, at most n - 1 more are to come -/
def GSt (M : Model) (AG : Around) (P : Nat → Shared → Shared → Prop) (Y : Protocol) (a : Addr) (g n : Nat) (s : Shared) : Prop :=
  s.heap.IsGen a g ∧ s.heap.NoLimit ∧ ∃ gs, s.gens[g]? = some gs ∧ gs.Goes M AG (fun n s₀ r s₁ => r = .ok .next ∧ P n s₀ s₁) Y n (.send .none) (s.setGen g .running)

def stpAll (Qf : Hp → Prop) : V → Hp → Prop → Prop := fun y H N => ∃ c, y = .bl c ∧ (if c = true then N else Qf H)
def stpAny (Qt : Hp → Prop) : V → Hp → Prop → Prop := fun y H N => ∃ c, y = .bl c ∧ (if c = true then Qt H else N)
theorem stpAll_mono {Qf : Hp → Prop} : ∀ y H (p q : Prop), (p → q) → stpAll Qf y H p → stpAll Qf y H q := fun y H p q h ⟨c, e, k⟩ => ⟨c, e, by
  cases c with
  | true => simp only [if_true] at k ⊢; exact h k
  | false => simp only [Bool.false_eq_true, if_false] at k ⊢; exact k⟩
theorem stpAny_mono {Qf : Hp → Prop} : ∀ y H (p q : Prop), (p → q) → stpAny Qf y H p → stpAny Qf y H q := fun y H p q h ⟨c, e, k⟩ => ⟨c, e, by
  cases c with
  | false => simp only [Bool.false_eq_true, if_false] at k ⊢; exact h k
  | true => simp only [if_true] at k ⊢; exact k⟩

theorem gens_some {s : Shared} {g k : Nat} {gs : GenState} (h : s.gens[g]? = some gs) (hk : s.gens.size ≤ k) {s₁ : Shared} (e : s₁.gens.size = k) : ∃ x, s₁.gens[g]? = some x := by
  obtain ⟨hl, _⟩ := Array.getElem?_eq_some_iff.mp h
  exact ⟨_, Array.getElem?_eq_getElem (by omega)⟩

section
variable {X XG : Cx} {A : Around} {a : Addr} {oa : Obj} {g : Nat} {σw : L2.St} {Qd Qf : Hp → Prop} {R : Result → Shared → Prop}
theorem isgen_of {h h' : Heap} (hg : h.IsGen a g) (ho : h.get? a = some oa) (ho' : h'.get? a = some oa) : h'.IsGen a g := by
  obtain ⟨o, nm, qn, e, r⟩ := hg
  rw [ho] at e; cases e
  exact ⟨_, nm, qn, ho', r⟩

/-- all.loop over it -/
theorem all_loop (hprog : XG.prog = X.prog) (hw : XG.w = X.w) (hh : A.handled = none) (hroom : A.depth < recursionLimit) (hpn : XG.pn = [])
    (hfin : ∀ s' σ' H', Inv XG [(a, oa)] σ' H' s' → Qd H' → R (.ok (.ret (.bool true))) s')
    (hcut : ∀ s' σ' H', Inv XG [(a, oa)] σ' H' s' → Qf H' → R (.ok (.ret (.bool false))) s') :
    ∀ (n : Nat) (s : Shared), s.heap.get? a = some oa → GSt (model X.prog X.w) A.in1.in1 (REnd XG a oa σw Qd) (YOut XG a oa (stpAll Qf)) a g n s → codeAny (model X.prog X.w) A (.builtin "all.loop" ⟨[.ref a], []⟩) R s := by
  intro n
  induction n with
  | zero =>
    intro s hoa ⟨hg, hl, gs, hgs, hgo⟩
    refine codeAny_builtin F.entry_all_loop ?_
    rw [Around.under_plainId F.plain_all_loop _]
    show wpAny _ A.in1 (pyNext (.ref a) >>= _) _ _ s
    refine wpAny_bind (next_sz (A := A.in1) hh hl hroom hg hgs hgo (fun v s₁ gs' hsz hb hv => ?_) (fun s₁ hsz hp h' hk => ?_))
    · obtain ⟨y, H4, σ4, I4, r, c, e, k⟩ := hv
      subst e
      cases r
      refine wpAny_bind (wpAny_holding (wpAny_truthy_bool ?_))
      refine wpAny_bind (wpAny_letGo ?_)
      cases c with
      | true =>
        simp only [if_true] at k
        exact False.elim (k s₁ rfl I4.bare fun _ _ e => e)
      | false =>
        simp only [Bool.false_eq_true, if_false] at k ⊢
        refine wpAny_bind (wpAny_rule (wpAny_pure ?_))
        exact hcut _ σ4 H4 (Inv.kall I4 rfl (bare_set I4.bare hb) fun _ _ e => e) k
    · obtain ⟨H4, I4, q⟩ := hp
      refine wpAny_bind (wpAny_rule (wpAny_pure ?_))
      exact hfin _ σw H4 (Inv.kall I4 rfl (bare_set I4.bare rfl) hk) q
  | succ n ih =>
    intro s hoa ⟨hg, hl, gs, hgs, hgo⟩
    refine codeAny_builtin F.entry_all_loop ?_
    rw [Around.under_plainId F.plain_all_loop _]
    show wpAny _ A.in1 (pyNext (.ref a) >>= _) _ _ s
    refine wpAny_bind (next_sz (A := A.in1) hh hl hroom hg hgs hgo (fun v s₁ gs' hsz hb hv => ?_) (fun s₁ hsz hp h' hk => ?_))
    · obtain ⟨y, H4, σ4, I4, r, c, e, k⟩ := hv
      subst e
      cases r
      refine wpAny_bind (wpAny_holding (wpAny_truthy_bool ?_))
      refine wpAny_bind (wpAny_letGo ?_)
      cases c with
      | true =>
        simp only [if_true] at k ⊢
        have ha : s₁.heap.get? a = some oa := (I4.pin (a, oa) (by rw [hpn]; simp)).1
        obtain ⟨x, hx⟩ := gens_some hgs hsz rfl
        refine wpAny_pure ⟨plainId_quiet F.plain_all_loop _, ih (s₁.setGen g gs') ha ⟨isgen_of hg hoa ha, I4.nolimit, gs', setGen_self hx, ?_⟩⟩
        exact k ((s₁.setGen g gs').setGen g .running) rfl (bare_set (bare_set I4.bare hb) rfl) fun _ _ e => e
      | false =>
        simp only [Bool.false_eq_true, if_false] at k ⊢
        refine wpAny_bind (wpAny_rule (wpAny_pure ?_))
        exact hcut _ σ4 H4 (Inv.kall I4 rfl (bare_set I4.bare hb) fun _ _ e => e) k
    · obtain ⟨H4, I4, q⟩ := hp
      refine wpAny_bind (wpAny_rule (wpAny_pure ?_))
      exact hfin _ σw H4 (Inv.kall I4 rfl (bare_set I4.bare rfl) hk) q
/-- any.loop over it -/
theorem any_loop (hprog : XG.prog = X.prog) (hw : XG.w = X.w) (hh : A.handled = none) (hroom : A.depth < recursionLimit) (hpn : XG.pn = [])
    (hfin : ∀ s' σ' H', Inv XG [(a, oa)] σ' H' s' → Qd H' → R (.ok (.ret (.bool false))) s')
    (hcut : ∀ s' σ' H', Inv XG [(a, oa)] σ' H' s' → Qf H' → R (.ok (.ret (.bool true))) s') :
    ∀ (n : Nat) (s : Shared), s.heap.get? a = some oa → GSt (model X.prog X.w) A.in1.in1 (REnd XG a oa σw Qd) (YOut XG a oa (stpAny Qf)) a g n s → codeAny (model X.prog X.w) A (.builtin "any.loop" ⟨[.ref a], []⟩) R s := by
  intro n
  induction n with
  | zero =>
    intro s hoa ⟨hg, hl, gs, hgs, hgo⟩
    refine codeAny_builtin F.entry_any_loop ?_
    rw [Around.under_plainId F.plain_any_loop _]
    show wpAny _ A.in1 (pyNext (.ref a) >>= _) _ _ s
    refine wpAny_bind (next_sz (A := A.in1) hh hl hroom hg hgs hgo (fun v s₁ gs' hsz hb hv => ?_) (fun s₁ hsz hp h' hk => ?_))
    · obtain ⟨y, H4, σ4, I4, r, c, e, k⟩ := hv
      subst e
      cases r
      refine wpAny_bind (wpAny_holding (wpAny_truthy_bool ?_))
      refine wpAny_bind (wpAny_letGo ?_)
      cases c with
      | false =>
        simp only [Bool.false_eq_true, if_false] at k
        exact False.elim (k s₁ rfl I4.bare fun _ _ e => e)
      | true =>
        simp only [if_true] at k ⊢
        refine wpAny_bind (wpAny_rule (wpAny_pure ?_))
        exact hcut _ σ4 H4 (Inv.kall I4 rfl (bare_set I4.bare hb) fun _ _ e => e) k
    · obtain ⟨H4, I4, q⟩ := hp
      refine wpAny_bind (wpAny_rule (wpAny_pure ?_))
      exact hfin _ σw H4 (Inv.kall I4 rfl (bare_set I4.bare rfl) hk) q
  | succ n ih =>
    intro s hoa ⟨hg, hl, gs, hgs, hgo⟩
    refine codeAny_builtin F.entry_any_loop ?_
    rw [Around.under_plainId F.plain_any_loop _]
    show wpAny _ A.in1 (pyNext (.ref a) >>= _) _ _ s
    refine wpAny_bind (next_sz (A := A.in1) hh hl hroom hg hgs hgo (fun v s₁ gs' hsz hb hv => ?_) (fun s₁ hsz hp h' hk => ?_))
    · obtain ⟨y, H4, σ4, I4, r, c, e, k⟩ := hv
      subst e
      cases r
      refine wpAny_bind (wpAny_holding (wpAny_truthy_bool ?_))
      refine wpAny_bind (wpAny_letGo ?_)
      cases c with
      | false =>
        simp only [Bool.false_eq_true, if_false] at k ⊢
        have ha : s₁.heap.get? a = some oa := (I4.pin (a, oa) (by rw [hpn]; simp)).1
        obtain ⟨x, hx⟩ := gens_some hgs hsz rfl
        refine wpAny_pure ⟨plainId_quiet F.plain_any_loop _, ih (s₁.setGen g gs') ha ⟨isgen_of hg hoa ha, I4.nolimit, gs', setGen_self hx, ?_⟩⟩
        exact k ((s₁.setGen g gs').setGen g .running) rfl (bare_set (bare_set I4.bare hb) rfl) fun _ _ e => e
      | true =>
        simp only [if_true] at k ⊢
        refine wpAny_bind (wpAny_rule (wpAny_pure ?_))
        exact hcut _ σ4 H4 (Inv.kall I4 rfl (bare_set I4.bare hb) fun _ _ e => e) k
    · obtain ⟨H4, I4, q⟩ := hp
      refine wpAny_bind (wpAny_rule (wpAny_pure ?_))
      exact hfin _ σw H4 (Inv.kall I4 rfl (bare_set I4.bare rfl) hk) q
end
end GAl

set_option Elab.async false
set_option linter.all false
set_option maxRecDepth 100000
set_option maxHeartbeats 2000000
namespace GAl
open PySem PySem.Spec PyProof.Rows L2 GxR
open Sem (wp)

/-- the scope of a generator expression -/
structure GSc (N : List Str) (sc scope : Scope) (own : List (Str × Nat)) : Prop where
  blk : BlkOk N sc scope own
  co : scope.isCoroutine = false
  cell : ∀ y ∈ scope.names, y.2 ≠ .cell
  dot : scope.names.lookup (".0" : Str) = some NameKind.local
def gscC (N : List Str) (sc scope : Scope) (own : List (Str × Nat)) : Bool :=
  blkC N sc scope own && !scope.isCoroutine && (scope.names.all fun y => match y.2 with | .cell => false | _ => true) && (match scope.names.lookup (".0" : Str) with | some .local => true | _ => false)
theorem gsc_by {N : List Str} {sc scope : Scope} {own : List (Str × Nat)} (h : gscC N sc scope own = true) : GSc N sc scope own := by
  unfold gscC at h
  simp only [Bool.and_eq_true, List.all_eq_true, Bool.not_eq_true'] at h
  obtain ⟨⟨⟨h1, h2⟩, h3⟩, h4⟩ := h
  refine ⟨blkOk_by h1, h2, fun y hy e => ?_, ?_⟩
  · have q := h3 y hy
    rw [e] at q
    exact Bool.noConfusion q
  · split at h4
    · assumption
    · cases h4

/-- what a consumed generator expression asks: the walked thing, the def's table, the turns -/
def tGenB (P : Addr) (wi : TI) (g : TG) (tt : TT) (te : TE) (vs : List Nat) (stp : V → Hp → Prop → Prop) (Qd : Hp → Prop) : L2.St → Hp → Prop := fun σ H =>
  wi σ H fun J H1 => TabG H1 P ∧ ∀ H2, Tabbed P H1 H2 → ∃ W : Nat → Nat → Hp → Prop, (∃ m, W 0 m H2) ∧ GTurn J g tt te vs (wipe σ vs) Qd stp W
def tAllG (P : Addr) (wi : TI) (g : TG) (tt : TT) (te : TE) (vs : List Nat) : TE := fun σ H Q => tGenB P wi g tt te vs (stpAll (Q (.bl false))) (Q (.bl true)) σ H
def tAnyG (P : Addr) (wi : TI) (g : TG) (tt : TT) (te : TE) (vs : List Nat) : TE := fun σ H Q => tGenB P wi g tt te vs (stpAny (Q (.bl true))) (Q (.bl false)) σ H

section
variable {X : Cx} {pins : List (Addr × Obj)} {σ : L2.St} {H : Hp} {s : Shared}
theorem gen_make {c P : Addr} {elt tg iter : Expr} {ifs : List Expr} {gpos : Pos} {scope : Scope} {own : List (Str × Nat)} {wi : TI} {g : TG} {tt : TT} {te : TE} {k : Nat} {stp : V → Hp → Prop → Prop} {Qd : Hp → Prop} {Q' : Value → Shared → Prop}
    (hr : Room (k + 1) X.A) (hc : X.calm = true) (hN : X.N.Nodup) (TB : TabB X.base X.mg c P) (hcode : X.env.code = .ref c) (S : GSc X.N X.env.scope scope own) (hi : PI X tg iter wi)
    (hg : ∀ (A' : Around), Room k A' → ∀ (s : Shared) (H : Hp) (cl : List (Str × Addr)) (C : Addr) (code : Value) (fp : List Addr), PG (gcx X A' s H (genEnv scope cl C code builtinsNs X.env) fp) tg g)
    (ht : ∀ (A' : Around), Room k A' → ∀ (s : Shared) (H : Hp) (cl : List (Str × Addr)) (C : Addr) (code : Value) (fp : List Addr), PTs (gcx X A' s H (genEnv scope cl C code builtinsNs X.env) fp) ifs tt)
    (he : ∀ (A' : Around), Room k A' → ∀ (s : Shared) (H : Hp) (cl : List (Str × Addr)) (C : Addr) (code : Value) (fp : List Addr), PE (gcx X A' s H (genEnv scope cl C code builtinsNs X.env) fp) elt te)
    (hmono : ∀ y H (p q : Prop), (p → q) → stp y H p → stp y H q)
    (hs : ∀ v, genFold iter X.env v = pure v) (I : Inv X pins σ H s) (h : tGenB P wi g tt te (own.map (·.2)) stp Qd σ H)
    (hQ : ∀ (XG : Cx) (a : Addr) (oa : Obj) (gn n : Nat) (σw : L2.St) (s5 : Shared), XG.prog = X.prog → XG.w = X.w → XG.pn = [] → s5.heap.get? a = some oa →
      GSt (model X.prog X.w) X.A.in1.in1 (REnd XG a oa σw Qd) (YOut XG a oa stp) a gn n s5 → (∀ s' σ' H', Inv XG [(a, oa)] σ' H' s' → Inv X pins σ H' s') → Q' (.ref a) s5) :
    wpAny (model X.prog X.w) X.A (eval (.GeneratorExp elt [⟨tg, iter, ifs, 0⟩] scope gpos) X.env) Q' X.xe s := by
  have ok := S.blk
  have hfree : ∀ y ∈ scope.names, y.2 = .free → ∃ c, X.env.cells.lookup y.1 = some c := fun y hy e => by
    rcases ok.free y hy e with k | k
    · exact I.ok.has _ (.inl k)
    · exact I.ok.has _ (.inr k)
  refine wpAny_GeneratorExp_make S.co (closure_ok hfree) S.cell S.dot ok.kind (by have := hr.dp; omega) ?_ hs
  refine thn (hi.run pins s σ H _ I h) fun xv s1 hx => thn hx fun itv s2 h2 => ?_
  obtain ⟨it, fp, tn, J, H2, e, I2, T, st2, f2, ⟨ps, hP, hts⟩, q⟩ := h2
  subst e
  have hPs : s2.heap.get? P = some { cls := .none, data := .fields ps } := I2.hok P _ hP
  have cd : PySem.W.CodeHd s2.heap c P := TB.code.keeps fun b u e => I2.bk b u e
  have nP : ∀ b ∈ fp, b ≠ P := fun b hb z => by
    have := (f2 b hb).1
    rw [z, hP] at this; cases this
  have sz2 : ∀ b ∈ fp, b < s2.heap.objs.size := fun b hb => by
    obtain ⟨o, e, _⟩ := T.obj _ _ st2 b hb
    exact Heap.lt_size e
  have cont : ∀ (code : Value) (h3 : Heap) (tk : Nat) (ps' : Array Value), Heap.ExtBut P s2.heap h3 → s2.heap.objs.size ≤ h3.objs.size → h3.get? P = some { cls := .none, data := .fields ps' } → (∃ more, ps' = ps ++ more) → TriplesOk ps'.toList →
      wpAny (model X.prog X.w) X.A (builtinsFor X.env.globals X.env.builtins) (fun bi s₄ =>
        ∀ h', h'.Ns s₄.heap.objs.size (fun y => if y = ".0" then some (.ref it) else none) → Heap.SameBut s₄.heap.objs.size (s₄.heap.push { cls := .type "frame", data := .dict #[] }) h' →
          Q' (.ref h'.objs.size) { s₄ with
            gens := s₄.gens.push (.fresh (.compStart (.GeneratorExp elt [⟨tg, iter, ifs, 0⟩] scope gpos) 0 (.ref it) .none (genEnv scope (cloFrom X.env.cells scope.names []) s₄.heap.objs.size code bi X.env))),
            toks := s₄.toks + 1 + 1 + 1,
            heap := h'.push { cls := .type "generator", data := .fields #[.int s₄.gens.size 0, .str "<genexpr>" (s₄.toks + 1), .str (X.env.qual ++ "<genexpr>") (s₄.toks + 1 + 1)] } }) X.xe { s2 with heap := h3, toks := tk } := by
    intro code h3 tk ps' hx hsz hP3 hmore ht3
    obtain ⟨bm, ob, e1, e2, e3, e4, e5, e6, e7, e8⟩ := TB.bm
    have keep3 : ∀ b u, b ≠ P → s2.heap.get? b = some u → h3.get? b = some u := fun b u hb e => hx b u hb e
    refine wpAny_builtinsFor (m := X.mg) (by rw [I2.ok.glob]; exact (I2.mod.glob.keeps I2.bk).extBut hx TB.gP) e1 e2 (keep3 _ _ e4 (I2.bk _ _ e5)) e6 e7 e8 ?_
    intro h' hn' hs'
    obtain ⟨more, em⟩ := hmore
    have I3 : Inv X pins σ (upd H2 P (.tbl (ps ++ more))) { s2 with heap := h3, toks := tk } :=
      inv_tab (more := more) (h' := h3) (g' := s2.gens) (d' := s2.drawn) (t' := tk) I2 hP keep3 (by rw [← em]; exact hP3) I2.bare
    obtain ⟨W, ⟨m0, w0⟩, turn⟩ := q (upd H2 P (.tbl (ps ++ more))) ⟨⟨ps ++ more, upd_same, by rw [← em]; exact ht3⟩, fun b hb => upd_ne hb⟩
    generalize hH3 : upd H2 P (.tbl (ps ++ more)) = H3 at I3 w0
    generalize hs4 : ({ s2 with heap := h3, toks := tk } : Shared) = s4 at I3 hn' hs' ⊢
    have hh4 : s4.heap = h3 := by rw [← hs4]
    have st4 : tn 0 s4.heap := T.keep _ _ _ st2 fun b hb o e => by rw [hh4]; exact keep3 b o (nP b hb) e
    have f3 : ∀ b ∈ fp, FpOk X pins H3 b ∧ b < s4.heap.objs.size := fun b hb => by
      refine ⟨⟨?_, (f2 b hb).2⟩, by rw [hh4]; exact Nat.lt_of_lt_of_le (sz2 b hb) hsz⟩
      rw [← hH3, upd_ne (nP b hb)]
      exact (f2 b hb).1
    have hszh : h'.objs.size = s4.heap.objs.size + 1 := by rw [hs'.1, Heap.size_push]
    have keep' : ∀ b o, s4.heap.get? b = some o → h'.get? b = some o := fun b o e => hs'.extBut b o (Nat.ne_of_lt (Heap.lt_size e)) (Heap.get?_push_of_some _ e)
    generalize hoa : ({ cls := .type "generator", data := .fields #[.int s4.gens.size 0, .str "<genexpr>" (s4.toks + 1), .str (X.env.qual ++ "<genexpr>") (s4.toks + 1 + 1)] } : Obj) = oa
    have ga : (h'.push oa).get? h'.objs.size = some oa := Heap.get?_push_size _ (by rw [← hoa]; rfl)
    have isg : (h'.push oa).IsGen h'.objs.size s4.gens.size := by rw [← hoa]; exact ⟨_, _, _, Heap.get?_push_size _ rfl, rfl, rfl, rfl⟩
    generalize hce : genEnv scope (cloFrom X.env.cells scope.names []) s4.heap.objs.size code builtinsNs X.env = cenv
    generalize hA' : X.A.in1.in1.over (.compLoop (.GeneratorExp elt [⟨tg, iter, ifs, 0⟩] scope gpos) 0 (.ref it) .none cenv) [] = A'
    have hfr : A'.frames = some (cenv :: X.stack) := by
      rw [← hA']
      show pushEnvs [cenv] (pushEnvs [] X.A.frames) = _
      rw [I2.ok.frames]
      rfl
    have hdp : A'.depth = X.A.depth + 1 := by rw [← hA']; rfl
    have hun : A'.units = X.A.units + 5 := by rw [← hA']; rfl
    have hhd : A'.handled = none := by rw [← hA']; exact hr.hd
    have hr' : Room k A' := ⟨hhd, by rw [hdp]; have := hr.dp; omega, by rw [hun]; have := hr.un; omega⟩
    have bare5 : AllBare (s4.gens.push (.fresh (.compStart (.GeneratorExp elt [⟨tg, iter, ifs, 0⟩] scope gpos) 0 (.ref it) .none cenv))) := I3.bare.push rfl
    have I5 := gen_start (A' := A') (cenv := cenv) (code := code) (m := fun y => if y = ".0" then some (.ref it) else none) (h5 := h'.push oa) (g' := s4.gens.push (.fresh (.compStart (.GeneratorExp elt [⟨tg, iter, ifs, 0⟩] scope gpos) 0 (.ref it) .none cenv)))
      (t5 := s4.toks + 1 + 1 + 1) (a := h'.objs.size) (oa := oa) I3 ok S.cell hN f3 hce.symm hfr hhd (hn'.push _) (fun b o e => Heap.get?_push_of_some _ (keep' b o e)) bare5 ga (by omega) (by rw [← hoa]; intro v z; cases z)
    have back : ∀ s' σ' H', Inv (gcx X A' s4 H3 cenv fp) [(h'.objs.size, oa)] σ' H' s' → Inv X pins σ H' s' := fun s' σ' H' I' =>
      I3.call' (ch := fp) I'.os I'.base I'.hok I'.bare fun b hb => ⟨(f3 b hb).1.2.2.2.1, (f3 b hb).1.2.1, (f3 b hb).1.2.2.2.2.1, (f3 b hb).1.2.2.2.2.2⟩
    have pg : PG (gcx X A' s4 H3 cenv fp) tg g := by rw [← hce]; exact hg A' hr' _ _ _ _ _ _
    have pt : PTs (gcx X A' s4 H3 cenv fp) ifs tt := by rw [← hce]; exact ht A' hr' _ _ _ _ _ _
    have pe : PE (gcx X A' s4 H3 cenv fp) elt te := by rw [← hce]; exact he A' hr' _ _ _ _ _ _
    refine hQ (gcx X A' s4 H3 cenv fp) h'.objs.size oa s4.gens.size (m0 + 1) (wipe σ (own.map (·.2))) _ rfl rfl rfl ga ⟨isg, I5.nolimit, _, Array.getElem?_push_size .., ?_⟩ back
    refine ⟨rfl, ?_⟩
    subst hA'
    refine gen_begin hc (by rw [← hce]; exact S.co) T (fun b hb z => ?_) hmono pg pt pe turn m0 _ _ H3 w0 (Inv.kall I5 rfl (bare_set I5.bare rfl) fun _ _ e => e) ?_ (fun b hb => (f3 b hb).1.1)
    · have h9 := (f3 b hb).2
      rw [← z] at h9
      have h9 : h'.objs.size < s4.heap.objs.size := h9
      omega
    · exact T.keep _ _ _ st4 fun b hb o e => Heap.get?_push_of_some _ (keep' b o e)
  refine ⟨I2.nolimit, ?_⟩
  cases hf : codeAmong gpos ps.toList with
  | none =>
    refine wpAny_genexprCodeX hcode (cd.code hPs hts) (cd.tab hPs) hf fun c' h' tk hx hge hlt hco' _ htab' _ => ?_
    obtain ⟨o1, vs, f1, tf, fl, tg', inF, tx, tt', op, _, _, _, _, _, _, _, _, _, htr, _⟩ := hco'
    exact cont _ h' tk _ hx (Nat.le_trans hge (Nat.le_of_lt hlt)) htab'.2 ⟨_, rfl⟩ htr
  | some cv =>
    refine wpAny_genexprCode_hit hcode (cd.code hPs hts) hf ?_
    exact cont cv s2.heap s2.toks ps (Heap.ExtBut.refl _ _) (Nat.le_refl _) hPs ⟨#[], by simp⟩ hts

theorem pe_allG {c P : Addr} {elt tg iter : Expr} {ifs : List Expr} {p pos gpos : Pos} {scope : Scope} {own : List (Str × Nat)} {wi : TI} {g : TG} {tt : TT} {te : TE} {k : Nat}
    (hr : Room (k + 1) X.A) (hgl : Gl X "all") (hm : X.mg "all" = none) (hc : X.calm = true) (hN : X.N.Nodup) (TB : TabB X.base X.mg c P) (hcode : X.env.code = .ref c) (S : GSc X.N X.env.scope scope own) (hi : PI X tg iter wi)
    (hg : ∀ (A' : Around), Room k A' → ∀ (s : Shared) (H : Hp) (cl : List (Str × Addr)) (C : Addr) (code : Value) (fp : List Addr), PG (gcx X A' s H (genEnv scope cl C code builtinsNs X.env) fp) tg g)
    (ht : ∀ (A' : Around), Room k A' → ∀ (s : Shared) (H : Hp) (cl : List (Str × Addr)) (C : Addr) (code : Value) (fp : List Addr), PTs (gcx X A' s H (genEnv scope cl C code builtinsNs X.env) fp) ifs tt)
    (he : ∀ (A' : Around), Room k A' → ∀ (s : Shared) (H : Hp) (cl : List (Str × Addr)) (C : Addr) (code : Value) (fp : List Addr), PE (gcx X A' s H (genEnv scope cl C code builtinsNs X.env) fp) elt te)
    (hs : ∀ v, genFold iter X.env v = pure v := by intro _; rfl)
    (hst : starEach [.GeneratorExp elt [⟨tg, iter, ifs, 0⟩] scope gpos] X.env = (false, eval (.GeneratorExp elt [⟨tg, iter, ifs, 0⟩] scope gpos) X.env) :: starEach [] X.env := by rfl)
    (hb : bootBuiltins "all" = some (.builtin "all") := by decide +kernel) :
    PE X (.Call (.Name "all" p) [.GeneratorExp elt [⟨tg, iter, ifs, 0⟩] scope gpos] [] pos) (tAllG P wi g tt te (own.map (·.2))) := by
  refine ⟨fun pins s σ H Q I h => ?_⟩
  refine wpAny_Call_Name_kw (ld_blt I hgl hm hb ?_)
  refine PyProof.Rows.callWith_builtin1 ?_ hst (by rfl)
  rw [hst]
  show wpAny _ _ (spliced ((false, eval (.GeneratorExp elt [⟨tg, iter, ifs, 0⟩] scope gpos) X.env) :: backTo pos (starEach [] X.env))) _ _ s
  refine Calls.spliced_cons (gen_make hr hc hN TB hcode S hi hg ht he stpAll_mono hs I h fun XG a oa gn n σw s5 eP eW epn ha hG back => ?_)
  refine Calls.spliced_nil ?_
  refine call_function_tree F.kind_all F.plain_all F.entry_all (F.args_all1 _) ?_
  unfold Builtin.«all»
  refine wpAny_bind (m := oneArg "all" _) (wpAny_pure ?_)
  refine wpAny_bind (wpAny_pyIter_gen hG.1 ?_)
  refine wpAny_pure ⟨plainId_quiet F.plain_all_loop _, all_loop (X := X) (XG := XG) (σw := σw) (Qd := Q (.bl true)) (Qf := Q (.bl false)) eP eW hr.hd (by have := hr.dp; omega) epn (fun s' σ' H' I' q => ?_) (fun s' σ' H' I' q => ?_) n s5 ha hG⟩
  · exact ⟨.bl true, H', back s' σ' H' I', rfl, q⟩
  · exact ⟨.bl false, H', back s' σ' H' I', rfl, q⟩
theorem pe_anyG {c P : Addr} {elt tg iter : Expr} {ifs : List Expr} {p pos gpos : Pos} {scope : Scope} {own : List (Str × Nat)} {wi : TI} {g : TG} {tt : TT} {te : TE} {k : Nat}
    (hr : Room (k + 1) X.A) (hgl : Gl X "any") (hm : X.mg "any" = none) (hc : X.calm = true) (hN : X.N.Nodup) (TB : TabB X.base X.mg c P) (hcode : X.env.code = .ref c) (S : GSc X.N X.env.scope scope own) (hi : PI X tg iter wi)
    (hg : ∀ (A' : Around), Room k A' → ∀ (s : Shared) (H : Hp) (cl : List (Str × Addr)) (C : Addr) (code : Value) (fp : List Addr), PG (gcx X A' s H (genEnv scope cl C code builtinsNs X.env) fp) tg g)
    (ht : ∀ (A' : Around), Room k A' → ∀ (s : Shared) (H : Hp) (cl : List (Str × Addr)) (C : Addr) (code : Value) (fp : List Addr), PTs (gcx X A' s H (genEnv scope cl C code builtinsNs X.env) fp) ifs tt)
    (he : ∀ (A' : Around), Room k A' → ∀ (s : Shared) (H : Hp) (cl : List (Str × Addr)) (C : Addr) (code : Value) (fp : List Addr), PE (gcx X A' s H (genEnv scope cl C code builtinsNs X.env) fp) elt te)
    (hs : ∀ v, genFold iter X.env v = pure v := by intro _; rfl)
    (hst : starEach [.GeneratorExp elt [⟨tg, iter, ifs, 0⟩] scope gpos] X.env = (false, eval (.GeneratorExp elt [⟨tg, iter, ifs, 0⟩] scope gpos) X.env) :: starEach [] X.env := by rfl)
    (hb : bootBuiltins "any" = some (.builtin "any") := by decide +kernel) :
    PE X (.Call (.Name "any" p) [.GeneratorExp elt [⟨tg, iter, ifs, 0⟩] scope gpos] [] pos) (tAnyG P wi g tt te (own.map (·.2))) := by
  refine ⟨fun pins s σ H Q I h => ?_⟩
  refine wpAny_Call_Name_kw (ld_blt I hgl hm hb ?_)
  refine PyProof.Rows.callWith_builtin1 ?_ hst (by rfl)
  rw [hst]
  show wpAny _ _ (spliced ((false, eval (.GeneratorExp elt [⟨tg, iter, ifs, 0⟩] scope gpos) X.env) :: backTo pos (starEach [] X.env))) _ _ s
  refine Calls.spliced_cons (gen_make hr hc hN TB hcode S hi hg ht he stpAny_mono hs I h fun XG a oa gn n σw s5 eP eW epn ha hG back => ?_)
  refine Calls.spliced_nil ?_
  refine call_function_tree F.kind_any F.plain_any F.entry_any (F.args_any1 _) ?_
  unfold Builtin.«any»
  refine wpAny_bind (m := oneArg "any" _) (wpAny_pure ?_)
  refine wpAny_bind (wpAny_pyIter_gen hG.1 ?_)
  refine wpAny_pure ⟨plainId_quiet F.plain_any_loop _, any_loop (X := X) (XG := XG) (σw := σw) (Qd := Q (.bl false)) (Qf := Q (.bl true)) eP eW hr.hd (by have := hr.dp; omega) epn (fun s' σ' H' I' q => ?_) (fun s' σ' H' I' q => ?_) n s5 ha hG⟩
  · exact ⟨.bl false, H', back s' σ' H' I', rfl, q⟩
  · exact ⟨.bl true, H', back s' σ' H' I', rfl, q⟩
end
end GAl

set_option Elab.async false
set_option linter.all false
set_option maxRecDepth 100000
set_option maxHeartbeats 2000000
namespace HK
open PySem PySem.Spec PyProof.Rows L2 GAl GxR
/-! ### defs whose code object is known -/
structure FunC (K : PySem.W.Frag) (x qual : Str) (st : Stmt) (f : Addr) (fd : FuncData) (c : Addr) : Prop where
  ex : ∃ (oc : Value) (od : Option Addr) (kV doc pm : Value) (an : Option Addr) (ct : Value) (osl : Array (Option Value)),
    fd = PySem.W.fnOf x qual (defArgs st) (defBody st) (defScope st) .none kV doc pm an (.ref c) ct ∧ K.lookup f = some ⟨oc, od, .func fd, osl⟩ ∧ PySem.W.codeIn K (.ref c) qual = true
  kp : PySem.W.keepIn K (.ref f) = true
section
variable {P : Program} {w : World} {K : PySem.W.Frag} {mg : Str → Option Value} {base : Heap}
theorem FunC.toFun {x qual : Str} {st : Stmt} {f : Addr} {fd : FuncData} {c : Addr} (F : FunC K x qual st f fd c) : Fun K x qual st f fd := by
  obtain ⟨⟨oc, od, kV, doc, pm, an, ct, osl, e, l, h⟩, k⟩ := F
  exact ⟨⟨oc, od, kV, doc, pm, an, _, ct, osl, e, l, h⟩, k⟩
theorem FunC.ok {x qual : Str} {st : Stmt} {f : Addr} {fd : FuncData} {c : Addr} {N ps : List Str} {k : Nat} {sp : Sp} (F : FunC K x qual st f fd c) (S : FnScope N ps (defScope st)) (len : ∀ vs H Q E, sp vs H Q E → vs.length = ps.length)
    (hbody : ∀ (A : Around) (outer : List Env) (s : Shared) (H : Hp) (vs : List V) (Q : VK) (E : XK), Room k (A.deeper (envOfC qual (defScope st) s.heap.objs.size f (.ref c))) → sp vs H Q E →
      ∃ t, PSs (cxOf CX0 P w K mg base N qual (defScope st) f (.ref c) A outer s H E).nox (defBody st) t ∧ t { nx := fun _ H' => Q .non H', rt := Q } (start N vs) H) : FnOk P w K mg base CX0 (k + 1) f fd ps sp := by
  obtain ⟨oc, od, kV, doc, pm, an, ct, osl, rfl, lk, hcd⟩ := F.ex
  refine fn_of lk hcd S len fun A outer s H vs Q E hr hsp => ?_
  obtain ⟨t, h, q⟩ := hbody A outer s H vs Q E hr hsp
  exact ⟨t, h.nox, q⟩
theorem func_mk {x qual : Str} {st : Stmt} {f c : Addr} {oc : Value} {od an : Option Addr} {osl : Array (Option Value)} {kV doc pm ct : Value} (l : K.lookup f = some ⟨oc, od, .func (PySem.W.fnOf x qual (defArgs st) (defBody st) (defScope st) .none kV doc pm an (.ref c) ct), osl⟩)
    (h : PySem.W.codeIn K (.ref c) qual = true) (k : PySem.W.keepIn K (.ref f) = true) : FunC K x qual st f (PySem.W.fnOf x qual (defArgs st) (defBody st) (defScope st) .none kV doc pm an (.ref c) ct) c := ⟨⟨oc, od, kV, doc, pm, an, ct, osl, rfl, l, h⟩, k⟩
end

/-! ### what stays: everything but the list at t; tables stay tables -/
structure Kt (t : Addr) (H H' : Hp) : Prop where
  tup : ∀ b xs, H b = some (.tup xs) → H' b = some (.tup xs)
  frz : ∀ b o u, H b = some (.frz o u) → H' b = some (.frz o u)
  oth : ∀ b o, H b = some o → b ≠ t → (∀ ps, o ≠ .tbl ps) → H' b = some o
  tab : ∀ P, TabG H P → TabG H' P
  dom : ∀ b, H' b = none → H b = none
/-- everything; tables stay tables -/
structure K0 (H H' : Hp) : Prop where
  oth : ∀ b o, H b = some o → (∀ ps, o ≠ .tbl ps) → H' b = some o
  tab : ∀ P, TabG H P → TabG H' P
  dom : ∀ b, H' b = none → H b = none
theorem upd_none {H : Hp} {p b : Addr} {o : HO} (h : upd H p o b = none) : H b = none := by
  by_cases e : b = p
  · rw [e, upd_same] at h; cases h
  · rw [upd_ne e] at h; exact h
theorem K0.refl (H : Hp) : K0 H H := ⟨fun _ _ h _ => h, fun _ h => h, fun _ h => h⟩
theorem K0.trans {H H1 H2 : Hp} (a : K0 H H1) (b : K0 H1 H2) : K0 H H2 := ⟨fun x o h n => b.oth x o (a.oth x o h n) n, fun P h => b.tab P (a.tab P h), fun x h => a.dom x (b.dom x h)⟩
theorem K0.kt {t : Addr} {H H' : Hp} (a : K0 H H') : Kt t H H' := ⟨fun b xs h => a.oth b _ h (fun _ z => by cases z), fun b o u h => a.oth b _ h (fun _ z => by cases z), fun b o h _ n => a.oth b o h n, a.tab, a.dom⟩
theorem Kt.refl (t : Addr) (H : Hp) : Kt t H H := (K0.refl H).kt
theorem Kt.trans {t : Addr} {H H1 H2 : Hp} (a : Kt t H H1) (b : Kt t H1 H2) : Kt t H H2 := ⟨fun x xs h => b.tup x xs (a.tup x xs h), fun x o u h => b.frz x o u (a.frz x o u h), fun x o h n m => b.oth x o (a.oth x o h n m) n m, fun P h => b.tab P (a.tab P h), fun x h => a.dom x (b.dom x h)⟩
theorem tabG_upd {H : Hp} {p : Addr} {o : HO} (n : H p = none) {P : Addr} (h : TabG H P) : TabG (upd H p o) P := by
  obtain ⟨ps, e, ht⟩ := h
  exact ⟨ps, by rw [upd_ne (ne_of_none e n)]; exact e, ht⟩
theorem K0.new {H : Hp} {p : Addr} {o : HO} (n : H p = none) : K0 H (upd H p o) := ⟨fun b u e _ => by rw [upd_ne (ne_of_none e n)]; exact e, fun P h => tabG_upd n h, fun _ h => upd_none h⟩
theorem K0.tbd {P : Addr} {H H' : Hp} (h0 : TabG H P) (h : Tabbed P H H') : K0 H H' := ⟨fun b o e n => by
  have hb : b ≠ P := fun z => by
    obtain ⟨ps, e', _⟩ := h0
    rw [z, e'] at e
    exact n ps (Option.some.inj e).symm
  rw [h.2 b hb]; exact e, fun Q hq => by
  by_cases hQ : Q = P
  · rw [hQ]; exact h.1
  · obtain ⟨ps, e, ht⟩ := hq
    exact ⟨ps, by rw [h.2 Q hQ]; exact e, ht⟩, fun b e => by
  by_cases hb : b = P
  · obtain ⟨ps, e', _⟩ := h.1
    rw [hb, e'] at e; cases e
  · rw [h.2 b hb] at e; exact e⟩
/-- the list at t is written -/
theorem Kt.set {t : Addr} {H : Hp} {xs ys : List V} (h : H t = some (.lst xs)) : Kt t H (upd H t (.lst ys)) := ⟨fun b zs e => by
  rw [upd_ne (ne_of e h (fun z => by cases z))]; exact e, fun b o u e => by
  rw [upd_ne (ne_of e h (fun z => by cases z))]; exact e, fun b o e n _ => by rw [upd_ne n]; exact e, fun P hP => by
  obtain ⟨ps, e, ht⟩ := hP
  exact ⟨ps, by rw [upd_ne (ne_of e h (fun z => by cases z))]; exact e, ht⟩, fun _ e => upd_none e⟩
theorem Kt.sqT {K : PySem.W.Frag} {t a : Addr} {H H' : Hp} {xs : List V} (k : Kt t H H') (h : SqT K H a xs) : SqT K H' a xs := by
  rcases h with (h | ⟨o, h⟩) | h
  · exact .inl (.inl (k.tup _ _ h))
  · exact .inl (.inr ⟨o, k.frz _ _ _ h⟩)
  · exact .inr h
theorem K0.sqT {K : PySem.W.Frag} {a : Addr} {H H' : Hp} {xs : List V} (k : K0 H H') (h : SqT K H a xs) : SqT K H' a xs := (k.kt (t := 0)).sqT h
theorem K0.sqL {K : PySem.W.Frag} {a : Addr} {H H' : Hp} {xs : List V} (k : K0 H H') (h : SqL K H a xs) : SqL K H' a xs := by
  rcases h with (h | ⟨o, h⟩) | h
  · exact .inl (.inl (k.oth _ _ h (fun _ z => by cases z)))
  · exact .inl (.inr ⟨o, k.oth _ _ h (fun _ z => by cases z)⟩)
  · exact .inr h
theorem Kt.sqL {K : PySem.W.Frag} {t a : Addr} {H H' : Hp} {xs : List V} (k : Kt t H H') (n : a ≠ t) (h : SqL K H a xs) : SqL K H' a xs := by
  rcases h with (h | ⟨o, h⟩) | h
  · exact .inl (.inl (k.oth _ _ h n (fun _ z => by cases z)))
  · exact .inl (.inr ⟨o, k.frz _ _ _ h⟩)
  · exact .inr h
mutual
theorem K0.dp {K : PySem.W.Frag} {H H' : Hp} (k : K0 H H') : ∀ (d : PyData) (v : V), Dp K H v d → Dp K H' v d
  | .none, _, h => by cases h; exact .non
  | .bool _, _, h => by cases h; exact .bl _
  | .int _, _, h => by cases h; exact .int _
  | .str _, _, h => by cases h; exact .str _
  | .list ds, _, h => by cases h with | lst a b => exact .lst (k.sqL a) (K0.dpAll k ds _ b)
  | .tuple ds, _, h => by cases h with | tup a b => exact .tup (k.sqT a) (K0.dpAll k ds _ b)
  | .dict _, _, h => by cases h
theorem K0.dpAll {K : PySem.W.Frag} {H H' : Hp} (k : K0 H H') : ∀ (ds : List PyData) (vs : List V), DpAll K H vs ds → DpAll K H' vs ds
  | [], _, h => by cases h; exact .nil
  | d :: ds, _, h => by cases h with | cons a b => exact .cons (K0.dp k d _ a) (K0.dpAll k ds _ b)
end

/-! ### kinds -/
def tys : List String := ["NoneType", "bool", "int", "str", "list", "tuple", "dict"]
theorem tys_int {T : String} (h : T ∈ tys) : kitB T "int" = some (T == "int" || T == "bool") := by
  simp only [tys, List.mem_cons, List.not_mem_nil, or_false] at h
  rcases h with rfl | rfl | rfl | rfl | rfl | rfl | rfl <;> decide +kernel
theorem tys_bool {T : String} (h : T ∈ tys) : kitB T "bool" = some (T == "bool") := by
  simp only [tys, List.mem_cons, List.not_mem_nil, or_false] at h
  rcases h with rfl | rfl | rfl | rfl | rfl | rfl | rfl <;> decide +kernel
theorem tys_tuple {T : String} (h : T ∈ tys) : kitB T "tuple" = some (T == "tuple") := by
  simp only [tys, List.mem_cons, List.not_mem_nil, or_false] at h
  rcases h with rfl | rfl | rfl | rfl | rfl | rfl | rfl <;> decide +kernel
theorem tys_dict {T : String} (h : T ∈ tys) : kitB T "dict" = some (T == "dict") := by
  simp only [tys, List.mem_cons, List.not_mem_nil, or_false] at h
  rcases h with rfl | rfl | rfl | rfl | rfl | rfl | rfl <;> decide +kernel
theorem sqT_ty {K : PySem.W.Frag} {H : Hp} {a : Addr} {xs : List V} (h : SqT K H a xs) : TyX K H (.ref a) (.type "tuple") := by
  rcases h with (h | ⟨o, h⟩) | ⟨o, _, _, ho, h, _⟩
  · exact .base (.tup h)
  · exact .fTuple h
  · exact .kTuple ho h
theorem sqL_ty {K : PySem.W.Frag} {H : Hp} {a : Addr} {xs : List V} (h : SqL K H a xs) : TyX K H (.ref a) (.type "list") := by
  rcases h with (h | ⟨o, h⟩) | ⟨o, _, _, ho, h, _⟩
  · exact .base (.lst h)
  · exact .base (.frz h)
  · exact .kList ho h
def tyD : PyData → String
  | .none => "NoneType" | .bool _ => "bool" | .int _ => "int" | .str _ => "str" | .list _ => "list" | .tuple _ => "tuple" | .dict _ => "dict"
theorem tyD_mem (d : PyData) : tyD d ∈ tys := by cases d <;> simp [tyD, tys]
theorem dp_ty {K : PySem.W.Frag} {H : Hp} {v : V} {d : PyData} (h : Dp K H v d) : TyX K H v (.type (tyD d)) := by
  cases h with
  | non => exact .base .non
  | bl b => exact .base (.bl b)
  | int i => exact .base (.int i)
  | str x => exact .base (.str x)
  | lst a _ => exact sqL_ty a
  | tup a _ => exact sqT_ty a
def isWholeD : PyData → Bool
  | .int _ => true
  | _ => false
def withinD (d : PyData) (lo hi : Int) : Bool := match d with
  | .int i => decide (lo ≤ i) && decide (i ≤ hi)
  | _ => false
theorem whole_ty (d : PyData) : ((tyD d == "int" || tyD d == "bool") && !(tyD d == "bool")) = isWholeD d := by cases d <;> simp [tyD, isWholeD]
theorem dp_int {K : PySem.W.Frag} {H : Hp} {x : V} {d : PyData} (h : Dp K H x d) (e : isWholeD d = true) : ∃ i, x = .int i ∧ d = .int i := by
  cases h <;> first | exact ⟨_, rfl, rfl⟩ | cases e
end HK

set_option Elab.async false
set_option linter.all false
set_option maxRecDepth 100000
set_option maxHeartbeats 2000000
namespace HK
open PySem PySem.Spec PyProof.Rows L2 GAl GxR
/-! ### what a head by facts says of a def, in our words -/
section
variable {K : PySem.W.Frag} {x qual : Str} {st : Stmt} {f : Addr} {fd : FuncData}
theorem fun_of (F : FunD K x qual (defArgs st) (defBody st) (defScope st) [] [] f fd) : Fun K x qual st f fd := by
  obtain ⟨⟨oc, od, dV, kV, doc, pm, an, cdv, ct, osl, e, l, hcd, hD, _⟩, kp⟩ := F
  rcases hD with ⟨_, rfl⟩ | ⟨n, _⟩
  · exact ⟨⟨oc, od, kV, doc, pm, an, cdv, ct, osl, e, l, hcd⟩, kp⟩
  · exact absurd rfl n
theorem funC_of {p : He.Defn} (F : FunD K x qual (defArgs st) (defBody st) (defScope st) [] [] (He.fAd K p) fd) : FunC K x qual st (He.fAd K p) fd (He.cT K p).1 := by
  obtain ⟨⟨oc, od, dV, kV, doc, pm, an, cdv, ct, osl, e, l, hcd, hD, _⟩, kp⟩ := F
  obtain ⟨c, rfl⟩ : ∃ c, cdv = .ref c := by
    cases cdv with
    | ref c => exact ⟨c, rfl⟩
    | _ => cases hcd
  have ec : (He.cT K p).1 = c := He.codeOf_eq l (by rw [e])
  rcases hD with ⟨_, rfl⟩ | ⟨n, _⟩
  · rw [ec]
    exact ⟨⟨oc, od, kV, doc, pm, an, ct, osl, e, l, hcd⟩, kp⟩
  · exact absurd rfl n
end
def dd (x : Str) (st : Stmt) : He.DefD := ⟨(x, none), x, x, defArgs st, defBody st, defScope st, [], []⟩
def dm (c m q : Str) (st : Stmt) : He.DefD := ⟨(c, some m), m, q, defArgs st, defBody st, defScope st, [], []⟩
end HK

set_option Elab.async false
set_option linter.all false
set_option maxRecDepth 100000
set_option maxHeartbeats 2000000
namespace HK
open PySem PySem.Spec PyProof.Rows L2 GAl GxR
/-! facts that a head can be asked for: tables of words -/
def pwWords : List Str := [Str.ofString "come", Str.ofString "go", Str.ofString "up", Str.ofString "down"]
def strsB : List Str → List Value → Bool
  | [], [] => true
  | x :: xs, .str y _ :: vs => decide (x = y) && strsB xs vs
  | _, _ => false
def dataB (d : Data) : Bool := match d with
  | .seq its _ => strsB pwWords its.toList && decide (its.size ≤ 4)
  | _ => false
def pwB (K : PySem.W.Frag) : Bool := match K.lookup (He.ga K "PLACE_WORDS") with
  | some o => decide (o.cls = .type "tuple") && dataB o.data
  | none => false
/-- words about hearings -/
def hWords : List Str := [Str.ofString "ways", Str.ofString "come", Str.ofString "go", Str.ofString "up", Str.ofString "down", Str.ofString "emit", Str.ofString "stays", Str.ofString "served"]
def lenMin (w : Str) : Int := if w = Str.ofString "emit" then 0 else 1
def lenMax (w : Str) : Option Int := if w = Str.ofString "ways" then none else if w = Str.ofString "emit" then some 0 else some 1
def ioB : List (Option Int) → List Value → Bool
  | [], [] => true
  | some i :: xs, .int j _ :: vs => decide (i = j) && ioB xs vs
  | none :: xs, .none :: vs => ioB xs vs
  | _, _ => false
def tupB (K : PySem.W.Frag) (a : Addr) (p : List Value → Bool) : Bool := match K.lookup a with
  | some o => decide (o.cls = .type "tuple") && (match o.data with
    | .seq its _ => p its.toList && decide (its.size ≤ 4)
    | _ => false)
  | none => false
def netWsS : List Str := ["early", "cheapest", "ontime"]
def nwB (K : PySem.W.Frag) : Bool := tupB K (He.ga K "NET_WORDS") (strsB netWsS)
def lngB (K : PySem.W.Frag) (wd : Str) : Bool := match PySem.W.nsIn K (He.ga K "LENGTHS") wd with
  | some (some (.ref t)) => tupB K t (ioB [some (lenMin wd), lenMax wd])
  | _ => false
def lensB (K : PySem.W.Frag) : Bool := hWords.all (lngB K)
def lenKeys : List Str := ["net", "early", "cheapest", "ontime", "ways", "come", "go", "up", "down", "emit", "stays", "served"]
end HK

set_option Elab.async false
set_option linter.all false
set_option maxRecDepth 100000
set_option maxHeartbeats 0
namespace HK
open PySem PySem.Spec PyProof.Rows L2 GAl GxR
def topR (i : Nat) : Stmt := PySem.Challenge.pw_hearkenway_k59_desk_of_hearings.main.body.getD i (.Pass ⟨0, 0, 0, 0⟩)
def methR (i j : Nat) : Stmt := match topR i with
  | .ClassDef _ _ _ body _ _ _ _ _ _ _ => body.getD j (.Pass ⟨0, 0, 0, 0⟩)
  | s => s
abbrev RX : PySem.W.OpenRow := PySem.W.OpenLaw.row PySem.Challenge.rw_hearkenway_k59_desk_of_hearings
abbrev qX : Program := PySem.W.view RX.prog [90]
def namesX : List Str := (["__name__", "HearError", "NoNet", "NoPlace", "NoTree", "NoWays", "NoDeed", "TooMany", "NoText", "NoRow", "NoName", "is_whole", "is_within", "rises", "MOST_PLACES", "MOST_PRICE", "LEAST_LATE", "MOST_LATE", "is_net", "is_road", "is_place", "are_places", "are_whole_pairs", "need_net", "need_place"] : List Str) ++ (["need_hearers", "need_tree", "grows", "leads_to", "road_prices", "trimmed", "price", "earliest", "undercuts", "MOST_HEARERS", "cheapest", "need_few_hearers", "together", "is_less", "companies", "partings", "greatest_table", "join_parts", "follow_roads", "tree_along", "MOST_ENTRIES", "PLACE_WORDS", "are_ways", "leads_up", "need_ways"] : List Str) ++ (["is_deed", "Hearing", "FIGURES", "MOST_FIGURES", "read_net", "is_number", "on_time", "cheapest_on_time", "LENGTHS", "NET_WORDS", "SMALL_LETTERS", "LONGEST_NAME", "Desk", "under", "is_row", "is_name", "answer_of_net", "answer_of_hearing", "_law_e_blend", "_law_e_draw", "_law_e_ways", "_law_e_begun", "_law_e_wants", "_law_e_tells", "_law_e_takes"] : List Str) ++ (["_law_e_goes", "_law_e_deed", "_law_e_name", "_law_e_stays_text", "_law_e_served_text", "_law_e_asks_right"] : List Str)
def fnX : List He.DefD := [dm "Desk" "__init__" "Desk.__init__" (methR 70 0), dd "_law_e_blend" (topR 77), dd "_law_e_draw" (topR 78), dd "_law_e_ways" (topR 79), dd "_law_e_name" (topR 86), dd "_law_e_begun" (topR 80), dd "_law_e_deed" (topR 85), dd "_law_e_wants" (topR 81), dd "_law_e_tells" (topR 82), dd "_law_e_takes" (topR 83), dd "_law_e_goes" (topR 84), dd "_law_e_stays_text" (topR 87), dd "_law_e_served_text" (topR 88), dd "is_whole" (topR 12), dd "is_within" (topR 13), dd "leads_up" (topR 53), dd "are_ways" (topR 52), dd "need_ways" (topR 54), dm "Hearing" "__init__" "Hearing.__init__" (methR 56 0), dd "is_name" (topR 73), dd "is_number" (topR 61), dd "is_row" (topR 72), dd "under" (topR 71), dd "is_deed" (topR 55), dm "Hearing" "need_place" "Hearing.need_place" (methR 56 3), dm "Hearing" "may_be_done" "Hearing.may_be_done" (methR 56 4), dm "Hearing" "need_deed" "Hearing.need_deed" (methR 56 2), dm "Hearing" "take_number" "Hearing.take_number" (methR 56 10), dm "Hearing" "emit" "Hearing.emit" (methR 56 11), dm "Hearing" "needed" "Hearing.needed" (methR 56 14), dm "Hearing" "tell_ahead" "Hearing.tell_ahead" (methR 56 7), dm "Hearing" "come" "Hearing.come" (methR 56 5), dm "Hearing" "go" "Hearing.go" (methR 56 6), dm "Hearing" "take_letter" "Hearing.take_letter" (methR 56 8), dm "Hearing" "take_copy" "Hearing.take_copy" (methR 56 9), dm "Hearing" "do" "Hearing.do" (methR 56 1), dm "Hearing" "stays" "Hearing.stays" (methR 56 16), dm "Hearing" "serves" "Hearing.serves" (methR 56 13), dd "answer_of_hearing" (topR 75), dm "Desk" "say" "Desk.say" (methR 70 1), dd "_law_e_asks_right" (topR 89), dd "law" (topR 90)]
def faX : List He.Fa := [.glo "_law_e_blend", .glo "_law_e_draw", .glo "_law_e_ways", .glo "_law_e_name", .glo "_law_e_begun", .glo "_law_e_deed", .glo "_law_e_wants", .glo "_law_e_tells", .glo "_law_e_takes", .glo "_law_e_goes", .glo "_law_e_stays_text", .glo "_law_e_served_text", .glo "is_whole", .glo "is_within", .glo "leads_up", .glo "are_ways", .glo "need_ways", .glo "is_name", .glo "is_number", .glo "is_row", .glo "under", .glo "is_deed", .glo "answer_of_hearing", .glo "_law_e_asks_right", .glo "law", .glo "Hearing", .glo "PLACE_WORDS", .glo "Desk", .glo "NET_WORDS", .glo "LENGTHS", .free "len", .free "range", .free "tuple", .free "str", .free "sorted", .free "isinstance", .free "int", .free "bool", .free "all", .free "list", .int "MOST_ENTRIES" 8, .int "LONGEST_NAME" 8, .str "SMALL_LETTERS" (Str.ofString "abcdefghijklmnopqrstuvwxyz"), .int "MOST_FIGURES" 6, .str "FIGURES" (Str.ofString "0123456789"), .cls "Hearing", .mkr "Hearing", .meth "Hearing" "need_place", .meth "Hearing" "needed", .meth "Hearing" "serves", .meth "Hearing" "stays", .meth "Hearing" "tell_ahead", .meth "Hearing" "come", .meth "Hearing" "go", .meth "Hearing" "take_letter", .meth "Hearing" "take_number", .meth "Hearing" "take_copy", .meth "Hearing" "emit", .meth "Hearing" "may_be_done", .meth "Hearing" "need_deed", .meth "Hearing" "do", .noat "Hearing" "ahead", .noat "Hearing" "root", .noat "Hearing" "counted", .noat "Hearing" "hears", .noat "Hearing" "counts", .noat "Hearing" "served", .noat "Hearing" "letter_rows", .noat "Hearing" "copy_rows", .noat "Hearing" "stay_lists", .noat "Hearing" "emitted", .noat "Hearing" "letter_sum", .noat "Hearing" "copy_sum", .cls "Desk", .mkr "Desk", .meth "Desk" "say", .noat "Desk" "nets", .noat "Desk" "hearings"]
def tfX : List He.Defn := [("is_name", none), ("is_number", none), ("is_row", none), ("are_ways", none)]
def exX : PySem.W.Frag → Bool := fun K => pwB K && (nwB K && lensB K)
def tsX : List He.Tab := [(fun K => He.ga K "LENGTHS", lenKeys)]
abbrev hkX : PySem.W.Hook := He.hookX 4 faX fnX tsX tfX exX
def obX (s : PySem.W.SharedT) : He.AlX := He.obsX 4 faX fnX tsX tfX exX (HandSHeadRun.getT s)
theorem obX_eq (s : PySem.W.SharedT) : obX s = hkX.obs s.abs := He.obsX_eq (HandSHeadRun.getT_eq s)
end HK
section
open PySem PySem.W PySem.Calls PyProof.Rows
/-- a dict at the top asks the world for this row: both answers -/
def HK.wB (b : Bool) (w : World) : World := ⟨w.draws, { w.params with followText := fun r => match decide (r = "special-get-raises") with | true => b | false => w.params.followText r }⟩
theorem HK.wB_eq {w : World} {b : Bool} (h : w.params.followText "special-get-raises" = b) : w = HK.wB b w := by
  obtain ⟨d, p⟩ := w
  unfold HK.wB
  congr 1
  obtain ⟨p1, p2, p3, p4, p5, f, p7⟩ := p
  congr 1
  funext r
  by_cases e : r = "special-get-raises"
  · rw [decide_eq_true e, e]; exact h
  · rw [decide_eq_false e]
theorem HK.runT (w : World) : HandSHeadRun.RunEq HK.RX HK.qX HK.hkX HK.obX 40000 HK.namesX (HK.wB true w) := by
  intro os
  kernel_rfl
theorem HK.runF (w : World) : HandSHeadRun.RunEq HK.RX HK.qX HK.hkX HK.obX 40000 HK.namesX (HK.wB false w) := by
  intro os
  kernel_rfl
theorem HK.runX (w : World) : HandSHeadRun.RunEq HK.RX HK.qX HK.hkX HK.obX 40000 HK.namesX w := by
  cases h : w.params.followText "special-get-raises" with
  | true => rw [HK.wB_eq h]; exact HK.runT w
  | false => rw [HK.wB_eq h]; exact HK.runF w
end

set_option Elab.async false
set_option linter.all false
set_option maxRecDepth 100000
set_option maxHeartbeats 2000000
namespace HK
open PySem PySem.Spec PyProof.Rows L2 GAl GxR
def topS (i : Nat) : Stmt := PySem.Challenge.pw_hearkenway_k59_desk_of_hearings.main.body.getD i (.Pass ⟨0, 0, 0, 0⟩)
abbrev sWhole : Stmt := topS 12
abbrev sWithin : Stmt := topS 13
abbrev sRises : Stmt := topS 14
abbrev sIsNet : Stmt := topS 20
abbrev sIsRoad : Stmt := topS 21
theorem scWhole : FnScope ["thing"] ["thing"] (defScope sWhole) := ⟨rfl, rfl, rfl, by decide +kernel, rfl, by decide +kernel, by decide +kernel⟩
theorem scWithin : FnScope ["thing", "least", "greatest"] ["thing", "least", "greatest"] (defScope sWithin) := ⟨rfl, rfl, rfl, by decide +kernel, rfl, by decide +kernel, by decide +kernel⟩
theorem scIsRoad : FnScope ["many", "thing", "start", "end", "cost", "late"] ["many", "thing"] (defScope sIsRoad) := ⟨rfl, rfl, rfl, by decide +kernel, rfl, by decide +kernel, by decide +kernel⟩

theorem qeq {Q : VK} {a b : Bool} {H : Hp} (q : Q (.bl a) H) (e : a = b) : Q (.bl b) H := e ▸ q
section
variable {P : Program} {w : World} {K : PySem.W.Frag} {mg : Str → Option Value} {base : Heap}
def spWhole (K : PySem.W.Frag) : Sp := fun vs H Q _ => ∃ x d, vs = [x] ∧ Dp K H x d ∧ Q (.bl (isWholeD d)) H
theorem ok_whole {f : Addr} {fd : FuncData} (F : Fun K "is_whole" "is_whole" sWhole f fd) (mi : mg "isinstance" = none) (mI : mg "int" = none) (mB : mg "bool" = none) : FnOk P w K mg base CX0 1 f fd ["thing"] (spWhole K) := by
  refine F.ok scWhole (fun vs H Q E h => ?_) (fun cdv A outer s H vs Q E hr h => ?_)
  · obtain ⟨x, d, rfl, _⟩ := h
    rfl
  · obtain ⟨x, d, rfl, hd, q⟩ := h
    refine ⟨_, pss_one (ps_ret (pe_and (pe_callB call_isi (by rfl) mi boot_isinstance (pa_cons (pv 0) (pa_cons (pe_bltn (v := .ty "int") (by rfl) mI (by decide +kernel) rfl) pa_nil)))
      (pe_one (pe_not (pe_callB call_isi (by rfl) mi boot_isinstance (pa_cons (pv 0) (pa_cons (pe_bltn (v := .ty "bool") (by rfl) mB (by decide +kernel) rfl) pa_nil))))))), ?_⟩
    refine ⟨x, rfl, x, .ty "int", _, _, _, rfl, .ty "int", dp_ty hd, kit_ty (tys_int (tyD_mem d)), _, rfl, ite2 (fun e => ?_) (fun e => ?_)⟩
    · refine ⟨x, rfl, x, .ty "bool", _, _, _, rfl, .ty "bool", dp_ty hd, kit_ty (tys_bool (tyD_mem d)), _, rfl, ?_⟩
      exact qeq q (by rw [← whole_ty d, e, Bool.true_and])
    · have e' : (tyD d == "int" || tyD d == "bool") = false := by simpa using e
      exact qeq q (by rw [← whole_ty d, e', Bool.false_and])
def spWithin (K : PySem.W.Frag) : Sp := fun vs H Q _ => ∃ x d lo hi, vs = [x, .int lo, .int hi] ∧ Dp K H x d ∧ Q (.bl (withinD d lo hi)) H
theorem ok_within {f fW : Addr} {fd fdW : FuncData} (F : Fun K "is_within" "is_within" sWithin f fd) (FW : Fun K "is_whole" "is_whole" sWhole fW fdW) (bW : Binds K fdW ["thing"] []) (gW : mg "is_whole" = some (.ref fW))
    (GW : FnOk P w K mg base CX0 1 fW fdW ["thing"] (spWhole K)) : FnOk P w K mg base CX0 2 f fd ["thing", "least", "greatest"] (spWithin K) := by
  refine F.ok scWithin (fun vs H Q E h => ?_) (fun cdv A outer s H vs Q E hr h => ?_)
  · obtain ⟨x, d, lo, hi, rfl, _⟩ := h
    rfl
  · obtain ⟨x, d, lo, hi, rfl, hd, q⟩ := h
    refine ⟨_, pss_one (ps_ret (pe_and (pe_call GW hr (by rfl) gW FW.kp bW .nil pass0 (pa_cons (pv 0) pa_nil)) (pe_one (pe_chain op_le op_le (pv 1) (pv 0) (pv 2))))), ?_⟩
    refine ⟨x, rfl, x, d, rfl, hd, _, rfl, ite2 (fun e => ?_) (fun e => ?_)⟩
    · obtain ⟨i, rfl, rfl⟩ := dp_int hd e
      refine ⟨_, rfl, _, rfl, _, _, rfl, rfl, _, rfl, ite2 (fun e1 => ?_) (fun e1 => ?_)⟩
      · refine ⟨_, rfl, _, _, rfl, rfl, ?_⟩
        exact qeq q (by show (decide (lo ≤ i) && decide (i ≤ hi)) = _; rw [e1, Bool.true_and])
      · exact qeq q (by show (decide (lo ≤ i) && decide (i ≤ hi)) = _; simp only [Bool.not_eq_true] at e1; rw [e1, Bool.false_and])
    · exact qeq q (by cases d <;> first | rfl | exact absurd rfl e)
end
end HK

set_option Elab.async false
set_option linter.all false
set_option maxRecDepth 100000
set_option maxHeartbeats 2000000
namespace HK
open PySem PySem.Spec PyProof.Rows L2 GAl GxR
def neD : PyData → PyData → Bool
  | .int a, .int b => !decide (a = b)
  | _, _ => false
def isRoadD (n : Int) : PyData → Bool
  | .tuple [s, e, c, l] => (withinD s 0 (n - 1) && withinD e 0 (n - 1) && neD s e) && (withinD c 0 1000 && withinD l 1 1000)
  | _ => false
theorem dpAll_len {K : PySem.W.Frag} {H : Hp} : ∀ {xs : List V} {ds : List PyData}, DpAll K H xs ds → xs.length = ds.length
  | _, _, .nil => rfl
  | _, _, .cons _ t => by rw [List.length_cons, List.length_cons, dpAll_len t]
theorem within_int {d : PyData} {lo hi : Int} (h : withinD d lo hi = true) : ∃ i, d = .int i ∧ lo ≤ i ∧ i ≤ hi := by
  cases d <;> simp only [withinD] at h <;> first | cases h | skip
  rename_i i
  simp only [Bool.and_eq_true, decide_eq_true_eq] at h
  exact ⟨i, rfl, h.1, h.2⟩
theorem dp_int' {K : PySem.W.Frag} {H : Hp} {x : V} {i : Int} (h : Dp K H x (.int i)) : x = .int i := by cases h; rfl
theorem dp_tup {K : PySem.W.Frag} {H : Hp} {x : V} {ds : List PyData} (h : Dp K H x (.tuple ds)) : ∃ a xs, x = .ref a ∧ SqT K H a xs ∧ DpAll K H xs ds := by cases h with | tup a b => exact ⟨_, _, rfl, a, b⟩

section
variable {P : Program} {w : World} {K : PySem.W.Frag} {mg : Str → Option Value} {base : Heap}
def spRoad (K : PySem.W.Frag) : Sp := fun vs H Q _ => ∃ (n : Int) (x : V) (d : PyData), vs = [.int n, x] ∧ Dp K H x d ∧ Q (.bl (isRoadD n d)) H
theorem ok_road {f fW : Addr} {fd fdW : FuncData} {t1 t2 t3 : Tok} (F : Fun K "is_road" "is_road" sIsRoad f fd) (FW : Fun K "is_within" "is_within" sWithin fW fdW) (bW : Binds K fdW ["thing", "least", "greatest"] []) (gW : mg "is_within" = some (.ref fW))
    (GW : FnOk P w K mg base CX0 2 fW fdW ["thing", "least", "greatest"] (spWithin K)) (mi : mg "isinstance" = none) (mT : mg "tuple" = none) (ml : mg "len" = none)
    (g1 : mg "MOST_PRICE" = some (.int 1000 t1)) (g2 : mg "LEAST_LATE" = some (.int 1 t2)) (g3 : mg "MOST_LATE" = some (.int 1000 t3)) : FnOk P w K mg base CX0 3 f fd ["many", "thing"] (spRoad K) := by
  refine F.ok scIsRoad (fun vs H Q E h => ?_) (fun cdv A outer s H vs Q E hr h => ?_)
  · obtain ⟨n, x, d, rfl, _⟩ := h
    rfl
  · obtain ⟨n, x, d, rfl, hd, q⟩ := h
    refine ⟨_, pss_cons (ps_if (pt_not (PW.pt (pw_and (pt_val (pe_callB call_isi (by rfl) mi boot_isinstance (pa_cons (pv 1) (pa_cons (pe_bltn (v := .ty "tuple") (by rfl) mT (by decide +kernel) rfl) pa_nil))))
        (pw_and1 (pt_cmpR op_eq (pe_callB call_len_seq (by rfl) ml PySem.boot_len (pa_cons (pv 1) pa_nil)) pe_int (nomark _)))))) (pss_one (ps_ret pe_bl)) pss_nil)
      (pss_cons (ps_asg (pv 1) (pg_tup rfl (pgs_cons (pg_name (i := 2) scIsRoad.nd rfl (.inl rfl)) (pgs_cons (pg_name (i := 3) scIsRoad.nd rfl (.inl rfl)) (pgs_cons (pg_name (i := 4) scIsRoad.nd rfl (.inl rfl)) (pgs_cons (pg_name (i := 5) scIsRoad.nd rfl (.inl rfl)) pgs_nil))))))
      (pss_cons (ps_if (pt_not (PW.pt (pw_and (pt_val (pe_call GW hr (by rfl) gW FW.kp bW .nil pass0 (pa_cons (pv 2) (pa_cons pe_int (pa_cons (pe_op op_sub (pv 0) pe_int) pa_nil)))))
        (pw_and (pt_val (pe_call GW hr (by rfl) gW FW.kp bW .nil pass0 (pa_cons (pv 3) (pa_cons pe_int (pa_cons (pe_op op_sub (pv 0) pe_int) pa_nil)))))
          (pw_and1 (pt_cmpR op_ne (pv 2) (pv 3) (nomark _))))))) (pss_one (ps_ret pe_bl)) pss_nil)
      (pss_one (ps_ret (pe_and (pe_call GW hr (by rfl) gW FW.kp bW .nil pass0 (pa_cons (pv 4) (pa_cons pe_int (pa_cons (pe_glob (v := .int 1000) (by rfl) g1 ⟨_, rfl⟩) pa_nil))))
        (pe_one (pe_call GW hr (by rfl) gW FW.kp bW .nil pass0 (pa_cons (pv 5) (pa_cons (pe_glob (v := .int 1) (by rfl) g2 ⟨_, rfl⟩) (pa_cons (pe_glob (v := .int 1000) (by rfl) g3 ⟨_, rfl⟩) pa_nil)))))))))), ?_⟩
    -- isinstance(thing, tuple) and len(thing) == 4
    refine ⟨x, rfl, x, .ty "tuple", _, _, _, rfl, .ty "tuple", dp_ty hd, kit_ty (tys_tuple (tyD_mem d)), _, rfl, ite2 (fun e => ?_) (fun e => ?_)⟩
    · obtain ⟨ds, rfl⟩ : ∃ ds, d = .tuple ds := by cases d <;> first | exact ⟨_, rfl⟩ | (simp [tyD] at e)
      obtain ⟨a, xs, rfl, hq, hall⟩ := dp_tup hd
      refine ⟨.ref a, rfl, a, xs, rfl, .inr hq, rfl, _, rfl, ?_⟩
      by_cases h4 : xs.length = 4
      · rw [decide_eq_true (show (V.int (xs.length : Int)) = .int 4 by rw [h4]; rfl)]
        refine iteF ?_
        have h4' : ds.length = 4 := by rw [← dpAll_len hall]; exact h4
        obtain ⟨s1, e1, c1, l1, rfl⟩ : ∃ s1 e1 c1 l1, ds = [s1, e1, c1, l1] := by
          match ds, h4' with
          | [a, b, c, d], _ => exact ⟨a, b, c, d, rfl⟩
        cases hall with
        | cons d1 hall => cases hall with
          | cons d2 hall => cases hall with
            | cons d3 hall => cases hall with
              | cons d4 hall =>
                cases hall
                rename_i v1 v2 v3 v4
                refine ⟨.ref a, rfl, a, _, rfl, hq, rfl, v1, _, rfl, v2, _, rfl, v3, _, rfl, v4, _, rfl, rfl, ?_⟩
                refine ⟨v1, rfl, .int n, rfl, n, 1, rfl, rfl, v1, s1, 0, n - 1, rfl, d1, _, rfl, ite2 (fun b1 => ?_) (fun b1 => ?_)⟩
                · refine ⟨v2, rfl, .int n, rfl, n, 1, rfl, rfl, v2, e1, 0, n - 1, rfl, d2, _, rfl, ite2 (fun b2 => ?_) (fun b2 => ?_)⟩
                  · obtain ⟨i, rfl, _⟩ := within_int b1
                    obtain ⟨j, rfl, _⟩ := within_int b2
                    obtain rfl := dp_int' d1
                    obtain rfl := dp_int' d2
                    refine ⟨_, rfl, _, rfl, rfl, _, rfl, ?_⟩
                    have hne : (!decide (V.int i = V.int j)) = neD (.int i) (.int j) := by
                      show (!decide (V.int i = V.int j)) = !decide (i = j)
                      congr 1
                      exact decide_eq_decide.mpr ⟨fun z => V.int.inj z, fun z => by rw [z]⟩
                    rw [hne]
                    cases b3 : neD (.int i) (.int j) with
                    | true =>
                      refine iteF ?_
                      refine ⟨v3, rfl, v3, c1, 0, 1000, rfl, d3, _, rfl, ite2 (fun b4 => ?_) (fun b4 => ?_)⟩
                      · refine ⟨v4, rfl, v4, l1, 1, 1000, rfl, d4, ?_⟩
                        exact qeq q (by show ((_ && _ && _) && (_ && _)) = _; rw [b1, b2, b3, b4]; rfl)
                      · simp only [Bool.not_eq_true] at b4
                        exact qeq q (by show ((_ && _ && _) && (_ && _)) = _; rw [b4, Bool.false_and, Bool.and_false])
                    | false =>
                      refine iteT ?_
                      exact qeq q (by show ((_ && _ && _) && (_ && _)) = _; rw [b3, Bool.and_false, Bool.false_and])
                  · simp only [Bool.not_eq_true] at b2
                    refine iteT ?_
                    exact qeq q (by show ((_ && _ && _) && (_ && _)) = _; rw [b2, Bool.and_false, Bool.false_and, Bool.false_and])
                · simp only [Bool.not_eq_true] at b1
                  refine iteT ?_
                  exact qeq q (by show ((_ && _ && _) && (_ && _)) = _; rw [b1, Bool.false_and, Bool.false_and, Bool.false_and])
      · rw [decide_eq_false (show ¬ (V.int (xs.length : Int)) = .int 4 from fun z => h4 (by have := V.int.inj z; omega))]
        refine iteT ?_
        refine qeq q ?_
        have h4' : ds.length ≠ 4 := by rw [← dpAll_len hall]; exact h4
        unfold isRoadD
        split
        · rename_i heq
          cases heq
          exact absurd rfl h4'
        · rfl
    · refine iteT ?_
      refine qeq q ?_
      cases d <;> first | rfl | (exact absurd rfl e)
end
end HK

set_option Elab.async false
set_option linter.all false
set_option maxRecDepth 100000
set_option maxHeartbeats 2000000
namespace HK
open PySem PySem.Spec PyProof.Rows L2 GAl GxR
theorem tyes {σ : L2.St} {H : Hp} {A B : Hp → Prop} (h : A H) : tYes σ H (fun b H3 => if b = true then A H3 else B H3) := by
  show (fun (b : Bool) (H3 : Hp) => if b = true then A H3 else B H3) true H
  simp only [if_true]
  exact h
def risesB (l : List (List Int)) : Bool := (List.range (l.length - 1)).all fun i => HT.lexLt (l.getD i []) (l.getD (i + 1) [])
theorem risesB_yes {l : List (List Int)} (h : ∀ j, j < l.length - 1 → HT.lexLt (l.getD j []) (l.getD (j + 1) []) = true) : risesB l = true := by
  unfold risesB
  rw [List.all_eq_true]
  exact fun j hj => h j (List.mem_range.mp hj)
theorem risesB_no {l : List (List Int)} {j : Nat} (hj : j < l.length - 1) (h : HT.lexLt (l.getD j []) (l.getD (j + 1) []) = false) : risesB l = false := by
  unfold risesB
  rw [Bool.eq_false_iff]
  intro z
  have := List.all_eq_true.mp z j (List.mem_range.mpr hj)
  rw [h] at this
  cases this
theorem cut1 (xs : List V) : cutV xs (some 1) none = xs.drop 1 := by
  unfold cutV
  rw [show HT.sIx xs.length 0 (some 1) = min 1 xs.length from HT.sIx_nat xs.length 0 1, HT.sIx_none]
  cases xs with
  | nil => rfl
  | cons x r =>
    rw [show min 1 (x :: r).length = 1 by
      rw [List.length_cons]
      omega]
    show (List.take ((x :: r).length - 1) r) = r
    rw [List.length_cons, Nat.add_sub_cancel]
    exact List.take_length
theorem scRises : FnScope ["row", "low", "high"] ["row"] (defScope sRises) := ⟨rfl, rfl, rfl, by decide +kernel, rfl, by decide +kernel, by decide +kernel⟩
section
variable {P : Program} {w : World} {K : PySem.W.Frag} {mg : Str → Option Value} {base : Heap}
/-- the list at a holds tuples of ints -/
def TupsAt (K : PySem.W.Frag) (H : Hp) (xs : List V) (l : List (List Int)) : Prop := xs.length = l.length ∧ ∀ (i : Nat) (x : V), xs[i]? = some x → ∃ t, x = .ref t ∧ SqT K H t ((l.getD i []).map V.int)
theorem TupsAt.k0 {H H' : Hp} {xs : List V} {l : List (List Int)} (h : TupsAt K H xs l) (k : K0 H H') : TupsAt K H' xs l := ⟨h.1, fun i x e => by
  obtain ⟨t, e, s⟩ := h.2 i x e
  exact ⟨t, e, k.sqT s⟩⟩
def spRises (K : PySem.W.Frag) (Pr : Addr) : Sp := fun vs H Q _ => ∃ (a : Addr) (xs : List V) (l : List (List Int)), vs = [.ref a] ∧ SqL K H a xs ∧ TupsAt K H xs l ∧ TabG H Pr ∧ ∀ H', K0 H H' → Q (.bl (risesB l)) H'
theorem ok_rises {f c Pr : Addr} {fd : FuncData} (F : FunC K "rises" "rises" sRises f fd c) (TB : TabB base mg c Pr) (mz : mg "zip" = none) (ma : mg "all" = none) : FnOk P w K mg base CX0 2 f fd ["row"] (spRises K Pr) := by
  refine F.ok scRises (fun vs H Q E h => ?_) (fun A outer s H vs Q E hr h => ?_)
  · obtain ⟨a, xs, l, rfl, _⟩ := h
    rfl
  · obtain ⟨a, xs, l, rfl, hS, hT, hP, q⟩ := h
    refine ⟨_, pss_one (ps_ret (pe_allG (own := [("low", 1), ("high", 2)]) (k := 0) (g := gTup K 2 (gCons (gName 1) (gCons (gName 2) gNil))) (tt := tYes) (te := tOp (rLtT K) (tVar 1) (tVar 2)) hr (by rfl) ma rfl scRises.nd TB rfl (gsc_by (N := ["row", "low", "high"]) (sc := defScope sRises) (by decide +kernel))
      (pi_zip (by rfl) mz (pa_cons (pv 0) (pa_cons (pe_slice sl_list (pv 0) (po_some pe_int) po_none) pa_nil)))
      (fun A' hr' _ _ _ _ _ _ => pg_tup rfl (pgs_cons (pg_name (i := 1) scRises.nd rfl (.inl rfl)) (pgs_cons (pg_name (i := 2) scRises.nd rfl (.inl rfl)) pgs_nil)))
      (fun A' hr' _ _ _ _ _ _ => pts_nil)
      (fun A' hr' _ _ _ _ _ _ => pe_cmpR (op_ltT hr'.units0) (pv 1) (pv 2) (nomark _)))), ?_⟩
    refine ⟨.ref a, rfl, .ref a, rfl, 1, rfl, a, xs, rfl, hS, fun c nc => ?_⟩
    have k1 : K0 H (upd H c (.lst (cutV xs (some 1) none))) := K0.new nc
    refine ⟨a, c, xs, _, rfl, k1.sqL hS, .inl (.inl upd_same), k1.tab _ hP, fun H2 hT2 => ?_⟩
    have k2 : K0 H H2 := k1.trans (K0.tbd (k1.tab _ hP) hT2)
    have hc2 : H2 c = some (.lst (xs.drop 1)) := by
      have := (K0.tbd (k1.tab _ hP) hT2).oth c _ upd_same (fun _ z => by cases z)
      rw [cut1] at this
      exact this
    refine ⟨fun i m H3 => i + m = xs.length - 1 ∧ K0 H H3 ∧ H3 c = some (.lst (xs.drop 1)) ∧ ∀ j, j < i → HT.lexLt (l.getD j []) (l.getD (j + 1) []) = true, ⟨xs.length - 1, by omega, k2, hc2, fun j hj => absurd hj (Nat.not_lt_zero _)⟩, fun i m H3 hW => ?_⟩
    obtain ⟨em, k3, ec, hlt⟩ := hW
    have hA : SqL K H3 a xs := k3.sqL hS
    have hC : SqL K H3 c (xs.drop 1) := .inl (.inl ec)
    by_cases hi : i < xs.length - 1
    · have h1 : i < xs.length := by omega
      have h2 : i + 1 < xs.length := by omega
      have g1 : xs[i]? = some xs[i] := List.getElem?_eq_getElem h1
      have g2 : (xs.drop 1)[i]? = some xs[i + 1] := by rw [List.getElem?_drop, Nat.add_comm 1 i]; exact List.getElem?_eq_getElem h2
      refine .inr ⟨⟨_, _, _, _, hA, hC, g1, g2⟩, fun H' => K0 H H' ∧ H' c = some (.lst (xs.drop 1)) ∧ HT.lexLt (l.getD i []) (l.getD (i + 1) []) = true, fun H' hN => ?_, fun x H' hy => ?_⟩
      · obtain ⟨k', ec', hl'⟩ := hN
        refine ⟨m - 1, by omega, by omega, k', ec', fun j hj => ?_⟩
        by_cases e : j = i
        · rw [e]; exact hl'
        · exact hlt j (by omega)
      · obtain ⟨T, x1, x2, rfl, nT, rfl, f1, f2⟩ := hy
        have ex1 : x1 = xs[i] := Option.some.inj ((f1 _ hA).symm.trans g1)
        have ex2 : x2 = xs[i + 1] := Option.some.inj ((f2 _ hC).symm.trans g2)
        have kT : K0 H3 (upd H3 T (.tup [x1, x2])) := K0.new nT
        obtain ⟨t1, e1, s1⟩ := hT.2 i x1 (by rw [ex1]; exact g1)
        obtain ⟨t2, e2, s2⟩ := hT.2 (i + 1) x2 (by rw [ex2]; exact List.getElem?_eq_getElem h2)
        refine ⟨T, [x1, x2], rfl, .inl (.inl upd_same), rfl, x1, [x2], rfl, x2, [], rfl, rfl, rfl, ?_⟩
        refine tyes ?_
        have k4 := k3.trans kT
        refine ⟨x1, rfl, x2, rfl, t1, t2, _, _, e1, e2, k4.sqT s1, k4.sqT s2, _, rfl, ?_⟩
        cases hb : HT.lexLt (l.getD i []) (l.getD (i + 1) []) with
        | true => exact iteT ⟨k4, kT.oth c _ ec (fun _ z => by cases z), rfl⟩
        | false => exact iteF (qeq (q _ k4) (risesB_no (by rw [← hT.1]; exact hi) hb))
    · refine .inl ⟨⟨_, _, hA, hC, .inr (by rw [List.length_drop]; omega)⟩, ?_⟩
      exact qeq (q _ k3) (risesB_yes fun j hj => hlt j (by rw [← hT.1] at hj; omega))
end
end HK

set_option Elab.async false
set_option linter.all false
set_option maxRecDepth 100000
set_option maxHeartbeats 2000000
namespace HK
open PySem PySem.Spec PyProof.Rows L2 GAl GxR
def pairD : PyData → List Int
  | .tuple (.int s :: .int e :: _) => [s, e]
  | _ => []
def isNetD : PyData → Bool
  | .tuple [.int m, .tuple rs] => (decide (1 ≤ m) && decide (m ≤ 12)) && (rs.all (isRoadD m) && risesB (rs.map pairD))
  | _ => false
theorem road_ints {n : Int} {d : PyData} (h : isRoadD n d = true) : ∃ s e c l : Int, d = .tuple [.int s, .int e, .int c, .int l] ∧ 0 ≤ s ∧ s ≤ n - 1 ∧ 0 ≤ e ∧ e ≤ n - 1 ∧ s ≠ e ∧ 0 ≤ c ∧ c ≤ 1000 ∧ 1 ≤ l ∧ l ≤ 1000 := by
  unfold isRoadD at h
  split at h
  · rename_i s e c l
    simp only [Bool.and_eq_true] at h
    obtain ⟨⟨⟨h1, h2⟩, h3⟩, h4, h5⟩ := h
    obtain ⟨i, rfl, a1, a2⟩ := within_int h1
    obtain ⟨j, rfl, b1, b2⟩ := within_int h2
    obtain ⟨k, rfl, c1, c2⟩ := within_int h4
    obtain ⟨q, rfl, d1, d2⟩ := within_int h5
    refine ⟨i, j, k, q, rfl, a1, a2, b1, b2, fun z => ?_, c1, c2, d1, d2⟩
    rw [z] at h3
    simp [neD] at h3
  · cases h
theorem dp_ints4 {K : PySem.W.Frag} {H : Hp} {x : V} {s e c l : Int} (h : Dp K H x (.tuple [.int s, .int e, .int c, .int l])) : ∃ a, x = .ref a ∧ SqT K H a [.int s, .int e, .int c, .int l] := by
  obtain ⟨a, xs, rfl, hq, hall⟩ := dp_tup h
  cases hall with
  | cons d1 hall => cases hall with
    | cons d2 hall => cases hall with
      | cons d3 hall => cases hall with
        | cons d4 hall =>
          cases hall
          obtain rfl := dp_int' d1
          obtain rfl := dp_int' d2
          obtain rfl := dp_int' d3
          obtain rfl := dp_int' d4
          exact ⟨a, rfl, hq⟩
theorem dpAll_get {K : PySem.W.Frag} {H : Hp} : ∀ {xs : List V} {ds : List PyData} {i : Nat} {x : V}, DpAll K H xs ds → xs[i]? = some x → ∃ d, ds[i]? = some d ∧ Dp K H x d
  | _, _, _, _, .nil, e => by simp at e
  | _, _, 0, _, .cons h _, e => by simp at e; subst e; exact ⟨_, rfl, h⟩
  | _, _, i + 1, x, .cons _ t, e => by
    obtain ⟨d, h1, h2⟩ := dpAll_get (i := i) (x := x) t (by simpa using e)
    exact ⟨d, by simpa using h1, h2⟩
theorem K0.mut {H H' : Hp} {p : Addr} {o : HO} (k : K0 H H') (n : H p = none) : K0 H (upd H' p o) := ⟨fun b u e m => by
  rw [upd_ne (ne_of_none e n)]; exact k.oth b u e m, fun P h => by
  obtain ⟨ps, e, ht⟩ := h
  obtain ⟨ps', e', ht'⟩ := k.tab P ⟨ps, e, ht⟩
  exact ⟨ps', by rw [upd_ne (ne_of_none e n)]; exact e', ht'⟩, fun b e => k.dom b (upd_none e)⟩
theorem TupsAt.kt {K : PySem.W.Frag} {t : Addr} {H H' : Hp} {xs : List V} {l : List (List Int)} (h : TupsAt K H xs l) (k : Kt t H H') : TupsAt K H' xs l := ⟨h.1, fun i x e => by
  obtain ⟨t, e, s⟩ := h.2 i x e
  exact ⟨t, e, k.sqT s⟩⟩
theorem TupsAt.snoc {K : PySem.W.Frag} {H : Hp} {xs : List V} {l : List (List Int)} {t : Addr} {ns : List Int} (h : TupsAt K H xs l) (s : SqT K H t (ns.map V.int)) : TupsAt K H (xs ++ [.ref t]) (l ++ [ns]) := by
  refine ⟨by simp [h.1], fun i x e => ?_⟩
  by_cases hi : i < xs.length
  · rw [List.getElem?_append_left hi] at e
    obtain ⟨t', e', s'⟩ := h.2 i x e
    refine ⟨t', e', ?_⟩
    have : (l ++ [ns]).getD i [] = l.getD i [] := by
      simp only [List.getD_eq_getElem?_getD]
      rw [List.getElem?_append_left (by rw [← h.1]; exact hi)]
    rw [this]; exact s'
  · have hx : i = xs.length := by
      have : i < (xs ++ [V.ref t]).length := (List.getElem?_eq_some_iff.mp e).1
      rw [List.length_append, List.length_singleton] at this
      omega
    subst hx
    rw [List.getElem?_append_right (Nat.le_refl _), Nat.sub_self] at e
    have e : V.ref t = x := Option.some.inj e
    refine ⟨t, e.symm, ?_⟩
    have : (l ++ [ns]).getD xs.length [] = ns := by
      simp only [List.getD_eq_getElem?_getD]
      rw [h.1, List.getElem?_append_right (Nat.le_refl _), Nat.sub_self]; rfl
    rw [this]; exact s
theorem scIsNet : FnScope ["thing", "many", "roads", "road"] ["thing"] (defScope sIsNet) := ⟨rfl, rfl, rfl, by decide +kernel, rfl, by decide +kernel, by decide +kernel⟩
theorem all_no {rs : List PyData} {p : PyData → Bool} {i : Nat} {d : PyData} (h : rs[i]? = some d) (hd : p d = false) : rs.all p = false := by
  rw [Bool.eq_false_iff]
  intro z
  have := List.all_eq_true.mp z d (List.mem_of_getElem? h)
  rw [hd] at this; cases this
theorem all_yes {rs : List PyData} {p : PyData → Bool} (h : ∀ (j : Nat) (d : PyData), rs[j]? = some d → p d = true) : rs.all p = true := by
  rw [List.all_eq_true]
  intro d hd
  obtain ⟨j, hj, e⟩ := List.getElem_of_mem hd
  exact h j d (by rw [← e]; exact List.getElem?_eq_getElem hj)

section
variable {P : Program} {w : World} {K : PySem.W.Frag} {mg : Str → Option Value} {base : Heap}
def NetAns (K : PySem.W.Frag) (H : Hp) (v : V) (b : Bool) : Prop := (∃ d, Dp K H v d ∧ (∀ m rs, d = .tuple [m, .tuple rs] → rs.length ≤ 1000) ∧ b = isNetD d) ∨ (∃ T, T ∈ tys ∧ TyX K H v (.type T) ∧ (T == "tuple") = false ∧ b = false)
def spIsNet (K : PySem.W.Frag) (Pn Pr : Addr) : Sp := fun vs H Q _ => ∃ (v : V) (b : Bool), vs = [v] ∧ NetAns K H v b ∧ TabG H Pn ∧ TabG H Pr ∧ ∀ H', K0 H H' → Q (.bl b) H'
theorem ok_isnet {f c Pn Pr fW fR fS : Addr} {fd fdW fdR fdS : FuncData} {t1 : Tok} (F : FunC K "is_net" "is_net" sIsNet f fd c) (TB : TabB base mg c Pn)
    (kW : PySem.W.keepIn K (.ref fW) = true) (bW : Binds K fdW ["thing", "least", "greatest"] []) (gW : mg "is_within" = some (.ref fW)) (GW : FnOk P w K mg base CX0 2 fW fdW ["thing", "least", "greatest"] (spWithin K))
    (kR : PySem.W.keepIn K (.ref fR) = true) (bR : Binds K fdR ["many", "thing"] []) (gR : mg "is_road" = some (.ref fR)) (GR : FnOk P w K mg base CX0 3 fR fdR ["many", "thing"] (spRoad K))
    (kS : PySem.W.keepIn K (.ref fS) = true) (bS : Binds K fdS ["row"] []) (gS : mg "rises" = some (.ref fS)) (GS : FnOk P w K mg base CX0 2 fS fdS ["row"] (spRises K Pr))
    (mi : mg "isinstance" = none) (mT : mg "tuple" = none) (ml : mg "len" = none) (ma : mg "all" = none) (g1 : mg "MOST_PLACES" = some (.int 12 t1)) : FnOk P w K mg base CX0 5 f fd ["thing"] (spIsNet K Pn Pr) := by
  refine F.ok scIsNet (fun vs H Q E h => ?_) (fun A outer s H vs Q E hr h => ?_)
  · obtain ⟨v, b, rfl, _⟩ := h
    rfl
  · obtain ⟨v, b, rfl, hA, hPn, hPr, q⟩ := h
    refine ⟨_, pss_cons (ps_if (pt_not (PW.pt (pw_and (pt_val (pe_callB call_isi (by rfl) mi boot_isinstance (pa_cons (pv 0) (pa_cons (pe_bltn (v := .ty "tuple") (by rfl) mT (by decide +kernel) rfl) pa_nil))))
        (pw_and1 (pt_cmpR op_eq (pe_callB call_len_seq (by rfl) ml PySem.boot_len (pa_cons (pv 0) pa_nil)) pe_int (nomark _)))))) (pss_one (ps_ret pe_bl)) pss_nil)
      (pss_cons (ps_asg (pv 0) (pg_tup rfl (pgs_cons (pg_name (i := 1) scIsNet.nd rfl (.inr rfl)) (pgs_cons (pg_name (i := 2) scIsNet.nd rfl (.inl rfl)) pgs_nil))))
      (pss_cons (ps_if (pt_not (PW.pt (pw_and (pt_val (pe_call GW (hr.mono (by decide)) (by rfl) gW kW bW .nil pass0 (pa_cons (pv 1) (pa_cons pe_int (pa_cons (pe_glob (v := .int 12) (by rfl) g1 ⟨_, rfl⟩) pa_nil)))))
        (pw_and1 (pt_val (pe_callB call_isi (by rfl) mi boot_isinstance (pa_cons (pv 2) (pa_cons (pe_bltn (v := .ty "tuple") (by rfl) mT (by decide +kernel) rfl) pa_nil)))))))) (pss_one (ps_ret pe_bl)) pss_nil)
      (pss_cons (ps_if (pt_not (pt_val (pe_allG (own := [("road", 3)]) (k := 3) (g := gName 3) (tt := tYes) (te := tCall (spRoad K) [] E0 (tCons (tVar 1) (tCons (tVar 3) tNil))) hr (by rfl) ma rfl scIsNet.nd TB rfl (gsc_by (N := ["thing", "many", "roads", "road"]) (sc := defScope sIsNet) (by decide +kernel))
          (pi_tup (pv 2)) (fun A' hr' _ _ _ _ _ _ => pg_name (i := 3) scIsNet.nd rfl (.inl rfl)) (fun A' hr' _ _ _ _ _ _ => pts_nil)
          (fun A' hr' _ _ _ _ _ _ => pe_call GR hr' (by rfl) gR kR bR .nil pass0 (pa_cons (pv 1) (pa_cons (pv 3) pa_nil)))))) (pss_one (ps_ret pe_bl)) pss_nil)
      (pss_one (ps_ret (pe_call GS (hr.mono (by decide)) (by rfl) gS kS bS .nil pass0 (pa_cons (pe_lc (own := [("road", 3)]) (g := gName 3) (tt := tYes) (te := tSl (rSlT K) (tVar 3) tNoPart (tPart (tC (.int 2)))) rfl scIsNet.nd (pi_tup (pv 2))
          (blkOk_by (N := ["thing", "many", "roads", "road"]) (sc := defScope sIsNet) (by decide +kernel)) (fun _ _ _ _ _ => pg_name (i := 3) scIsNet.nd rfl (Or.inl rfl)) (fun _ _ _ _ _ => pts_nil)
          (fun _ _ _ _ _ => pe_slice sl_tup (pv 3) po_none (po_some pe_int))) pa_nil))))))), ?_⟩
    rcases hA with ⟨d, hd, hsz, rfl⟩ | ⟨T, hT, hty, hne, rfl⟩
    · refine ⟨v, rfl, v, .ty "tuple", _, _, _, rfl, .ty "tuple", dp_ty hd, kit_ty (tys_tuple (tyD_mem d)), _, rfl, ite2 (fun e => ?_) (fun e => ?_)⟩
      · obtain ⟨ds, rfl⟩ : ∃ ds, d = .tuple ds := by cases d <;> first | exact ⟨_, rfl⟩ | (simp [tyD] at e)
        obtain ⟨a, xs, rfl, hq, hall⟩ := dp_tup hd
        refine ⟨.ref a, rfl, a, xs, rfl, .inr hq, rfl, _, rfl, ?_⟩
        by_cases h4 : xs.length = 2
        · rw [decide_eq_true (show (V.int (xs.length : Int)) = .int 2 by rw [h4]; rfl)]
          refine iteF ?_
          have h4' : ds.length = 2 := by rw [← dpAll_len hall]; exact h4
          obtain ⟨dm, dr, rfl⟩ : ∃ dm dr, ds = [dm, dr] := by
            match ds, h4' with
            | [a, b], _ => exact ⟨a, b, rfl⟩
          cases hall with
          | cons d1 hall => cases hall with
            | cons d2 hall =>
              cases hall
              rename_i v1 v2
              refine ⟨.ref a, rfl, a, _, rfl, hq, rfl, v1, _, rfl, v2, _, rfl, rfl, ?_⟩
              refine ⟨v1, rfl, v1, dm, 1, 12, rfl, d1, _, rfl, ite2 (fun b1 => ?_) (fun b1 => ?_)⟩
              · obtain ⟨m, rfl, m1, m2⟩ := within_int b1
                obtain rfl := dp_int' d1
                refine ⟨v2, rfl, v2, .ty "tuple", _, _, _, rfl, .ty "tuple", dp_ty d2, kit_ty (tys_tuple (tyD_mem dr)), _, rfl, ?_⟩
                cases hb2 : (tyD dr == "tuple") with
                | false =>
                  refine iteT (qeq (q _ (K0.refl _)) ?_)
                  cases dr <;> first | rfl | (simp [tyD] at hb2)
                | true =>
                  refine iteF ?_
                  obtain ⟨rs, rfl⟩ : ∃ ds, dr = .tuple ds := by cases dr <;> first | exact ⟨_, rfl⟩ | (simp [tyD] at hb2)
                  obtain ⟨r, ys, rfl, hqr, hallr⟩ := dp_tup d2
                  have hm : isNetD (.tuple [.int m, .tuple rs]) = (rs.all (isRoadD m) && risesB (rs.map pairD)) := by
                    show ((decide (1 ≤ m) && decide (m ≤ 12)) && _) = _
                    rw [decide_eq_true m1, decide_eq_true m2, Bool.true_and, Bool.true_and]
                  rw [hm] at q
                  have hlen : ys.length = rs.length := dpAll_len hallr
                  -- all(is_road(many, road) for road in roads)
                  refine ⟨.ref r, rfl, r, rfl, ⟨_, hqr⟩, hPn, fun H2 hT2 => ?_⟩
                  have k2 : K0 H H2 := K0.tbd hPn hT2
                  refine ⟨fun i mm H3 => i + mm = ys.length ∧ K0 H H3 ∧ ∀ (j : Nat) (d : PyData), j < i → rs[j]? = some d → isRoadD m d = true, ⟨ys.length, by omega, k2, fun j _ hj => absurd hj (Nat.not_lt_zero _)⟩, fun i mm H3 hW => ?_⟩
                  obtain ⟨em, k3, hlt⟩ := hW
                  have hY : SqT K H3 r ys := k3.sqT hqr
                  by_cases hi : i < ys.length
                  · have g1 : ys[i]? = some ys[i] := List.getElem?_eq_getElem hi
                    obtain ⟨di, hdi, hDi⟩ := dpAll_get hallr g1
                    refine .inr ⟨⟨_, _, hY, g1⟩, fun H' => K0 H H' ∧ isRoadD m di = true, fun H' hN => ?_, fun x H' hy => ?_⟩
                    · obtain ⟨k', hb'⟩ := hN
                      refine ⟨mm - 1, by omega, by omega, k', fun j d hj hd => ?_⟩
                      by_cases e : j = i
                      · subst e
                        rw [hdi] at hd; cases hd; exact hb'
                      · exact hlt j d (by omega) hd
                    · obtain ⟨rfl, fx⟩ := hy
                      have ex : x = ys[i] := Option.some.inj ((fx _ hY).symm.trans g1)
                      subst ex
                      refine ⟨rfl, tyes ?_⟩
                      refine ⟨.int m, rfl, _, rfl, m, _, di, rfl, K0.dp k3 di _ hDi, _, rfl, ?_⟩
                      cases hb3 : isRoadD m di with
                      | true => exact iteT ⟨k3, rfl⟩
                      | false =>
                        refine iteF ⟨_, rfl, iteT (qeq (q _ k3) ?_)⟩
                        rw [all_no hdi hb3, Bool.false_and]
                  · refine .inl ⟨⟨_, hY, by omega⟩, _, rfl, iteF ?_⟩
                    have hallR : ∀ (j : Nat) (d : PyData), rs[j]? = some d → isRoadD m d = true := fun j d hd => hlt j d (by
                      have := (List.getElem?_eq_some_iff.mp hd).1
                      omega) hd
                    have hat : rs.all (isRoadD m) = true := all_yes hallR
                    rw [hat, Bool.true_and] at q
                    -- rises([road[:2] for road in roads])
                    refine ⟨.ref r, rfl, r, rfl, ⟨_, hY⟩, fun D nD => lc_tup (K := K) (a := r) (xs := ys) (fun i H4 => K0 H3 H4 ∧ ∃ zs, H4 D = some (.lst zs) ∧ TupsAt K H4 zs ((rs.take i).map pairD)) ⟨K0.new nD, [], upd_same, rfl, fun i x e => by simp at e⟩ (fun i H4 _ h => h.1.sqT hY) (fun i x H4 hx h => ?_) (fun H4 h => ?_)⟩
                    · obtain ⟨k4, zs, ez, hz⟩ := h
                      obtain ⟨di, hdi, hDi⟩ := dpAll_get hallr hx
                      obtain ⟨s1, e1, c1, l1, rfl, _⟩ := road_ints (hallR i di hdi)
                      obtain ⟨ar, rfl, hqa⟩ := dp_ints4 (K0.dp (k3.trans k4) _ _ hDi)
                      refine ⟨rfl, tyes ?_⟩
                      refine ⟨.ref ar, rfl, 2, rfl, ar, _, rfl, hqa, fun z => absurd z.2 (by show ¬ (HT.sIx 4 4 (some 2) = 4); decide), fun p np => ?_⟩
                      have kp : K0 H4 (upd H4 p (.tup (cutV [.int s1, .int e1, .int c1, .int l1] none (some 2)))) := K0.new np
                      have ez' := kp.oth D _ ez (fun _ z => by cases z)
                      have hl : zs.length ≤ rs.length := by
                        rw [hz.1, List.length_map, List.length_take]; omega
                      refine ⟨zs, ez', small1000 (Nat.le_trans hl (hsz _ _ rfl)), ?_⟩
                      refine ⟨(k4.trans kp).mut nD, zs ++ [.ref p], upd_same, ?_⟩
                      have : (rs.take (i + 1)).map pairD = (rs.take i).map pairD ++ [[s1, e1]] := by
                        rw [List.take_add_one, hdi, List.map_append]; rfl
                      rw [this]
                      refine TupsAt.snoc ((hz.k0 kp).kt (Kt.set ez')) ?_
                      exact (Kt.set ez').sqT (.inl (.inl upd_same))
                    · obtain ⟨k4, zs, ez, hz⟩ := h
                      rw [hlen, List.take_length] at hz
                      exact ⟨D, zs, _, rfl, .inl (.inl ez), hz, (k3.trans k4).tab _ hPr, fun H5 k5 => q _ ((k3.trans k4).trans k5)⟩
              · simp only [Bool.not_eq_true] at b1
                refine iteT (qeq (q _ (K0.refl _)) ?_)
                unfold isNetD
                split
                · rename_i heq
                  cases heq
                  show (withinD (.int _) 1 12 && _) = false
                  rw [b1, Bool.false_and]
                · rfl
        · rw [decide_eq_false (show ¬ (V.int (xs.length : Int)) = .int 2 from fun z => h4 (by have := V.int.inj z; omega))]
          refine iteT (qeq (q _ (K0.refl _)) ?_)
          have h4' : ds.length ≠ 2 := by rw [← dpAll_len hall]; exact h4
          unfold isNetD
          split
          · rename_i heq
            cases heq
            exact absurd rfl h4'
          · rfl
      · refine iteT (qeq (q _ (K0.refl _)) ?_)
        cases d <;> first | rfl | (exact absurd rfl e)
    · refine ⟨v, rfl, v, .ty "tuple", _, _, _, rfl, .ty "tuple", hty, kit_ty (tys_tuple hT), _, rfl, ?_⟩
      rw [hne]
      exact iteF (iteT (q _ (K0.refl _)))
end
end HK

set_option Elab.async false
set_option linter.all false
set_option maxRecDepth 100000
set_option maxHeartbeats 2000000
namespace HK
open PySem PySem.Spec PyProof.Rows L2 GAl GxR
open Evl (pss_cut)
theorem dpInts {K : PySem.W.Frag} {H : Hp} : ∀ ns : List Int, DpAll K H (ns.map V.int) (ns.map PyData.int)
  | [] => .nil
  | n :: ns => .cons (.int n) (dpInts ns)
/-- the script, at s: written, locked, or a list apart from the tape's at t -/
def Scr (K : PySem.W.Frag) (t : Addr) (H : Hp) (s : Addr) (ns : List Int) : Prop := (H s = some (.lst (ns.map V.int)) ∧ s ≠ t) ∨ (∃ o, H s = some (.frz o (.lst (ns.map V.int)))) ∨
  ∃ (o : Obj) (its : Array Value) (n : Nat), K.lookup s = some o ∧ o.cls = .type "list" ∧ o.dict = none ∧ o.data = .seq its n ∧ its.size ≤ sizeLine ∧ Vals (ns.map V.int) its.toList
theorem Scr.sq {K : PySem.W.Frag} {t : Addr} {H : Hp} {s : Addr} {ns : List Int} (h : Scr K t H s ns) : SqL K H s (ns.map V.int) := by
  rcases h with ⟨h, _⟩ | h | h
  · exact .inl (.inl h)
  · exact .inl (.inr h)
  · exact .inr h
theorem Scr.kt {K : PySem.W.Frag} {t : Addr} {H H' : Hp} {s : Addr} {ns : List Int} (h : Scr K t H s ns) (k : Kt t H H') : Scr K t H' s ns := by
  rcases h with ⟨h, n⟩ | ⟨o, h⟩ | h
  · exact .inl ⟨k.oth _ _ h n (fun _ z => by cases z), n⟩
  · exact .inr (.inl ⟨o, k.frz _ _ _ h⟩)
  · exact .inr (.inr h)
theorem Scr.of {K : PySem.W.Frag} {t : Addr} {H : Hp} {s : Addr} {ns : List Int} {o : HO} (h : SqL K H s (ns.map V.int)) (n : H t = none) : Scr K t (upd H t o) s ns := by
  rcases h with (h | ⟨o', h⟩) | h
  · have z := ne_of_none h n
    exact .inl ⟨by rw [upd_ne z]; exact h, z⟩
  · have z := ne_of_none h n
    exact .inr (.inl ⟨o', by rw [upd_ne z]; exact h⟩)
  · exact .inr (.inr h)
/-- the tape: the script, the next place, what is left of the number -/
def TapeV (H : Hp) (t s : Addr) : Prop := ∃ p v : Int, H t = some (.lst [.ref s, .int p, .int v]) ∧ 0 ≤ p ∧ 0 ≤ v
structure Tape (K : PySem.W.Frag) (H : Hp) (t s : Addr) (ns : List Int) : Prop where
  v : TapeV H t s
  scr : Scr K t H s ns
theorem canLay_ints : ∀ ns : List Int, SeqAt.shaped (.list (ns.map PyData.int)) = true := PySem.W.shaped_ints
theorem eqv_nil (ns : List Int) : PyData.eqv (.list (ns.map PyData.int)) (.list []) = ns.isEmpty := by
  cases ns <;> simp [PyData.eqv, PyData.eqvAll]
section
variable {P : Program} {w : World} {K : PySem.W.Frag} {mg : Str → Option Value} {base : Heap}
def spSpread : Sp := fun vs H Q _ => ∃ cell place : Int, vs = [.int cell, .int place] ∧ 0 ≤ place ∧ ∀ v : Int, 0 ≤ v → Q (.int v) H
theorem mulR {i j : Int} (h : -(2 ^ 64) < j) (h2 : j < 2 ^ 64) : CMul i j := .inr ⟨h, h2⟩
theorem mulL {i j : Int} (h : -(2 ^ 64) < i) (h2 : i < 2 ^ 64) : CMul i j := .inl ⟨h, h2⟩
def spDigit (K : PySem.W.Frag) : Sp := fun vs H Q _ => ∃ (t sc : Addr) (many : Int) (ns : List Int), vs = [.ref t, .int many] ∧ Tape K H t sc ns ∧ 0 < many ∧ many ≤ 100000000000000000000 ∧
  ∀ (d : Int) (H' : Hp), 0 ≤ d → d < many → Kt t H H' → Tape K H' t sc ns → Q (.int d) H'
end
end HK

set_option Elab.async false
set_option linter.all false
set_option maxRecDepth 100000
set_option maxHeartbeats 2000000
namespace HK
open PySem PySem.Spec PyProof.Rows L2 GAl GxR
section
variable {X : Cx}
/-- tuple(xs) of a list: the new object is known -/
theorem call_tuple_fz : CallR X (.type "tuple") (fun xs H Q => ∃ p ys, xs = [.ref p] ∧ SqL X.K H p ys ∧ ∀ l o, H l = none → o.cls = .type "tuple" → o.dict = none → Q (.ref l) (upd H l (.frz o (.tup ys)))) := by
  intro pins s σ H xs us Q I r h
  obtain ⟨p, ys, rfl, hq, q⟩ := h
  obtain ⟨u, rfl, rx⟩ := vals1 r
  cases rx
  obtain ⟨its, r', pl, hz⟩ := I.list hq
  have hlen := r'.length
  refine call_tuple_list pl.isList (fun h' kp => ?_) (by simp only [List.size_toArray] <;> omega)
  have I1 : Inv X pins σ H { s with heap := h' } := I.kept (t' := s.toks) kp
  have hget : (h'.push { cls := .type "tuple", data := .seq its.toArray }).get? h'.objs.size = some { cls := .type "tuple", data := .seq its.toArray } := Heap.get?_push_size _ rfl
  have I2 : Inv X pins σ (upd H h'.objs.size (.frz { cls := .type "tuple", data := .seq its.toArray } (.tup ys))) { s with heap := h'.push { cls := .type "tuple", data := .seq its.toArray } } :=
    I1.laid (t' := s.toks) (fun b o e => Heap.get?_push_of_some _ e) (Nat.le_refl _) (show ObjOk X.prog X.w _ _ _ (.frz _ (.tup ys)) from ⟨hget, hz, its, r', IsTup.new _ _⟩)
  exact ⟨.ref h'.objs.size, _, I2, rfl, q _ _ (I1.hok.fresh (Nat.le_refl _)) rfl rfl⟩
/-- a method of a built-in type, of an object that is known -/
def tBMF (T : String) (r : V → List V → Hp → VK → Prop) (to : TE) (t : TA) : TE := fun σ H Q => to σ H fun x H1 => (∃ a ob u, x = .ref a ∧ H1 a = some (.frz ob u) ∧ ob.cls = .type T ∧ ob.dict = none) ∧ t σ H1 fun xs H2 => r x xs H2 Q
theorem pe_bmF {o e : Expr} {es : List Expr} {to : TE} {t : TA} {name : Str} {apos cpos : Pos} {T id : String} {r : V → List V → Hp → VK → Prop}
    (pa : PlainAttrs T) (slot : Slot T name id) (hty : typeOf (.builtin id) = pure (.type "method_descriptor")) (hm : MtR X id r) (ho : PE X o to) (ha : PA X (e :: es) t)
    (hbase : attributeBase o name X.env (eval o X.env) = eval o X.env := by rfl)
    (hfew : ((backTo cpos (starEach (e :: es) X.env)).all (fun x => !x.1) && (backToKw cpos (keywordEach [] X.env)).all (fun x => x.1.isSome)
      && decide ((e :: es).length + ([] : List Keyword).length + (if ([] : List Keyword).isEmpty then 0 else 1) < 30)) = true := by rfl)
    (hline : (apos.endLine == cpos.line) = true := by rfl) (hs : starEach (e :: es) X.env = (false, eval e X.env) :: starEach es X.env := by rfl) (hplain : (backTo cpos (starEach es X.env)).any (·.1) = false := by rfl) :
    PE X (.Call (.Attribute o name apos) (e :: es) [] cpos) (tBMF T r to t) := by
  refine ⟨fun pins s σ H Q I h => ?_⟩
  refine wpAny_Call_method_late hbase hfew hline rfl (thn (ho.run pins s σ H _ I h) fun v s1 ⟨x, H1, I1, r1, ⟨a, ob, u, ex, hob, hc, hd⟩, q1⟩ => ?_)
  subst ex
  have hget := (show ObjOk X.prog X.w H1 s1.heap a (.frz ob u) from I1.hok a _ hob).1
  have ev : v = .ref a := r1
  refine ⟨T, id, pa, slot, hty, by rw [ev]; exact ⟨ob, hget, hc⟩, fun b e2 => ?_, ?_⟩
  · rw [ev] at e2
    cases e2
    exact ⟨ob, hget, hd⟩
  have hA := ha.run cpos pins s1 σ H1 _ I1 q1
  rw [hs] at hA ⊢
  refine Calls.callWith_builtin (by show (false || (backTo cpos (starEach es X.env)).any (·.1)) = false; rw [hplain] <;> rfl) (Calls.evalArgs_plain ?_)
  exact thn hA fun us s2 ⟨vs, H2, I2, r2, q2⟩ => hm pins s2 σ H2 (.ref a) vs v us Q I2 r1 r2 q2
end
end HK

set_option Elab.async false
set_option linter.all false
set_option maxRecDepth 100000
set_option maxHeartbeats 2000000
namespace HK
open PySem PySem.Spec PyProof.Rows L2 GAl GxR
open Evl (pss_cut)
structure R4 where
  s : Int
  e : Int
  c : Int
  l : Int
def R4.vs (r : R4) : List V := [.int r.s, .int r.e, .int r.c, .int r.l]
def R4.d (r : R4) : PyData := .tuple [.int r.s, .int r.e, .int r.c, .int r.l]
structure RoadOk (n : Int) (r : R4) : Prop where
  s0 : 0 ≤ r.s
  s1 : r.s < n
  e0 : 0 ≤ r.e
  e1 : r.e < n
  ne : r.s ≠ r.e
  c0 : 0 ≤ r.c
  c1 : r.c ≤ 1000
  l0 : 1 ≤ r.l
  l1 : r.l ≤ 1000
def R4.lt (a b : R4) : Prop := a.s < b.s ∨ (a.s = b.s ∧ a.e < b.e)
structure Good (n : Int) (rs : List R4) : Prop where
  n1 : 1 ≤ n
  n2 : n ≤ 12
  ok : ∀ r ∈ rs, RoadOk n r
  up : rs.Pairwise R4.lt
/-- the roads' tuples -/
def Roads (K : PySem.W.Frag) (H : Hp) (xs : List V) (rs : List R4) : Prop := DpAll K H xs (rs.map R4.d)
theorem dp_r4 {K : PySem.W.Frag} {H : Hp} {x : V} {r : R4} (h : Dp K H x r.d) : ∃ a, x = .ref a ∧ SqT K H a r.vs := dp_ints4 h
theorem r4_dp {K : PySem.W.Frag} {H : Hp} {a : Addr} {r : R4} (h : SqT K H a r.vs) : Dp K H (.ref a) r.d := .tup h (.cons (.int _) (.cons (.int _) (.cons (.int _) (.cons (.int _) .nil))))
theorem Kt.roads {K : PySem.W.Frag} {t : Addr} {H H' : Hp} (k : Kt t H H') : ∀ {xs : List V} {rs : List R4}, Roads K H xs rs → Roads K H' xs rs
  | _, [], .nil => .nil
  | _, r :: rs, .cons a b => .cons (by
      obtain ⟨p, rfl, h⟩ := dp_r4 (r := r) a
      exact r4_dp (r := r) (k.sqT h)) (Kt.roads k (rs := rs) b)
theorem dpAll_snoc {K : PySem.W.Frag} {H : Hp} : ∀ {xs : List V} {ds : List PyData} {x : V} {d : PyData}, DpAll K H xs ds → Dp K H x d → DpAll K H (xs ++ [x]) (ds ++ [d])
  | _, _, _, _, .nil, h => .cons h .nil
  | _, _, _, _, .cons a b, h => .cons a (dpAll_snoc b h)
theorem Roads.snoc {K : PySem.W.Frag} {H : Hp} {xs : List V} {rs : List R4} {a : Addr} {r : R4} (h : Roads K H xs rs) (s : SqT K H a r.vs) : Roads K H (xs ++ [.ref a]) (rs ++ [r]) := by
  unfold Roads
  rw [List.map_append]
  exact dpAll_snoc h (r4_dp s)
theorem Roads.len {K : PySem.W.Frag} {H : Hp} {xs : List V} {rs : List R4} (h : Roads K H xs rs) : xs.length = rs.length := by
  have := dpAll_len h
  rw [List.length_map] at this
  exact this
theorem Kt.mut {t : Addr} {H H' : Hp} {p : Addr} {o : HO} (k : Kt t H H') (n : H p = none) : Kt t H (upd H' p o) := ⟨fun b u e => by
  rw [upd_ne (ne_of_none e n)]; exact k.tup b u e, fun b o u e => by
  rw [upd_ne (ne_of_none e n)]; exact k.frz b o u e, fun b u e m m' => by
  rw [upd_ne (ne_of_none e n)]; exact k.oth b u e m m', fun P h => by
  obtain ⟨ps, e, ht⟩ := h
  obtain ⟨ps', e', ht'⟩ := k.tab P ⟨ps, e, ht⟩
  exact ⟨ps', by rw [upd_ne (ne_of_none e n)]; exact e', ht'⟩, fun b e => k.dom b (upd_none e)⟩
theorem Tape.k0 {K : PySem.W.Frag} {H H' : Hp} {t s : Addr} {ns : List Int} (h : Tape K H t s ns) (k : K0 H H') : Tape K H' t s ns := by
  obtain ⟨⟨p, v, e, r⟩, q⟩ := h
  exact ⟨⟨p, v, k.oth t _ e (fun _ z => by cases z), r⟩, q.kt k.kt⟩
theorem Tape.ne {K : PySem.W.Frag} {H : Hp} {t s b : Addr} {ns : List Int} (h : Tape K H t s ns) (n : H b = none) : b ≠ t := fun z => by
  obtain ⟨_, _, e, _⟩ := h.v
  rw [z, e] at n; cases n
/-- a list of the law's own, at b, is written -/
theorem Tape.mut {K : PySem.W.Frag} {H H' : Hp} {t s b : Addr} {ns : List Int} {o : HO} (h : Tape K H' t s ns) (h0 : Scr K t H s ns) (k : Kt t H H') (n : H b = none) (nb : b ≠ t) : Tape K (upd H' b o) t s ns := by
  obtain ⟨⟨p, v, e, r⟩, q⟩ := h
  exact ⟨⟨p, v, by rw [upd_ne nb.symm]; exact e, r⟩, h0.kt (k.mut n)⟩
theorem pick8 {x d : Int} (h0 : 0 ≤ d) (h1 : d < 8) (hx : 0 ≤ x ∧ x ≤ 1000) : ∃ y : Int, atI [V.int 0, .int 1, .int 1, .int 2, .int 3, .int 7, .int 1000, .int x] d = some (.int y) ∧ 0 ≤ y ∧ y ≤ 1000 := by
  obtain ⟨k, rfl⟩ := Int.eq_ofNat_of_zero_le h0
  match k, h1 with
  | 0, _ => exact ⟨0, atI_nat rfl, by omega, by omega⟩
  | 1, _ => exact ⟨1, atI_nat rfl, by omega, by omega⟩
  | 2, _ => exact ⟨1, atI_nat rfl, by omega, by omega⟩
  | 3, _ => exact ⟨2, atI_nat rfl, by omega, by omega⟩
  | 4, _ => exact ⟨3, atI_nat rfl, by omega, by omega⟩
  | 5, _ => exact ⟨7, atI_nat rfl, by omega, by omega⟩
  | 6, _ => exact ⟨1000, atI_nat rfl, by omega, by omega⟩
  | 7, _ => exact ⟨x, atI_nat rfl, hx⟩
  | k + 8, h => exact absurd h (by omega)
theorem pick7 {x d : Int} (h0 : 0 ≤ d) (h1 : d < 7) (hx : 1 ≤ x ∧ x ≤ 1000) : ∃ y : Int, atI [V.int 1, .int 1, .int 2, .int 3, .int 5, .int 1000, .int x] d = some (.int y) ∧ 1 ≤ y ∧ y ≤ 1000 := by
  obtain ⟨k, rfl⟩ := Int.eq_ofNat_of_zero_le h0
  match k, h1 with
  | 0, _ => exact ⟨1, atI_nat rfl, by omega, by omega⟩
  | 1, _ => exact ⟨1, atI_nat rfl, by omega, by omega⟩
  | 2, _ => exact ⟨2, atI_nat rfl, by omega, by omega⟩
  | 3, _ => exact ⟨3, atI_nat rfl, by omega, by omega⟩
  | 4, _ => exact ⟨5, atI_nat rfl, by omega, by omega⟩
  | 5, _ => exact ⟨1000, atI_nat rfl, by omega, by omega⟩
  | 6, _ => exact ⟨x, atI_nat rfl, hx⟩
  | k + 7, h => exact absurd h (by omega)

section
variable {P : Program} {w : World} {K : PySem.W.Frag} {mg : Str → Option Value} {base : Heap}
/-- what the law's net is -/
def NetAt (K : PySem.W.Frag) (H : Hp) (a : Addr) (n : Int) (rs : List R4) : Prop := ∃ (r : Addr) (xs : List V) (_ : Unit), SqT K H a [.int n, .ref r] ∧ SqT K H r xs ∧ True ∧ True ∧ Roads K H xs rs
theorem NetAt.kt {t : Addr} {H H' : Hp} {a : Addr} {n : Int} {rs : List R4} (h : NetAt K H a n rs) (k : Kt t H H') : NetAt K H' a n rs := by
  obtain ⟨r, xs, o, h1, h2, hc, hd, h3⟩ := h
  exact ⟨r, xs, o, k.sqT h1, k.sqT h2, hc, hd, k.roads h3⟩
def spNet (K : PySem.W.Frag) : Sp := fun vs H Q _ => ∃ (t sc : Addr) (most : Int) (ns : List Int), vs = [.ref t, .int most] ∧ Tape K H t sc ns ∧ 1 ≤ most ∧ most ≤ 12 ∧
  ∀ (a : Addr) (n : Int) (rs : List R4) (H' : Hp), Kt t H H' → Tape K H' t sc ns → NetAt K H' a n rs → n ≤ most → Good n rs → rs.length ≤ 156 → Q (.ref a) H'
/-- between the turns -/
structure NI (K : PySem.W.Frag) (H : Hp) (t sc ra : Addr) (ns : List Int) (n : Int) (i j : Nat) (H3 : Hp) : Prop where
  kt : Kt t H H3
  tp : Tape K H3 t sc ns
  ex : ∃ xs rs, H3 ra = some (.lst xs) ∧ Roads K H3 xs rs ∧ Good n rs ∧ (∀ r ∈ rs, r.s < i ∨ (r.s = i ∧ r.e < j)) ∧ rs.length ≤ 12 * i + j
end
end HK

set_option Elab.async false
set_option linter.all false
set_option maxRecDepth 100000
set_option maxHeartbeats 2000000
namespace HK
open PySem PySem.Spec PyProof.Rows L2 GAl GxR
mutual
/-- data whose lists are tracked, apart from the tape -/
inductive Dq (K : PySem.W.Frag) (T : Addr → Prop) (H : Hp) : V → PyData → Prop
  | non : Dq K T H .non .none
  | bl (b : Bool) : Dq K T H (.bl b) (.bool b)
  | int (i : Int) : Dq K T H (.int i) (.int i)
  | str (x : Str) : Dq K T H (.str x) (.str x)
  | lst {a : Addr} {xs : List V} {ds : List PyData} : H a = some (.lst xs) → ¬ T a → DqAll K T H xs ds → Dq K T H (.ref a) (.list ds)
  | tup {a : Addr} {xs : List V} {ds : List PyData} : SqT K H a xs → DqAll K T H xs ds → Dq K T H (.ref a) (.tuple ds)
inductive DqAll (K : PySem.W.Frag) (T : Addr → Prop) (H : Hp) : List V → List PyData → Prop
  | nil : DqAll K T H [] []
  | cons {v : V} {vs : List V} {d : PyData} {ds : List PyData} : Dq K T H v d → DqAll K T H vs ds → DqAll K T H (v :: vs) (d :: ds)
end
mutual
theorem Dq.dp {K : PySem.W.Frag} {T : Addr → Prop} {H : Hp} : ∀ (d : PyData) (v : V), Dq K T H v d → Dp K H v d
  | .none, _, h => by cases h; exact .non
  | .bool _, _, h => by cases h; exact .bl _
  | .int _, _, h => by cases h; exact .int _
  | .str _, _, h => by cases h; exact .str _
  | .list ds, _, h => by cases h with | lst a _ b => exact .lst (.inl (.inl a)) (DqAll.dp ds _ b)
  | .tuple ds, _, h => by cases h with | tup a b => exact .tup a (DqAll.dp ds _ b)
  | .dict _, _, h => by cases h
theorem DqAll.dp {K : PySem.W.Frag} {T : Addr → Prop} {H : Hp} : ∀ (ds : List PyData) (vs : List V), DqAll K T H vs ds → DpAll K H vs ds
  | [], _, h => by cases h; exact .nil
  | d :: ds, _, h => by cases h with | cons a b => exact .cons (Dq.dp d _ a) (DqAll.dp ds _ b)
end
mutual
theorem Dq.kt {K : PySem.W.Frag} {T : Addr → Prop} {t : Addr} {H H' : Hp} (hT : T t) (k : Kt t H H') : ∀ (d : PyData) (v : V), Dq K T H v d → Dq K T H' v d
  | .none, _, h => by cases h; exact .non
  | .bool _, _, h => by cases h; exact .bl _
  | .int _, _, h => by cases h; exact .int _
  | .str _, _, h => by cases h; exact .str _
  | .list ds, _, h => by cases h with | lst a n b => exact .lst (k.oth _ _ a (fun z => n (z ▸ hT)) (fun _ z => by cases z)) n (DqAll.kt hT k ds _ b)
  | .tuple ds, _, h => by cases h with | tup a b => exact .tup (k.sqT a) (DqAll.kt hT k ds _ b)
  | .dict _, _, h => by cases h
theorem DqAll.kt {K : PySem.W.Frag} {T : Addr → Prop} {t : Addr} {H H' : Hp} (hT : T t) (k : Kt t H H') : ∀ (ds : List PyData) (vs : List V), DqAll K T H vs ds → DqAll K T H' vs ds
  | [], _, h => by cases h; exact .nil
  | d :: ds, _, h => by cases h with | cons a b => exact .cons (Dq.kt hT k d _ a) (DqAll.kt hT k ds _ b)
end
theorem DqAll.len {K : PySem.W.Frag} {T : Addr → Prop} {H : Hp} : ∀ {vs : List V} {ds : List PyData}, DqAll K T H vs ds → vs.length = ds.length
  | _, _, .nil => rfl
  | _, _, .cons _ b => by rw [List.length_cons, List.length_cons, b.len]
theorem DqAll.app {K : PySem.W.Frag} {T : Addr → Prop} {H : Hp} : ∀ {vs ws : List V} {ds es : List PyData}, DqAll K T H vs ds → DqAll K T H ws es → DqAll K T H (vs ++ ws) (ds ++ es)
  | _, _, _, _, .nil, h => h
  | _, _, _, _, .cons a b, h => .cons a (b.app h)
theorem DqAll.take {K : PySem.W.Frag} {T : Addr → Prop} {H : Hp} : ∀ {vs : List V} {ds : List PyData} (k : Nat), DqAll K T H vs ds → DqAll K T H (vs.take k) (ds.take k)
  | _, _, 0, _ => .nil
  | _, _, _ + 1, .nil => .nil
  | _, _, k + 1, .cons a b => .cons a (b.take k)
theorem DqAll.drop {K : PySem.W.Frag} {T : Addr → Prop} {H : Hp} : ∀ {vs : List V} {ds : List PyData} (k : Nat), DqAll K T H vs ds → DqAll K T H (vs.drop k) (ds.drop k)
  | _, _, 0, h => h
  | _, _, _ + 1, .nil => .nil
  | _, _, k + 1, .cons _ b => b.drop k
theorem DqAll.get {K : PySem.W.Frag} {T : Addr → Prop} {H : Hp} : ∀ {vs : List V} {ds : List PyData} {i : Nat} {x : V}, DqAll K T H vs ds → vs[i]? = some x → ∃ d, ds[i]? = some d ∧ Dq K T H x d
  | _, _, _, _, .nil, e => by simp at e
  | _, _, 0, _, .cons h _, e => by simp at e; subst e; exact ⟨_, rfl, h⟩
  | _, _, i + 1, x, .cons _ b, e => by
    obtain ⟨d, h1, h2⟩ := DqAll.get (i := i) (x := x) b (by simpa using e)
    exact ⟨d, by simpa using h1, h2⟩
theorem DqAll.rev {K : PySem.W.Frag} {T : Addr → Prop} {H : Hp} : ∀ {vs : List V} {ds : List PyData}, DqAll K T H vs ds → DqAll K T H vs.reverse ds.reverse
  | _, _, .nil => .nil
  | _, _, .cons a b => by
    rw [List.reverse_cons, List.reverse_cons]
    exact b.rev.app (.cons a .nil)
theorem roads_dq {K : PySem.W.Frag} {T : Addr → Prop} {H : Hp} : ∀ {xs : List V} {rs : List R4}, Roads K H xs rs → DqAll K T H xs (rs.map R4.d)
  | _, [], .nil => .nil
  | _, r :: rs, .cons a b => .cons (by
      obtain ⟨p, rfl, h⟩ := dp_r4 (r := r) a
      exact .tup h (.cons (.int _) (.cons (.int _) (.cons (.int _) (.cons (.int _) .nil))))) (roads_dq (rs := rs) b)

/-- what stays, the tape a tape -/
structure Kp (K : PySem.W.Frag) (t sc : Addr) (ns : List Int) (H H' : Hp) : Prop where
  kt : Kt t H H'
  tp : Tape K H t sc ns → Tape K H' t sc ns
theorem Kp.refl {K : PySem.W.Frag} {t sc : Addr} {ns : List Int} (H : Hp) : Kp K t sc ns H H := ⟨Kt.refl _ _, fun h => h⟩
theorem Kp.trans {K : PySem.W.Frag} {t sc : Addr} {ns : List Int} {H H1 H2 : Hp} (a : Kp K t sc ns H H1) (b : Kp K t sc ns H1 H2) : Kp K t sc ns H H2 := ⟨a.kt.trans b.kt, fun h => b.tp (a.tp h)⟩
theorem K0.kp {K : PySem.W.Frag} {t sc : Addr} {ns : List Int} {H H' : Hp} (k : K0 H H') : Kp K t sc ns H H' := ⟨k.kt, fun h => h.k0 k⟩

section
variable {K : PySem.W.Frag} {T : Addr → Prop} {t sc : Addr} {ns : List Int} {H0 : Hp} {σ : L2.St}
/-- an expression makes data of which P holds -/
def Mk (K : PySem.W.Frag) (T : Addr → Prop) (t sc : Addr) (ns : List Int) (H0 : Hp) (σ : L2.St) (te : TE) (P : PyData → Prop) : Prop := T t → (∀ b, T b → H0 b ≠ none) → ∀ H, Kp K t sc ns H0 H → ∀ Q : VK, (∀ v H' d, Kp K t sc ns H H' → P d → Dq K T H' v d → Q v H') → te σ H Q
def MkL (K : PySem.W.Frag) (T : Addr → Prop) (t sc : Addr) (ns : List Int) (H0 : Hp) (σ : L2.St) (ta : TA) (P : List PyData → Prop) : Prop := T t → (∀ b, T b → H0 b ≠ none) → ∀ H, Kp K t sc ns H0 H → ∀ Q : List V → Hp → Prop, (∀ vs H' ds, Kp K t sc ns H H' → P ds → DqAll K T H' vs ds → Q vs H') → ta σ H Q
def MkI (K : PySem.W.Frag) (T : Addr → Prop) (t sc : Addr) (ns : List Int) (H0 : Hp) (σ : L2.St) (te : TE) (i : Int) : Prop := Mk K T t sc ns H0 σ te (· = .int i)
theorem Mk.imp {te : TE} {P P' : PyData → Prop} (h : Mk K T t sc ns H0 σ te P) (i : ∀ d, P d → P' d) : Mk K T t sc ns H0 σ te P' := fun hTt hdm H k Q q => h hTt hdm H k Q fun v H' d k' p dq => q v H' d k' (i d p) dq
theorem mk_int {i : Int} : Mk K T t sc ns H0 σ (tC (.int i)) (· = .int i) := fun _ _ H _ _ q => q _ H _ (Kp.refl H) rfl (.int i)
theorem mk_bl {b : Bool} : Mk K T t sc ns H0 σ (tC (.bl b)) (· = .bool b) := fun _ _ H _ _ q => q _ H _ (Kp.refl H) rfl (.bl b)
theorem mk_non : Mk K T t sc ns H0 σ (tC .non) (· = .none) := fun _ _ H _ _ q => q _ H _ (Kp.refl H) rfl .non
theorem mk_str {x : Str} : Mk K T t sc ns H0 σ (tC (.str x)) (· = .str x) := fun _ _ H _ _ q => q _ H _ (Kp.refl H) rfl (.str x)
theorem mk_var {i : Nat} {v : V} {d : PyData} (e : σ[i]? = some (some v)) (h : Dq K T H0 v d) : Mk K T t sc ns H0 σ (tVar i) (· = d) := fun hTt hdm H k _ q => ⟨v, e, q v H d (Kp.refl H) rfl (Dq.kt hTt k.kt d v h)⟩
theorem mk_add {ta tb : TE} {i j : Int} (ha : Mk K T t sc ns H0 σ ta (· = .int i)) (hb : Mk K T t sc ns H0 σ tb (· = .int j)) : Mk K T t sc ns H0 σ (tOp (rI0 fun i j => .int (i + j)) ta tb) (· = .int (i + j)) := fun hTt hdm H k Q q => ha hTt hdm H k _ fun v H1 d k1 e dq => by
  subst e; cases dq
  exact hb hTt hdm H1 (k.trans k1) _ fun v H2 d k2 e dq => by
    subst e; cases dq
    exact ⟨i, j, rfl, rfl, q _ H2 _ (k1.trans k2) rfl (.int _)⟩
theorem mk_sub {ta tb : TE} {i j : Int} (ha : Mk K T t sc ns H0 σ ta (· = .int i)) (hb : Mk K T t sc ns H0 σ tb (· = .int j)) : Mk K T t sc ns H0 σ (tOp (rI0 fun i j => .int (i - j)) ta tb) (· = .int (i - j)) := fun hTt hdm H k Q q => ha hTt hdm H k _ fun v H1 d k1 e dq => by
  subst e; cases dq
  exact hb hTt hdm H1 (k.trans k1) _ fun v H2 d k2 e dq => by
    subst e; cases dq
    exact ⟨i, j, rfl, rfl, q _ H2 _ (k1.trans k2) rfl (.int _)⟩
theorem mk_neg {ta : TE} {i : Int} (ha : Mk K T t sc ns H0 σ ta (· = .int i)) : Mk K T t sc ns H0 σ (tUn (rU fun i => .int (-i)) ta) (· = .int (-i)) := fun hTt hdm H k Q q => ha hTt hdm H k _ fun v H1 d k1 e dq => by
  subst e; cases dq
  exact ⟨i, rfl, q _ H1 _ k1 rfl (.int _)⟩
theorem mkl_nil : MkL K T t sc ns H0 σ tNil (· = []) := fun _ _ H _ _ q => q [] H [] (Kp.refl H) rfl .nil
theorem mkl_cons {te : TE} {ta : TA} {d : PyData} {ds : List PyData} (h : Mk K T t sc ns H0 σ te (· = d)) (hr : MkL K T t sc ns H0 σ ta (· = ds)) : MkL K T t sc ns H0 σ (tCons te ta) (· = d :: ds) := fun hTt hdm H k Q q => h hTt hdm H k _ fun v H1 d1 k1 e dq => hr hTt hdm H1 (k.trans k1) _ fun vs H2 es k2 e2 dqs => by
  subst e e2
  exact q _ H2 _ (k1.trans k2) rfl (.cons (Dq.kt hTt k2.kt _ _ dq) dqs)
theorem mkl_consP {te : TE} {ta : TA} {P : PyData → Prop} {ds : List PyData} (h : Mk K T t sc ns H0 σ te P) (hr : MkL K T t sc ns H0 σ ta (· = ds)) : MkL K T t sc ns H0 σ (tCons te ta) (fun l => ∃ d, P d ∧ l = d :: ds) := fun hTt hdm H k Q q => h hTt hdm H k _ fun v H1 d1 k1 e dq => hr hTt hdm H1 (k.trans k1) _ fun vs H2 es k2 e2 dqs => by
  subst e2
  exact q _ H2 _ (k1.trans k2) ⟨d1, e, rfl⟩ (.cons (Dq.kt hTt k2.kt _ _ dq) dqs)
theorem mk_tup {ta : TA} {P : List PyData → Prop} (h : MkL K T t sc ns H0 σ ta P) (hl : ∀ ds, P ds → ds.length ≤ 1000) : Mk K T t sc ns H0 σ (tTup ta) (fun d => ∃ ds, P ds ∧ d = .tuple ds) := fun hTt hdm H k Q q => h hTt hdm H k _ fun vs H1 ds k1 p dqs => by
  refine ⟨by rw [dqs.len]; exact Nat.le_of_lt (small1000 (hl ds p)), fun a na => ?_⟩
  have kn : K0 H1 (upd H1 a (.tup vs)) := K0.new na
  exact q _ _ _ (k1.trans kn.kp) ⟨ds, p, rfl⟩ (.tup (.inl (.inl upd_same)) (DqAll.kt hTt kn.kt _ _ dqs))
theorem mk_tupE {ta : TA} {ds : List PyData} (h : MkL K T t sc ns H0 σ ta (· = ds)) (hl : ds.length ≤ 1000 := by decide) : Mk K T t sc ns H0 σ (tTup ta) (· = .tuple ds) := (mk_tup h fun es e => by rw [e]; exact hl).imp fun d ⟨es, e, e2⟩ => by rw [e2, e]
theorem mk_lst {ta : TA} {P : List PyData → Prop} (h : MkL K T t sc ns H0 σ ta P) (hl : ∀ ds, P ds → ds.length ≤ 1000) : Mk K T t sc ns H0 σ (tLst ta) (fun d => ∃ ds, P ds ∧ d = .list ds) := fun hTt hdm H k Q q => h hTt hdm H k _ fun vs H1 ds k1 p dqs => by
  refine ⟨by rw [dqs.len]; exact Nat.le_of_lt (small1000 (hl ds p)), fun a na => ?_⟩
  have kn : K0 H1 (upd H1 a (.lst vs)) := K0.new na
  exact q _ _ _ (k1.trans kn.kp) ⟨ds, p, rfl⟩ (.lst upd_same (fun z => hdm _ z ((k.trans k1).kt.dom _ na)) (DqAll.kt hTt kn.kt _ _ dqs))
theorem mk_lstE {ta : TA} {ds : List PyData} (h : MkL K T t sc ns H0 σ ta (· = ds)) (hl : ds.length ≤ 1000 := by decide) : Mk K T t sc ns H0 σ (tLst ta) (· = .list ds) := (mk_lst h fun es e => by rw [e]; exact hl).imp fun d ⟨es, e, e2⟩ => by rw [e2, e]
/-- xs + ys, two lists -/
theorem mk_catL {ta tb : TE} {ds es : List PyData} (ha : Mk K T t sc ns H0 σ ta (· = .list ds)) (hb : Mk K T t sc ns H0 σ tb (· = .list es)) (hl : ds.length + es.length ≤ 1000 := by decide) : Mk K T t sc ns H0 σ (tOp rCat ta tb) (· = .list (ds ++ es)) := fun hTt hdm H k Q q => ha hTt hdm H k _ fun v H1 d k1 e dq => by
  subst e
  exact hb hTt hdm H1 (k.trans k1) _ fun v2 H2 d k2 e dq2 => by
    subst e
    have dq' := Dq.kt hTt k2.kt _ _ dq
    cases dq' with
    | @lst a xs _ h1 n1 a1 => cases dq2 with
      | @lst b ys _ h2 n2 a2 =>
        refine ⟨_, _, _, _, rfl, rfl, h1, h2, ?_, fun p np => ?_⟩
        · rw [a1.len, a2.len]; exact Nat.le_of_lt (small1000 hl)
        · have kn : K0 H2 (upd H2 p (.lst (xs ++ ys))) := K0.new np
          exact q _ _ _ ((k1.trans k2).trans kn.kp) rfl (.lst upd_same (fun z => hdm _ z (((k.trans k1).trans k2).kt.dom _ np)) (DqAll.kt hTt kn.kt _ _ (a1.app a2)))
/-- t + u, two tuples -/
theorem mk_catT {ta tb : TE} {P1 P2 : List PyData → Prop} (ha : Mk K T t sc ns H0 σ ta (fun d => ∃ ds, P1 ds ∧ d = .tuple ds)) (hb : Mk K T t sc ns H0 σ tb (fun d => ∃ ds, P2 ds ∧ d = .tuple ds)) (hl : ∀ ds es, P1 ds → P2 es → ds.length + es.length ≤ 1000) :
    Mk K T t sc ns H0 σ (tOp (rCatA K) ta tb) (fun d => ∃ ds, (∃ d1 d2, P1 d1 ∧ P2 d2 ∧ ds = d1 ++ d2) ∧ d = .tuple ds) := fun hTt hdm H k Q q => ha hTt hdm H k _ fun v H1 d k1 e dq => by
  obtain ⟨ds, p1, rfl⟩ := e
  exact hb hTt hdm H1 (k.trans k1) _ fun v2 H2 d k2 e dq2 => by
    obtain ⟨es, p2, rfl⟩ := e
    have dq' := Dq.kt hTt k2.kt _ _ dq
    cases dq' with
    | @tup a xs _ h1 a1 => cases dq2 with
      | @tup b ys _ h2 a2 =>
        refine ⟨_, _, _, _, rfl, rfl, h1, h2, ?_, fun e => ?_, fun e1 e2 => ?_, fun _ _ p np => ?_⟩
        · rw [a1.len, a2.len]; exact Nat.le_of_lt (small1000 (hl _ _ p1 p2))
        · subst e
          cases a1
          exact q _ _ _ (k1.trans k2) ⟨es, ⟨[], es, p1, p2, rfl⟩, rfl⟩ (.tup h2 a2)
        · subst e2
          cases a2
          exact q _ _ _ (k1.trans k2) ⟨ds, ⟨ds, [], p1, p2, by simp⟩, rfl⟩ (.tup h1 a1)
        · have kn : K0 H2 (upd H2 p (.tup (xs ++ ys))) := K0.new np
          exact q _ _ _ ((k1.trans k2).trans kn.kp) ⟨_, ⟨ds, es, p1, p2, rfl⟩, rfl⟩ (.tup (.inl (.inl upd_same)) (DqAll.kt hTt kn.kt _ _ (a1.app a2)))
def cutD (ds : List PyData) (lo hi : Option Int) : List PyData := (ds.drop (HT.sIx ds.length 0 lo)).take (HT.sIx ds.length ds.length hi - HT.sIx ds.length 0 lo)
def MkO (K : PySem.W.Frag) (T : Addr → Prop) (t sc : Addr) (ns : List Int) (H0 : Hp) (σ : L2.St) (to : TO) (o : Option Int) : Prop := T t → (∀ b, T b → H0 b ≠ none) → ∀ H, Kp K t sc ns H0 H → ∀ Q : Option Int → Hp → Prop, (∀ H', Kp K t sc ns H H' → Q o H') → to σ H Q
theorem mko_none : MkO K T t sc ns H0 σ tNoPart none := fun _ _ H _ _ q => q H (Kp.refl H)
theorem mko_some {te : TE} {i : Int} (h : Mk K T t sc ns H0 σ te (· = .int i)) : MkO K T t sc ns H0 σ (tPart te) (some i) := fun hTt hdm H k _ q => h hTt hdm H k _ fun v H1 d k1 e dq => by
  subst e; cases dq
  exact ⟨i, rfl, q H1 k1⟩
theorem mk_sl {te : TE} {tl th : TO} {lo hi : Option Int} {ds : List PyData} (h : Mk K T t sc ns H0 σ te (· = .tuple ds)) (h1 : MkO K T t sc ns H0 σ tl lo) (h2 : MkO K T t sc ns H0 σ th hi) : Mk K T t sc ns H0 σ (tSl (rSlA K) te tl th) (· = .tuple (cutD ds lo hi)) := fun hTt hdm H k Q q => h hTt hdm H k _ fun v H1 d k1 e dq => by
  subst e
  exact h1 hTt hdm H1 (k.trans k1) _ fun H2 k2 => h2 hTt hdm H2 ((k.trans k1).trans k2) _ fun H3 k3 => by
    have dq' := Dq.kt hTt (k2.trans k3).kt _ _ dq
    cases dq' with
    | @tup a xs _ hq hall =>
      refine ⟨_, _, rfl, hq, fun hw => ?_, fun hw p np => ?_⟩
      · have : cutD ds lo hi = ds := by
          unfold cutD
          rw [← hall.len, hw.1, hw.2, List.drop_zero, Nat.sub_zero]
          exact List.take_of_length_le (by rw [hall.len]; exact Nat.le_refl _)
        rw [this] at q
        exact q _ H3 _ ((k1.trans k2).trans k3) rfl (.tup hq hall)
      · have kn : K0 H3 (upd H3 p (.tup (cutV xs lo hi))) := K0.new np
        refine q _ _ _ (((k1.trans k2).trans k3).trans kn.kp) rfl (.tup (.inl (.inl upd_same)) (DqAll.kt hTt kn.kt _ _ ?_))
        unfold cutV cutD
        rw [hall.len]
        exact (hall.drop _).take _
/-- t[i], a tuple at a written place -/
theorem mk_ixT {te ti : TE} {ds : List PyData} {j : Nat} {d : PyData} (h : Mk K T t sc ns H0 σ te (· = .tuple ds)) (hi : Mk K T t sc ns H0 σ ti (· = .int j)) (hd : ds[j]? = some d) : Mk K T t sc ns H0 σ (tOp (rIxT K) te ti) (· = d) := fun hTt hdm H k Q q => h hTt hdm H k _ fun v H1 d1 k1 e dq => by
  subst e
  exact hi hTt hdm H1 (k.trans k1) _ fun v2 H2 d2 k2 e dq2 => by
    subst e; cases dq2
    have dq' := Dq.kt hTt k2.kt _ _ dq
    cases dq' with
    | @tup a xs _ hq hall =>
      have hl : j < xs.length := by rw [hall.len]; exact (List.getElem?_eq_some_iff.mp hd).1
      obtain ⟨d', e1, e2⟩ := hall.get (List.getElem?_eq_getElem hl)
      rw [hd] at e1; cases e1
      exact ⟨_, _, _, _, rfl, rfl, hq, atI_nat (List.getElem?_eq_getElem hl), q _ H2 _ (k1.trans k2) rfl e2⟩
end
end HK

set_option Elab.async false
set_option linter.all false
set_option maxRecDepth 100000
set_option maxHeartbeats 2000000
namespace HK
open PySem PySem.Spec PyProof.Rows L2 GAl GxR
open Evl (pss_cut)
section
variable {P : Program} {w : World} {K : PySem.W.Frag} {mg : Str → Option Value} {base : Heap}
def spSome (K : PySem.W.Frag) : Sp := fun vs H Q _ => ∃ (t sc r : Addr) (ns : List Int) (xs : List V), vs = [.ref t, .ref r] ∧ Tape K H t sc ns ∧ (SqT K H r xs ∨ (H r = some (.lst xs) ∧ r ≠ t)) ∧ 0 < xs.length ∧ xs.length ≤ 100000 ∧
  ∀ (j : Nat) (x : V) (H' : Hp), xs[j]? = some x → Kp K t sc ns H H' → Q x H'
end
end HK

set_option Elab.async false
set_option linter.all false
set_option maxHeartbeats 2000000
namespace HK
/-! ### the mathematics: going through the roads as often as there are places -/
abbrev IF := Int → Option Int
def put (f : IF) (i x : Int) : IF := fun j => if j = i then some x else f j
def Le (g f : IF) : Prop := ∀ v a, f v = some a → ∃ b, g v = some b ∧ b ≤ a
theorem Le.refl (f : IF) : Le f f := fun v a h => ⟨a, h, Int.le_refl _⟩
theorem Le.trans {f g h : IF} (a : Le f g) (b : Le g h) : Le f h := fun v x e => by
  obtain ⟨y, e1, l1⟩ := b v x e
  obtain ⟨z, e2, l2⟩ := a v y e1
  exact ⟨z, e2, by omega⟩
def rlx (src g : IF) (r : R4) : IF := match src r.s with
  | none => g
  | some a => match g r.e with
    | none => put g r.e (a + r.l)
    | some b => if a + r.l < b then put g r.e (a + r.l) else g
structure IInv (n : Int) (rs : List R4) (root : Int) (f : IF) : Prop where
  rt0 : f root = some 0
  rng : ∀ v a, f v = some a → 0 ≤ v ∧ v < n ∧ 0 ≤ a
  wt : ∀ v b, f v = some b → v = root ∨ ∃ r ∈ rs, r.e = v ∧ ∃ a, f r.s = some a ∧ a + r.l ≤ b
def Closed (rs : List R4) (f : IF) : Prop := ∀ r ∈ rs, ∀ a, f r.s = some a → ∃ b, f r.e = some b ∧ b ≤ a + r.l
section
variable {n root : Int} {rs : List R4}
theorem put_inv {g : IF} {r : R4} {x a' : Int} (I : IInv n rs root g) (hr : RoadOk n r) (hm : r ∈ rs) (ha : g r.s = some a') (hx : a' + r.l ≤ x) (hlt : ∀ b, g r.e = some b → x < b) : IInv n rs root (put g r.e x) ∧ Le (put g r.e x) g := by
  have h0 := (I.rng _ _ ha).2.2
  have hl := hr.l0
  have ne : r.e ≠ root := fun z => by
    have := hlt 0 (by rw [z]; exact I.rt0)
    omega
  have le : Le (put g r.e x) g := fun v b e => by
    by_cases hv : v = r.e
    · subst hv
      exact ⟨x, if_pos rfl, Int.le_of_lt (hlt b e)⟩
    · exact ⟨b, by unfold put; rw [if_neg hv]; exact e, Int.le_refl _⟩
  refine ⟨⟨?_, fun v b e => ?_, fun v b e => ?_⟩, le⟩
  · unfold put; rw [if_neg (fun z => ne z.symm)]; exact I.rt0
  · unfold put at e
    by_cases hv : v = r.e
    · rw [if_pos hv] at e
      cases e
      rw [hv]
      exact ⟨hr.e0, hr.e1, by omega⟩
    · rw [if_neg hv] at e
      exact I.rng v b e
  · by_cases hv : v = r.e
    · unfold put at e
      rw [if_pos hv] at e
      cases e
      exact .inr ⟨r, hm, hv.symm, a', by unfold put; rw [if_neg hr.ne]; exact ha, hx⟩
    · unfold put at e
      rw [if_neg hv] at e
      rcases I.wt v b e with h | ⟨r', h1, h2, a, h3, h4⟩
      · exact .inl h
      · obtain ⟨a2, h5, h6⟩ := le _ _ h3
        exact .inr ⟨r', h1, h2, a2, h5, by omega⟩
theorem rlx_inv {src g : IF} {r : R4} (I : IInv n rs root g) (hr : RoadOk n r) (hm : r ∈ rs) (hs : Le g src) :
    IInv n rs root (rlx src g r) ∧ Le (rlx src g r) g ∧ ∀ a, src r.s = some a → ∃ b, rlx src g r r.e = some b ∧ b ≤ a + r.l := by
  unfold rlx
  cases e : src r.s with
  | none => exact ⟨I, .refl _, fun a z => by cases z⟩
  | some a =>
    obtain ⟨a', e1, l1⟩ := hs _ _ e
    cases e2 : g r.e with
    | none =>
      obtain ⟨h1, h2⟩ := put_inv (x := a + r.l) I hr hm e1 (by omega) (fun b z => by rw [e2] at z; cases z)
      exact ⟨h1, h2, fun a2 z => by cases z; exact ⟨_, if_pos rfl, Int.le_refl _⟩⟩
    | some b =>
      by_cases hb : a + r.l < b
      · simp only [hb, if_true]
        obtain ⟨h1, h2⟩ := put_inv (x := a + r.l) I hr hm e1 (by omega) (fun b' z => by rw [e2] at z; cases z; exact hb)
        exact ⟨h1, h2, fun a2 z => by cases z; exact ⟨_, if_pos rfl, Int.le_refl _⟩⟩
      · simp only [hb, if_false]
        exact ⟨I, .refl _, fun a2 z => by cases z; exact ⟨b, e2, by omega⟩⟩
def rnd (S : IF → IF) (l : List R4) (g : IF) : IF := l.foldl (fun g r => rlx (S g) g r) g
theorem rnd_inv {S : IF → IF} {f : IF} (hS : ∀ g, Le g f → Le g (S g) ∧ Le (S g) f) : ∀ (l : List R4) (g : IF), (∀ r ∈ l, r ∈ rs ∧ RoadOk n r) → IInv n rs root g → Le g f →
    IInv n rs root (rnd S l g) ∧ Le (rnd S l g) g ∧ ∀ r ∈ l, ∀ a, f r.s = some a → ∃ b, rnd S l g r.e = some b ∧ b ≤ a + r.l
  | [], g, _, I, _ => ⟨I, .refl _, fun r h => by cases h⟩
  | r :: l, g, hl, I, hf => by
    obtain ⟨s1, s2⟩ := hS g hf
    obtain ⟨i1, i2, i3⟩ := rlx_inv I (hl r (List.mem_cons_self ..)).2 (hl r (List.mem_cons_self ..)).1 s1
    obtain ⟨j1, j2, j3⟩ := rnd_inv hS l (rlx (S g) g r) (fun q h => hl q (List.mem_cons_of_mem _ h)) i1 (i2.trans hf)
    refine ⟨j1, j2.trans i2, fun q hq a ha => ?_⟩
    rcases List.mem_cons.mp hq with rfl | hq
    · obtain ⟨a', e, le⟩ := s2 _ _ ha
      obtain ⟨b, e2, le2⟩ := i3 a' e
      obtain ⟨c, e3, le3⟩ := j2 _ _ e2
      exact ⟨c, e3, by omega⟩
    · exact j3 q hq a ha
def iter (F : IF → IF) : Nat → IF → IF
  | 0, f => f
  | k + 1, f => F (iter F k f)
theorem half {D f : IF} (hok : ∀ r ∈ rs, RoadOk n r) (c : Closed rs D) (d0 : D root = some 0) (I : IInv n rs root f) : Le D f := by
  have key : ∀ (N : Nat) (v b : Int), f v = some b → b.toNat < N → ∃ c, D v = some c ∧ c ≤ b := by
    intro N
    induction N with
    | zero => intro v b _ h; omega
    | succ N ih =>
      intro v b e hb
      have h0 := (I.rng v b e).2.2
      rcases I.wt v b e with rfl | ⟨r, hm, rfl, a, e2, le⟩
      · exact ⟨0, d0, h0⟩
      · have hl := (hok r hm).l0
        have ha := (I.rng _ _ e2).2.2
        obtain ⟨x, e3, l3⟩ := ih r.s a e2 (by omega)
        obtain ⟨y, e4, l4⟩ := c r hm x e3
        exact ⟨y, e4, by omega⟩
  exact fun v b e => key (b.toNat + 1) v b e (by omega)
theorem two_same {f g : IF} (hok : ∀ r ∈ rs, RoadOk n r) (cf : Closed rs f) (If : IInv n rs root f) (cg : Closed rs g) (Ig : IInv n rs root g) : f = g := by
  have h1 := half hok cf If.rt0 Ig
  have h2 := half hok cg Ig.rt0 If
  funext v
  cases e : f v with
  | none =>
    cases e2 : g v with
    | none => rfl
    | some b => obtain ⟨c, e3, _⟩ := h1 v b e2; rw [e] at e3; cases e3
  | some a =>
    obtain ⟨b, e2, l2⟩ := h2 v a e
    obtain ⟨c, e3, l3⟩ := h1 v b e2
    rw [e] at e3
    cases e3
    rw [e2]
    have : a = b := by omega
    rw [this]
theorem countP_lt {α : Type} {p q : α → Bool} : ∀ {l : List α}, (∀ x ∈ l, p x = true → q x = true) → (∃ x ∈ l, q x = true ∧ ¬ p x = true) → l.countP p < l.countP q
  | [], _, h => by obtain ⟨x, hx, _⟩ := h; cases hx
  | y :: l, h, hx => by
    have hm : l.countP p ≤ l.countP q := List.countP_mono_left (fun x hx => h x (List.mem_cons_of_mem _ hx))
    obtain ⟨x, hx, hq, hp⟩ := hx
    rw [List.countP_cons, List.countP_cons]
    rcases List.mem_cons.mp hx with rfl | hx
    · rw [if_pos hq, if_neg hp]; omega
    · have ih := countP_lt (fun x hx => h x (List.mem_cons_of_mem _ hx)) ⟨x, hx, hq, hp⟩
      have := h y (List.mem_cons_self ..)
      by_cases hy : p y = true
      · rw [if_pos hy, if_pos (this hy)]; omega
      · rw [if_neg hy]
        split <;> omega
variable {F : IF → IF} {f0 : IF}
def Turns (n : Int) (rs : List R4) (root : Int) (F : IF → IF) : Prop := ∀ f, IInv n rs root f → IInv n rs root (F f) ∧ Le (F f) f ∧ ∀ r ∈ rs, ∀ a, f r.s = some a → ∃ b, F f r.e = some b ∧ b ≤ a + r.l
theorem iter_inv (hF : Turns n rs root F) (I0 : IInv n rs root f0) : ∀ k, IInv n rs root (iter F k f0)
  | 0 => I0
  | k + 1 => (hF _ (iter_inv hF I0 k)).1
theorem iter_le (hF : Turns n rs root F) (I0 : IInv n rs root f0) (k : Nat) : ∀ j, Le (iter F (k + j) f0) (iter F k f0)
  | 0 => .refl _
  | j + 1 => ((hF _ (iter_inv hF I0 (k + j))).2.1).trans (iter_le hF I0 k j)
theorem stab (hF : Turns n rs root F) (I0 : IInv n rs root f0) (v : Int) : ∃ K, ∀ k, K ≤ k → iter F k f0 v = iter F K f0 v := by
  have key : ∀ (N k : Nat) (m : Int), iter F k f0 v = some m → m.toNat < N → ∃ K, ∀ k, K ≤ k → iter F k f0 v = iter F K f0 v := by
    intro N
    induction N with
    | zero => intro k m _ h; omega
    | succ N ih =>
      intro k m e hm
      by_cases hh : ∀ j, k ≤ j → iter F j f0 v = some m
      · exact ⟨k, fun j hj => by rw [hh j hj, e]⟩
      · have ⟨j, hj⟩ := Classical.not_forall.mp hh
        have ⟨hk, hj⟩ := Classical.not_imp.mp hj
        obtain ⟨d, rfl⟩ := Nat.exists_eq_add_of_le hk
        obtain ⟨b, e2, l2⟩ := iter_le hF I0 k d v m e
        have hb := ((iter_inv hF I0 (k + d)).rng _ _ e2).2.2
        have : b ≠ m := fun z => hj (by rw [e2, z])
        exact ih (k + d) b e2 (by omega)
  by_cases h : ∃ k m, iter F k f0 v = some m
  · obtain ⟨k, m, e⟩ := h
    exact key (m.toNat + 1) k m e (by omega)
  · have none : ∀ k, iter F k f0 v = none := fun k => by
      cases e : iter F k f0 v with
      | none => rfl
      | some m => exact absurd ⟨k, m, e⟩ h
    exact ⟨0, fun k _ => by rw [none k, none 0]⟩
theorem stab_all (hF : Turns n rs root F) (I0 : IInv n rs root f0) : ∀ N : Nat, ∃ K, ∀ (i : Nat), i < N → ∀ k, K ≤ k → iter F k f0 (i : Int) = iter F K f0 (i : Int)
  | 0 => ⟨0, fun i h => by omega⟩
  | N + 1 => by
    obtain ⟨K1, h1⟩ := stab_all hF I0 N
    obtain ⟨K2, h2⟩ := stab hF I0 (N : Int)
    refine ⟨max K1 K2, fun i hi k hk => ?_⟩
    have a1 : K1 ≤ max K1 K2 := Nat.le_max_left ..
    have a2 : K2 ≤ max K1 K2 := Nat.le_max_right ..
    by_cases hi' : i = N
    · subst hi'
      rw [h2 k (by omega), h2 _ a2]
    · rw [h1 i (by omega) k (by omega), h1 i (by omega) _ a1]
theorem limit (hF : Turns n rs root F) (I0 : IInv n rs root f0) : ∃ D, IInv n rs root D ∧ Closed rs D := by
  obtain ⟨K, h⟩ := stab_all hF I0 n.toNat
  have same : iter F (K + 1) f0 = iter F K f0 := by
    funext v
    by_cases hv : 0 ≤ v ∧ v < n
    · obtain ⟨i, rfl⟩ := Int.eq_ofNat_of_zero_le hv.1
      exact h i (by omega) (K + 1) (by omega)
    · have none : ∀ k, iter F k f0 v = none := fun k => by
        cases e : iter F k f0 v with
        | none => rfl
        | some m =>
          have := (iter_inv hF I0 k).rng _ _ e
          exact absurd ⟨this.1, this.2.1⟩ hv
      rw [none, none]
  refine ⟨_, iter_inv hF I0 K, fun r hr a ha => ?_⟩
  obtain ⟨b, e, l⟩ := (hF _ (iter_inv hF I0 K)).2.2 r hr a ha
  exact ⟨b, by rw [← same]; exact e, l⟩
theorem conv (hok : ∀ r ∈ rs, RoadOk n r) (hF : Turns n rs root F) (I0 : IInv n rs root f0) : Closed rs (iter F n.toNat f0) := by
  obtain ⟨D, ID, cD⟩ := limit hF I0
  have low : ∀ k, Le D (iter F k f0) := fun k => half hok cD ID.rt0 (iter_inv hF I0 k)
  have stay : ∀ k v b, D v = some b → iter F k f0 v = some b → iter F (k + 1) f0 v = some b := fun k v b hd e => by
    obtain ⟨c, e1, l1⟩ := (hF _ (iter_inv hF I0 k)).2.1 v b e
    obtain ⟨c', e2, l2⟩ := low (k + 1) v c e1
    rw [hd] at e2
    cases e2
    have : c = b := by omega
    rw [← this]; exact e1
  have prog : ∀ (k N : Nat) (v b : Int), D v = some b → b.toNat < N → iter F k f0 v ≠ some b → ∃ v' b', D v' = some b' ∧ iter F k f0 v' ≠ some b' ∧ iter F (k + 1) f0 v' = some b' := by
    intro k N
    induction N with
    | zero => intro v b _ h; omega
    | succ N ih =>
      intro v b hd hb hne
      rcases ID.wt v b hd with rfl | ⟨r, hm, rfl, a, e2, le⟩
      · rw [ID.rt0] at hd
        cases hd
        exact absurd (iter_inv hF I0 k).rt0 hne
      · have hl := (hok r hm).l0
        have ha := (ID.rng _ _ e2).2.2
        by_cases hs : iter F k f0 r.s = some a
        · obtain ⟨b', e3, l3⟩ := (hF _ (iter_inv hF I0 k)).2.2 r hm a hs
          obtain ⟨c, e4, l4⟩ := low (k + 1) r.e b' e3
          rw [hd] at e4
          cases e4
          have : b' = b := by omega
          exact ⟨r.e, b, hd, hne, by rw [← this]; exact e3⟩
        · exact ih r.s a e2 (by omega) hs
  let fin : Nat → Nat → Bool := fun k i => decide (iter F k f0 (i : Int) = D (i : Int)) && (D (i : Int)).isSome
  have hn : ∀ v b, D v = some b → ∃ i : Nat, v = (i : Int) ∧ i ∈ List.range n.toNat := fun v b e => by
    have := ID.rng v b e
    obtain ⟨i, rfl⟩ := Int.eq_ofNat_of_zero_le this.1
    exact ⟨i, rfl, List.mem_range.mpr (by omega)⟩
  have main : ∀ k, (∀ v b, D v = some b → iter F k f0 v = some b) ∨ k + 1 ≤ (List.range n.toNat).countP (fin k) := by
    intro k
    induction k with
    | zero =>
      obtain ⟨i, hi, hm⟩ := hn root 0 ID.rt0
      refine .inr (List.countP_pos_iff.mpr ⟨i, hm, ?_⟩)
      show (decide (f0 (i : Int) = D (i : Int)) && (D (i : Int)).isSome) = true
      rw [← hi, I0.rt0, ID.rt0]
      rfl
    | succ k ih =>
      rcases ih with h | h
      · exact .inl fun v b e => stay k v b e (h v b e)
      · by_cases all : ∀ v b, D v = some b → iter F k f0 v = some b
        · exact .inl fun v b e => stay k v b e (all v b e)
        · refine .inr (Nat.lt_of_le_of_lt h (countP_lt (fun i _ hi => ?_) ?_))
          · have hi' := Bool.and_eq_true_iff.mp hi
            have h1 := of_decide_eq_true hi'.1
            obtain ⟨b, e⟩ := Option.isSome_iff_exists.mp hi'.2
            have := stay k i b e (h1.trans e)
            exact Bool.and_eq_true_iff.mpr ⟨decide_eq_true (this.trans e.symm), hi'.2⟩
          · have ⟨v, hv⟩ := Classical.not_forall.mp all
            have ⟨b, hb⟩ := Classical.not_forall.mp hv
            have ⟨hd, hne⟩ := Classical.not_imp.mp hb
            obtain ⟨v', b', d', n', e'⟩ := prog k (b.toNat + 1) v b hd (by omega) hne
            obtain ⟨i, rfl, hm⟩ := hn v' b' d'
            refine ⟨i, hm, Bool.and_eq_true_iff.mpr ⟨decide_eq_true (e'.trans d'.symm), by rw [d']; rfl⟩, fun z => ?_⟩
            exact n' ((of_decide_eq_true (Bool.and_eq_true_iff.mp z).1).trans d')
  have fin' : ∀ v b, D v = some b → iter F n.toNat f0 v = some b := by
    rcases main n.toNat with h | h
    · exact h
    · have := List.countP_le_length (p := fin n.toNat) (l := List.range n.toNat)
      rw [List.length_range] at this
      omega
  have eq : iter F n.toNat f0 = D := by
    funext v
    cases e : D v with
    | some b => exact fin' v b e
    | none =>
      cases e2 : iter F n.toNat f0 v with
      | none => rfl
      | some b => obtain ⟨c, e3, _⟩ := low n.toNat v b e2; rw [e] at e3; cases e3
  rw [eq]; exact cD
/-- the two ways of going through -/
theorem turns_at (hok : ∀ r ∈ rs, RoadOk n r) : Turns n rs root (fun f => rnd id rs f) := fun f I => by
  obtain ⟨h1, h2, h3⟩ := rnd_inv (S := id) (f := f) (n := n) (rs := rs) (root := root) (fun g h => ⟨.refl _, h⟩) rs f (fun r h => ⟨h, hok r h⟩) I (.refl _)
  exact ⟨h1, h2, h3⟩
theorem turns_by (hok : ∀ r ∈ rs, RoadOk n r) : Turns n rs root (fun f => rnd (fun _ => f) rs f) := fun f I => by
  obtain ⟨h1, h2, h3⟩ := rnd_inv (S := fun _ => f) (f := f) (n := n) (rs := rs) (root := root) (fun g h => ⟨h, .refl _⟩) rs f (fun r h => ⟨h, hok r h⟩) I (.refl _)
  exact ⟨h1, h2, h3⟩
def ini (root : Int) : IF := put (fun _ => none) root 0
theorem ini_inv (h0 : 0 ≤ root) (h1 : root < n) : IInv n rs root (ini root) := by
  refine ⟨if_pos rfl, fun v a e => ?_, fun v b e => ?_⟩
  · unfold ini put at e
    by_cases hv : v = root
    · rw [if_pos hv] at e; cases e; subst hv; exact ⟨h0, h1, Int.le_refl _⟩
    · rw [if_neg hv] at e; cases e
  · unfold ini put at e
    by_cases hv : v = root
    · exact .inl hv
    · rw [if_neg hv] at e; cases e
end
/-- what is found -/
def due (n : Int) (rs : List R4) (root : Int) : IF := iter (fun f => rnd id rs f) n.toNat (ini root)
theorem due_inv {n root : Int} {rs : List R4} (hok : ∀ r ∈ rs, RoadOk n r) (h0 : 0 ≤ root) (h1 : root < n) : IInv n rs root (due n rs root) := iter_inv (turns_at hok) (ini_inv h0 h1) _
theorem due_closed {n root : Int} {rs : List R4} (hok : ∀ r ∈ rs, RoadOk n r) (h0 : 0 ≤ root) (h1 : root < n) : Closed rs (due n rs root) := conv hok (turns_at hok) (ini_inv h0 h1)
theorem due_by {n root : Int} {rs : List R4} (hok : ∀ r ∈ rs, RoadOk n r) (h0 : 0 ≤ root) (h1 : root < n) : iter (fun f => rnd (fun _ => f) rs f) n.toNat (ini root) = due n rs root :=
  two_same hok (conv hok (turns_by hok) (ini_inv h0 h1)) (iter_inv (turns_by hok) (ini_inv h0 h1) _) (due_closed hok h0 h1) (due_inv hok h0 h1)
end HK

set_option Elab.async false
set_option linter.all false
set_option maxRecDepth 100000
set_option maxHeartbeats 2000000
namespace HK
open PySem PySem.Spec PyProof.Rows L2 GAl GxR
/-! ### a dict of whole numbers by whole numbers -/
structure DI (kvs : List (Key × V)) (f : IF) : Prop where
  nd : (kvs.map (·.1)).Nodup
  ks : ∀ p ∈ kvs, ∃ i x : Int, p = (Sum.inl i, V.int x)
  val : ∀ i : Int, valV kvs (Sum.inl i) = (f i).map V.int
theorem valV_mem {κ : Type} [DecidableEq κ] : ∀ {kvs : List (κ × V)} {p : κ × V}, (kvs.map (·.1)).Nodup → p ∈ kvs → valV kvs p.1 = some p.2
  | q :: r, p, nd, h => by
    have nd' := List.nodup_cons.mp nd
    rcases List.mem_cons.mp h with rfl | h
    · exact valV_pos rfl
    · have : ¬ q.1 = p.1 := fun z => nd'.1 (List.mem_map.mpr ⟨p, h, z.symm⟩)
      rw [valV_neg this]
      exact valV_mem nd'.2 h
theorem DI.at_ {kvs : List (Key × V)} {f : IF} (h : DI kvs f) {p : Key × V} (hp : p ∈ kvs) : ∃ i x : Int, p = (Sum.inl i, V.int x) ∧ f i = some x := by
  obtain ⟨i, x, rfl⟩ := h.ks p hp
  have e := valV_mem h.nd hp
  rw [h.val] at e
  cases e2 : f i with
  | none => rw [e2] at e; cases e
  | some y => rw [e2] at e; cases e; exact ⟨i, _, rfl, e2⟩
theorem DI.mem {kvs : List (Key × V)} {f : IF} (h : DI kvs f) (i : Int) : (Sum.inl i : Key) ∈ kvs.map (·.1) ↔ (f i).isSome = true := by
  constructor
  · intro hm
    obtain ⟨p, hp, e⟩ := List.mem_map.mp hm
    obtain ⟨j, x, rfl, e2⟩ := h.at_ hp
    have e : (Sum.inl j : Key) = Sum.inl i := e
    cases e
    rw [e2]; rfl
  · intro hs
    obtain ⟨x, e⟩ := Option.isSome_iff_exists.mp hs
    exact valV_in (v := .int x) (by rw [h.val, e]; rfl)
theorem DI.put {kvs : List (Key × V)} {f : IF} (h : DI kvs f) (i x : Int) : DI (putK kvs (Sum.inl i) (.int x)) (HK.put f i x) := by
  refine ⟨?_, fun p hp => ?_, fun j => ?_⟩
  · cases e : valV kvs (Sum.inl i) with
    | none => exact nd_putK _ h.nd e
    | some v =>
      unfold putK
      rw [valV_any, e]
      simp only [Option.isSome_some, if_true]
      have : (kvs.map fun kv => if kv.1 = (Sum.inl i : Key) then (kv.1, V.int x) else kv).map (·.1) = kvs.map (·.1) := by
        rw [List.map_map]
        exact List.map_congr_left fun p _ => by
          show (if p.1 = (Sum.inl i : Key) then (p.1, V.int x) else p).1 = p.1
          split <;> rfl
      rw [this]; exact h.nd
  · unfold putK at hp
    split at hp
    · obtain ⟨q, hq, rfl⟩ := List.mem_map.mp hp
      obtain ⟨j, y, rfl⟩ := h.ks q hq
      by_cases e : (Sum.inl j : Key) = Sum.inl i
      · exact ⟨j, x, by simp only [e, if_true]⟩
      · exact ⟨j, y, by simp only [e, if_false]⟩
    · rcases List.mem_append.mp hp with hp | hp
      · exact h.ks p hp
      · exact ⟨i, x, List.mem_singleton.mp hp⟩
  · rw [valV_put, h.val]
    unfold HK.put
    by_cases e : j = i
    · subst e; simp
    · simp [e]
theorem DI.one (root : Int) : DI (mergeK [] [(Sum.inl root, V.int 0)]) (ini root) := by
  have h0 : DI [] (fun _ => none) := ⟨List.nodup_nil, fun p hp => (by cases hp), fun i => rfl⟩
  exact h0.put root 0
theorem DI.same {ks ls : List (Key × V)} {f : IF} (h : DI ks f) (g : DI ls f) : ks.length = ls.length ∧ ∀ p ∈ ks, valV ls p.1 = some p.2 ∧ flatB p.2 = true := by
  constructor
  · have : (ks.map (·.1)).Perm (ls.map (·.1)) := (List.perm_ext_iff_of_nodup h.nd g.nd).mpr fun k => by
      cases k with
      | inl i => rw [h.mem, g.mem]
      | inr s =>
        constructor
        · intro hm
          obtain ⟨p, hp, e⟩ := List.mem_map.mp hm
          obtain ⟨j, x, rfl⟩ := h.ks p hp
          cases e
        · intro hm
          obtain ⟨p, hp, e⟩ := List.mem_map.mp hm
          obtain ⟨j, x, rfl⟩ := g.ks p hp
          cases e
    have := this.length_eq
    rwa [List.length_map, List.length_map] at this
  · intro p hp
    obtain ⟨i, x, rfl, e⟩ := h.at_ hp
    exact ⟨by show valV ls (Sum.inl i) = _; rw [g.val, e]; rfl, rfl⟩
theorem DI.pair {kvs : List (Key × V)} {f : IF} (h : DI kvs f) {v x : Int} (e : f v = some x) : (Sum.inl v, V.int x) ∈ kvs := by
  have := (h.mem v).mpr (by rw [e]; rfl)
  obtain ⟨pp, hpp, ep⟩ := List.mem_map.mp this
  obtain ⟨j, z, rfl, ej⟩ := h.at_ hpp
  cases ep
  rw [e] at ej
  cases ej
  exact hpp
theorem rnd_take {S : IF → IF} {rs : List R4} {g : IF} {j : Nat} {r : R4} (h : rs[j]? = some r) : rnd S (rs.take (j + 1)) g = rlx (S (rnd S (rs.take j) g)) (rnd S (rs.take j) g) r := by
  have : rs.take (j + 1) = rs.take j ++ [r] := by rw [List.take_add_one, h]; rfl
  rw [this]
  unfold rnd
  rw [List.foldl_append]
  rfl
/-! ### a good net is one -/
def pr (r : R4) : List Int := [r.s, r.e]
theorem pairs_map (rs : List R4) : (rs.map R4.d).map pairD = rs.map pr := by rw [List.map_map]; rfl
abbrev nt (m : PyData) (ds : List PyData) : PyData := .tuple [m, .tuple ds]
theorem lex_fore {a b : R4} (h : a.lt b) : HT.lexLt (pr a) (pr b) = true := by
  have h : a.s < b.s ∨ (a.s = b.s ∧ a.e < b.e) := h
  simp only [pr, HT.lexLt]
  rcases h with h | ⟨h, h2⟩
  · rw [if_neg (by omega)]
    exact decide_eq_true (by omega)
  · rw [if_pos h, if_neg (by omega)]
    exact decide_eq_true (by omega)
/-- a good net is one -/
theorem road_yes {n : Int} {r : R4} (h : RoadOk n r) : isRoadD n r.d = true := by
  obtain ⟨h1, h2, h3, h4, h5, h6, h7, h8, h9⟩ := h
  have a1 : r.s ≤ n - 1 := by omega
  have a2 : r.e ≤ n - 1 := by omega
  simp [R4.d, isRoadD, withinD, neD, h1, a1, h3, a2, h5, h6, h7, h8, h9]
theorem net_yes {n : Int} {rs : List R4} (G : Good n rs) : isNetD (nt (.int n) (rs.map R4.d)) = true := by
  show ((decide (1 ≤ n) && decide (n ≤ 12)) && (((rs.map R4.d).all (isRoadD n)) && risesB ((rs.map R4.d).map pairD))) = true
  rw [decide_eq_true G.n1, decide_eq_true G.n2, pairs_map]
  have h1 : (rs.map R4.d).all (isRoadD n) = true := by
    rw [List.all_map, List.all_eq_true]
    exact fun r hr => road_yes (G.ok r hr)
  have h2 : risesB (rs.map pr) = true := risesB_yes fun j hj => by
    rw [List.length_map] at hj
    have hp := List.pairwise_iff_getElem.mp G.up j (j + 1) (by omega) (by omega) (by omega)
    have e1 : (rs.map pr).getD j [] = pr rs[j] := by simp [List.getD_eq_getElem?_getD, List.getElem?_eq_getElem (show j < rs.length by omega)]
    have e2 : (rs.map pr).getD (j + 1) [] = pr rs[j + 1] := by simp [List.getD_eq_getElem?_getD, List.getElem?_eq_getElem (show j + 1 < rs.length by omega)]
    rw [e1, e2]
    exact lex_fore hp
  rw [h1, h2]
  rfl
theorem NetAt.k0 {K : PySem.W.Frag} {H H' : Hp} {a : Addr} {n : Int} {rs : List R4} (h : NetAt K H a n rs) (k : K0 H H') : NetAt K H' a n rs := h.kt (k.kt (t := 0))
theorem NetAt.ans {K : PySem.W.Frag} {H : Hp} {a : Addr} {n : Int} {rs : List R4} (h : NetAt K H a n rs) (G : Good n rs) (hl : rs.length ≤ 156) : NetAns K H (.ref a) true := by
  obtain ⟨r, xs, o, h1, h2, hc, hd, h3⟩ := h
  refine .inl ⟨nt (.int n) (rs.map R4.d), .tup h1 (.cons (.int _) (.cons (.tup (h2) h3) .nil)), fun m rs' e => ?_, (net_yes G).symm⟩
  cases e
  rw [List.length_map]; omega
end HK

set_option Elab.async false
set_option linter.all false
set_option maxRecDepth 100000
set_option maxHeartbeats 2000000
namespace HK
open PySem PySem.Spec PyProof.Rows L2 GAl GxR
abbrev sIsPlace : Stmt := topS 22
abbrev sNeedNet : Stmt := topS 25
abbrev sNeedPlace : Stmt := topS 26
theorem scIsPlace : FnScope ["net", "thing"] ["net", "thing"] (defScope sIsPlace) := ⟨rfl, rfl, rfl, by decide +kernel, rfl, by decide +kernel, by decide +kernel⟩
theorem scNeedNet : FnScope ["net"] ["net"] (defScope sNeedNet) := ⟨rfl, rfl, rfl, by decide +kernel, rfl, by decide +kernel, by decide +kernel⟩
theorem scNeedPlace : FnScope ["net", "place"] ["net", "place"] (defScope sNeedPlace) := ⟨rfl, rfl, rfl, by decide +kernel, rfl, by decide +kernel, by decide +kernel⟩
theorem K0.lock {H H' : Hp} {p : Addr} {u : HO} {od : Obj} (h : H p = some u) (nt : ∀ ps, u ≠ .tbl ps) (k : K0 (upd H p (.frz od u)) H') : K0 H (upd H' p u) := by
  refine ⟨fun b o e m => ?_, fun P hP => ?_, fun b e => ?_⟩
  · by_cases hb : b = p
    · subst hb
      rw [h] at e
      cases e
      exact upd_same
    · rw [upd_ne hb]
      exact k.oth b o (by rw [upd_ne hb]; exact e) m
  · obtain ⟨ps, e, ht⟩ := hP
    have hb : P ≠ p := fun z => by
      rw [z, h] at e
      exact nt ps (Option.some.inj e)
    obtain ⟨ps', e', ht'⟩ := k.tab P ⟨ps, by rw [upd_ne hb]; exact e, ht⟩
    exact ⟨ps', by rw [upd_ne hb]; exact e', ht'⟩
  · by_cases hb : b = p
    · rw [hb, upd_same] at e; cases e
    · rw [upd_ne hb] at e
      have := k.dom b e
      rwa [upd_ne hb] at this
section
variable {P : Program} {w : World} {K : PySem.W.Frag} {mg : Str → Option Value} {base : Heap}
def spIsPlace (K : PySem.W.Frag) : Sp := fun vs H Q _ => ∃ (a : Addr) (n : Int) (rs : List R4) (v : Int), vs = [.ref a, .int v] ∧ NetAt K H a n rs ∧ Q (.bl (decide (0 ≤ v) && decide (v ≤ n - 1))) H
theorem ok_isplace {f fW : Addr} {fd fdW : FuncData} (F : Fun K "is_place" "is_place" sIsPlace f fd)
    (kW : PySem.W.keepIn K (.ref fW) = true) (bW : Binds K fdW ["thing", "least", "greatest"] []) (gW : mg "is_within" = some (.ref fW)) (GW : FnOk P w K mg base CX0 2 fW fdW ["thing", "least", "greatest"] (spWithin K)) :
    FnOk P w K mg base CX0 3 f fd ["net", "thing"] (spIsPlace K) := by
  refine F.ok scIsPlace (fun vs H Q E h => ?_) (fun cdv A outer s H vs Q E hr h => ?_)
  · obtain ⟨a, n, rs, v, rfl, _⟩ := h
    rfl
  · obtain ⟨a, n, rs, v, rfl, hN, q⟩ := h
    obtain ⟨r, xs, o, h1, h2, hc, hd, h3⟩ := hN
    refine ⟨_, pss_one (ps_ret (pe_call GW hr (by rfl) gW kW bW .nil pass0 (pa_cons (pv 1) (pa_cons pe_int (pa_cons (pe_op op_sub (pe_ix ix_tup (pv 0) pe_int (fun _ _ => rfl)) pe_int) pa_nil))))), ?_⟩
    exact ⟨_, rfl, _, rfl, a, _, _, _, rfl, rfl, h1, atI_nat (j := 0) rfl, _, _, rfl, rfl, .int v, .int v, 0, n - 1, rfl, .int _, q⟩
def spNeedNet (K : PySem.W.Frag) (Pn Pr : Addr) : Sp := fun vs H Q _ => ∃ (a : Addr) (n : Int) (rs : List R4), vs = [.ref a] ∧ NetAt K H a n rs ∧ Good n rs ∧ rs.length ≤ 156 ∧ TabG H Pn ∧ TabG H Pr ∧ ∀ H', K0 H H' → Q .non H'
theorem ok_neednet {f fN Pn Pr : Addr} {fd fdN : FuncData} (F : Fun K "need_net" "need_net" sNeedNet f fd)
    (kN : PySem.W.keepIn K (.ref fN) = true) (bN : Binds K fdN ["thing"] []) (gN : mg "is_net" = some (.ref fN)) (GN : FnOk P w K mg base CX0 5 fN fdN ["thing"] (spIsNet K Pn Pr)) :
    FnOk P w K mg base CX0 6 f fd ["net"] (spNeedNet K Pn Pr) := by
  refine F.ok scNeedNet (fun vs H Q E h => ?_) (fun cdv A outer s H vs Q E hr h => ?_)
  · obtain ⟨a, n, rs, rfl, _⟩ := h
    rfl
  · obtain ⟨a, n, rs, rfl, hN, hG, hl, tn, tr, q⟩ := h
    refine ⟨_, pss_one (ps_if (pt_not (pt_val (pe_call GN hr (by rfl) gN kN bN .nil pass0 (pa_cons (pv 0) pa_nil)))) pss_never pss_nil), ?_⟩
    exact ⟨_, rfl, .ref a, true, rfl, hN.ans hG hl, tn, tr, fun H' k => ⟨_, rfl, iteF (q H' k)⟩⟩
def spNeedPlace (K : PySem.W.Frag) : Sp := fun vs H Q _ => ∃ (a : Addr) (n : Int) (rs : List R4) (v : Int), vs = [.ref a, .int v] ∧ NetAt K H a n rs ∧ 0 ≤ v ∧ v < n ∧ Q .non H
theorem ok_needplace {f fN : Addr} {fd fdN : FuncData} (F : Fun K "need_place" "need_place" sNeedPlace f fd)
    (kN : PySem.W.keepIn K (.ref fN) = true) (bN : Binds K fdN ["net", "thing"] []) (gN : mg "is_place" = some (.ref fN)) (GN : FnOk P w K mg base CX0 3 fN fdN ["net", "thing"] (spIsPlace K)) :
    FnOk P w K mg base CX0 4 f fd ["net", "place"] (spNeedPlace K) := by
  refine F.ok scNeedPlace (fun vs H Q E h => ?_) (fun cdv A outer s H vs Q E hr h => ?_)
  · obtain ⟨a, n, rs, v, rfl, _⟩ := h
    rfl
  · obtain ⟨a, n, rs, v, rfl, hN, h0, h1, q⟩ := h
    refine ⟨_, pss_one (ps_if (pt_not (pt_val (pe_call GN hr (by rfl) gN kN bN .nil pass0 (pa_cons (pv 0) (pa_cons (pv 1) pa_nil))))) pss_never pss_nil), ?_⟩
    refine ⟨_, rfl, _, rfl, a, n, rs, v, rfl, hN, _, rfl, ?_⟩
    rw [decide_eq_true h0, decide_eq_true (show v ≤ n - 1 by omega)]
    exact iteF q
theorem road_at {H : Hp} {xs : List V} {rs : List R4} {j : Nat} {x : V} (h3 : Roads K H xs rs) (hx : xs[j]? = some x) : ∃ (t : R4) (q1 : Addr), rs[j]? = some t ∧ x = .ref q1 ∧ SqT K H q1 t.vs := by
  obtain ⟨d, e1, e2⟩ := dpAll_get h3 hx
  obtain ⟨t, rfl, hrd⟩ : ∃ t : R4, d = t.d ∧ rs[j]? = some t := by
    rw [List.getElem?_map] at e1
    cases e3 : rs[j]? with
    | none => rw [e3] at e1; cases e1
    | some t => rw [e3] at e1; cases e1; exact ⟨t, rfl, rfl⟩
  obtain ⟨q1, rfl, hs⟩ := dp_r4 e2
  exact ⟨t, q1, hrd, rfl, hs⟩
theorem dget {H : Hp} {p : Addr} {kvs : List (Key × V)} {g : IF} {v x : Int} (hk : H p = some (.dK kvs)) (hD : DI kvs g) (e : g v = some x) : DGet H p (.int v) (some (.int x)) := by
  have := DGet.k (k := Sum.inl v) hk
  rw [hD.val, e] at this
  exact this
theorem inV_mem {i : Int} {js : List Int} (h : i ∈ js) : inV (.int i) (js.map V.int) = true := by
  unfold inV
  rw [List.any_map, List.any_eq_true]
  exact ⟨i, h, by simp [eqV]⟩
theorem upd_back {H : Hp} {p : Addr} {o : HO} (h : H p = some o) : upd H p o = H := by
  funext b
  by_cases e : b = p
  · rw [e, upd_same, h]
  · rw [upd_ne e]
theorem sqT_lock {H : Hp} {a p : Addr} {xs : List V} {kvs : List (Key × V)} {o : HO} (h : SqT K H a xs) (hp : H p = some (.dK kvs)) : SqT K (upd H p o) a xs := by
  rcases h with (h | ⟨o', h⟩) | h
  · exact .inl (.inl (by rw [upd_ne (ne_of h hp (fun z => by cases z))]; exact h))
  · exact .inl (.inr ⟨o', by rw [upd_ne (ne_of h hp (fun z => by cases z))]; exact h⟩)
  · exact .inr h
end
end HK

set_option Elab.async false
set_option linter.all false
set_option maxRecDepth 100000
set_option maxHeartbeats 4000000
namespace HK
open PySem PySem.Spec PyProof.Rows L2 GAl GxR
open Evl (pss_cut)
theorem dgetR {H : Hp} {p : Addr} {kvs : List (Key × V)} {g : IF} (hk : Rd H p (.dK kvs)) (hD : DI kvs g) (v : Int) : DGet H p (.int v) ((g v).map V.int) := .inl ⟨kvs, Sum.inl v, hk, rfl, by rw [hD.val]⟩
theorem K0.rd {H H' : Hp} {p : Addr} {kvs : List (Key × V)} (k : K0 H H') (h : Rd H p (.dK kvs)) : Rd H' p (.dK kvs) := by
  rcases h with h | ⟨o, h⟩
  · exact .inl (k.oth p _ h (fun _ z => by cases z))
  · exact .inr ⟨o, k.oth p _ h (fun _ z => by cases z)⟩
section
variable {P : Program} {w : World} {K : PySem.W.Frag} {mg : Str → Option Value} {base : Heap}
theorem tabG_lock {H : Hp} {p : Addr} {u o : HO} {Pp : Addr} (h : H p = some u) (nt : ∀ ps, u ≠ .tbl ps) (hT : TabG H Pp) : TabG (upd H p o) Pp := by
  obtain ⟨ps, e, ht⟩ := hT
  exact ⟨ps, by rw [upd_ne (fun z => by rw [z, h] at e; exact nt ps (Option.some.inj e))]; exact e, ht⟩
theorem netAt_lock {H : Hp} {a p : Addr} {n : Int} {rs : List R4} {kvs : List (Key × V)} {od : Obj} (h : NetAt K H a n rs) (hp : H p = some (.dK kvs)) : NetAt K (upd H p (.frz od (.dK kvs))) a n rs := by
  obtain ⟨r, xs, o, h1, h2, hc, hd, h3⟩ := h
  refine ⟨r, xs, o, sqT_lock h1 hp, sqT_lock h2 hp, hc, hd, ?_⟩
  clear h1 h2
  unfold Roads at h3 ⊢
  induction rs generalizing xs with
  | nil => cases h3; exact .nil
  | cons r rs ih =>
    cases h3 with
    | cons a b =>
      refine .cons ?_ (ih _ b)
      obtain ⟨q, rfl, h⟩ := dp_r4 (r := r) a
      exact r4_dp (r := r) (sqT_lock h hp)
end
end HK

set_option Elab.async false
set_option linter.all false
set_option maxRecDepth 100000
set_option maxHeartbeats 4000000
namespace HK
open PySem PySem.Spec PyProof.Rows L2 GAl GxR
open Evl (pss_cut)
abbrev sBlend : Stmt := topS 77
abbrev N_scBlend : List Str := ["cell", "place", "low", "high", "last"]
theorem scBlend : FnScope N_scBlend ["cell", "place"] (defScope sBlend) := ⟨rfl, rfl, rfl, by decide +kernel, rfl, by decide +kernel, by decide +kernel⟩
abbrev sDraw : Stmt := topS 78
abbrev N_scDraw : List Str := ["tray", "many", "place", "cell", "drawn"]
theorem scDraw : FnScope N_scDraw ["tray", "many"] (defScope sDraw) := ⟨rfl, rfl, rfl, by decide +kernel, rfl, by decide +kernel, by decide +kernel⟩
/-- the tray: the script, the next place (at most b), what is left of the number -/
structure Tray (K : PySem.W.Frag) (H : Hp) (t s : Addr) (ns : List Int) (b : Int) : Prop where
  v : ∃ p v : Int, H t = some (.lst [.ref s, .int p, .int v]) ∧ 0 ≤ p ∧ 0 ≤ v ∧ p ≤ b
  scr : Scr K t H s ns
section
variable {P : Program} {w : World} {K : PySem.W.Frag} {mg : Str → Option Value} {base : Heap}
theorem Tray.le {H : Hp} {t s : Addr} {ns : List Int} {b c : Int} (h : Tray K H t s ns b) (l : b ≤ c) : Tray K H t s ns c := by
  obtain ⟨⟨p, v, e, h1, h2, h3⟩, q⟩ := h
  exact ⟨⟨p, v, e, h1, h2, by omega⟩, q⟩
theorem Tray.k0 {H H' : Hp} {t s : Addr} {ns : List Int} {b : Int} (h : Tray K H t s ns b) (k : K0 H H') : Tray K H' t s ns b := by
  obtain ⟨⟨p, v, e, r⟩, q⟩ := h
  exact ⟨⟨p, v, k.oth t _ e (fun _ z => by cases z), r⟩, q.kt k.kt⟩
theorem Tray.ne {H : Hp} {t s x : Addr} {ns : List Int} {b : Int} (h : Tray K H t s ns b) (n : H x = none) : x ≠ t := fun z => by
  obtain ⟨_, _, e, _⟩ := h.v
  rw [z, e] at n; cases n
/-- an object of the law's own, new since H, is written -/
theorem Tray.mut {H H' : Hp} {t s x : Addr} {ns : List Int} {b b' : Int} {o : HO} (h : Tray K H' t s ns b) (h0 : Tray K H t s ns b') (k : Kt t H H') (n : H x = none) : Tray K (upd H' x o) t s ns b := by
  obtain ⟨⟨p, v, e, r⟩, q⟩ := h
  exact ⟨⟨p, v, by rw [upd_ne (h0.ne n).symm]; exact e, r⟩, h0.scr.kt (k.mut n)⟩
theorem ok_blend {f : Addr} {fd : FuncData} (F : Fun K "_law_e_blend" "_law_e_blend" sBlend f fd) : FnOk P w K mg base CX0 1 f fd ["cell", "place"] (fun vs H Q _ => ∃ cell place : Int, vs = [.int cell, .int place] ∧ 0 ≤ place ∧ place ≤ 1000000000 ∧ ∀ v : Int, 0 ≤ v → Q (.int v) H) := by
  refine F.ok scBlend (fun vs H Q E h => ?_) (fun cdv A outer s H vs Q E hr h => ?_)
  · obtain ⟨a, b, rfl, _⟩ := h
    rfl
  · obtain ⟨cell, place, rfl, hp, hp2, q⟩ := h
    refine ⟨_, (pss_cons (ps_if (pt_cmpR op_ge (pv 0) (pe_op op_pow pe_int pe_int) (nomark _)) (pss_one (ps_ret (pv 0))) pss_nil)
      (pss_cut (ps_set (i := 2) scBlend.nd rfl (.inl rfl) (pe_op op_mod (pe_op op_add (pe_op op_add (pe_op op_mul (pe_op op_mod (pv 0) pe_int) pe_int) (pe_op op_mul (pv 1) pe_int)) pe_int) pe_int))
      (pss_cut (ps_set (i := 3) scBlend.nd rfl (.inl rfl) (pe_op op_mod (pe_op op_add (pe_op op_add (pe_op op_add (pe_op op_mul (pv 2) (pv 2)) (pe_op op_mul pe_int (pv 2))) (pe_op op_mul (pv 1) (pv 1))) pe_int) pe_int))
      (pss_cut (ps_set (i := 4) scBlend.nd rfl (.inl rfl) (pe_op op_mod (pe_op op_add (pe_op op_add (pe_op op_mul (pv 3) (pv 3)) (pe_op op_mul pe_int (pv 1))) (pv 2)) pe_int))
      (pss_one (ps_ret (pe_op op_add (pe_op op_mul (pv 3) pe_int) (pv 4)))))))), ?_⟩
    refine ⟨.int cell, rfl, 10, 18, rfl, rfl, ⟨by decide, by decide, by decide⟩, cell, _, rfl, rfl, _, rfl, ite2 (fun e => ?_) (fun e => ?_)⟩
    · refine ⟨.int cell, rfl, q cell ?_⟩
      have h1 : (10 : Int) ^ (18 : Int).toNat ≤ cell := of_decide_eq_true e
      have h2 : (0 : Int) ≤ (10 : Int) ^ (18 : Int).toNat := by decide
      omega
    · refine ⟨fun σ' H' => ∃ m : Int, σ' = [some (.int cell), some (.int place), some (.int m), none, none] ∧ H' = H ∧ 0 ≤ m ∧ m < 2147483497, ?_, ?_⟩
      · exact ⟨.int cell, rfl, cell, 2147483549, rfl, rfl, (show (0 : Int) < 2147483549 by decide), _, 33797, rfl, rfl, mulR (by decide) (by decide), .int place, rfl, place, 104729, rfl, rfl, mulR (by decide) (by decide), _, _, rfl, rfl, _, 29, rfl, rfl, _, 2147483497, rfl, rfl, (show (0 : Int) < 2147483497 by decide),
          _, rfl, rfl, Int.emod_nonneg _ (by decide), Int.emod_lt_of_pos _ (by decide)⟩
      rintro σ' H' ⟨m1, rfl, rfl, b1, b2⟩
      refine ⟨fun σ' H'' => ∃ m : Int, σ' = [some (.int cell), some (.int place), some (.int m1), some (.int m), none] ∧ H'' = H' ∧ 0 ≤ m ∧ m < 2147483489, ?_, ?_⟩
      · exact ⟨.int m1, rfl, .int m1, rfl, m1, m1, rfl, rfl, mulL (by omega) (by omega), .int m1, rfl, 5077, m1, rfl, rfl, mulL (by decide) (by decide), _, _, rfl, rfl, .int place, rfl, .int place, rfl, place, place, rfl, rfl, mulL (by omega) (by omega), _, _, rfl, rfl, _, 2, rfl, rfl, _, 2147483489, rfl, rfl, (show (0 : Int) < 2147483489 by decide),
          _, rfl, rfl, Int.emod_nonneg _ (by decide), Int.emod_lt_of_pos _ (by decide)⟩
      rintro σ' H'' ⟨m2, rfl, rfl, c1, c2⟩
      refine ⟨fun σ' H' => ∃ m : Int, σ' = [some (.int cell), some (.int place), some (.int m1), some (.int m2), some (.int m)] ∧ H' = H'' ∧ 0 ≤ m, ?_, ?_⟩
      · exact ⟨.int m2, rfl, .int m2, rfl, m2, m2, rfl, rfl, mulL (by omega) (by omega), .int place, rfl, 911, place, rfl, rfl, mulL (by decide) (by decide), _, _, rfl, rfl, .int m1, rfl, _, m1, rfl, rfl, _, 2147483477, rfl, rfl, (show (0 : Int) < 2147483477 by decide),
          _, rfl, rfl, Int.emod_nonneg _ (by decide)⟩
      rintro σ' H' ⟨m3, rfl, rfl, d1⟩
      refine ⟨.int m2, rfl, m2, 2147483477, rfl, rfl, mulL (by omega) (by omega), .int m3, rfl, _, m3, rfl, rfl, ?_⟩
      exact q _ (by omega)
def spDraw (K : PySem.W.Frag) : Sp := fun vs H Q _ => ∃ (t sc : Addr) (many : Int) (ns : List Int) (b : Int), vs = [.ref t, .int many] ∧ Tray K H t sc ns b ∧ b ≤ 1000000 ∧ 0 < many ∧ many ≤ 100000000000000000001 ∧
  ∀ (d : Int) (H' : Hp), 0 ≤ d → d < many → Kt t H H' → Tray K H' t sc ns (b + 1) → Q (.int d) H'
theorem ok_draw {f : Addr} {fd : FuncData} {f_blend : Addr} {fd_blend : FuncData} (F : Fun K "_law_e_draw" "_law_e_draw" sDraw f fd) (k_blend : PySem.W.keepIn K (.ref f_blend) = true) (b_blend : Binds K fd_blend ["cell", "place"] []) (g_blend : mg "_law_e_blend" = some (.ref f_blend)) (G_blend : FnOk P w K mg base CX0 1 f_blend fd_blend ["cell", "place"] (fun vs H Q _ => ∃ cell place : Int, vs = [.int cell, .int place] ∧ 0 ≤ place ∧ place ≤ 1000000000 ∧ ∀ v : Int, 0 ≤ v → Q (.int v) H)) (m_len : mg "len" = none) : FnOk P w K mg base CX0 2 f fd ["tray", "many"] (spDraw K) := by
  refine F.ok scDraw (fun vs H Q E h => ?_) (fun cdv A outer s H vs Q E hr h => ?_)
  · obtain ⟨a, b, c, ns, b, rfl, _⟩ := h
    rfl
  · obtain ⟨t, sc, many, ns, b, rfl, ⟨⟨p, v, ht, hp, hv, hpb⟩, hScr⟩, hb, hm, hm2, q⟩ := h
    have hS := hScr.sq
    have hu := hu_of hr
    refine ⟨_, (pss_cut (ps_if (pt_cmpR op_lt (pe_ix ix_list (pv 0) pe_int (fun _ _ => rfl)) (pv 1) (nomark _)) (pss_cons (ps_set (i := 2) scDraw.nd rfl (.inl rfl) (pe_ix ix_list (pv 0) pe_int (fun _ _ => rfl)))
      (pss_cons (ps_set (i := 3) scDraw.nd rfl (.inl rfl) (pe_op op_add (pe_op op_mul pe_int (pv 2)) pe_int))
      (pss_cut (ps_if (pt_cmpR op_lt (pv 2) (pe_callB call_len_seq (by rfl) m_len PySem.boot_len (pa_cons (pe_ix ix_list (pv 0) pe_int (fun _ _ => rfl)) pa_nil)) (nomark _)) (pss_one (ps_set (i := 3) scDraw.nd rfl (.inl rfl) (pe_ix ix_list (pe_ix ix_list (pv 0) pe_int (fun _ _ => rfl)) (pv 2) (fun _ _ => rfl)))) (pss_one (ps_if (pt_cmpR op_gt (pe_callB call_len_seq (by rfl) m_len PySem.boot_len (pa_cons (pe_ix ix_list (pv 0) pe_int (fun _ _ => rfl)) pa_nil)) pe_int (nomark _)) (pss_one (ps_set (i := 3) scDraw.nd rfl (.inl rfl) (pe_op op_add (pe_op op_mod (pe_ix ix_list (pe_ix ix_list (pv 0) pe_int (fun _ _ => rfl)) (pe_op op_mod (pe_op op_mul (pv 2) pe_int) (pe_callB call_len_seq (by rfl) m_len PySem.boot_len (pa_cons (pe_ix ix_list (pv 0) pe_int (fun _ _ => rfl)) pa_nil))) (fun _ _ => rfl)) pe_int) (pe_op op_mul (pv 2) pe_int)))) pss_nil)))
      (pss_cons (ps_asg (pe_op op_add (pv 2) pe_int) (pg_sub (pv 0) pe_int set_list))
      (pss_one (ps_asg (pe_call G_blend (hr.mono (by decide)) (by rfl) g_blend k_blend b_blend .nil pass0 (pa_cons (pv 3) (pa_cons (pv 2) pa_nil))) (pg_sub (pv 0) pe_int set_list))))))) pss_nil)
      (pss_cons (ps_set (i := 4) scDraw.nd rfl (.inl rfl) (pe_op op_mod (pe_ix ix_list (pv 0) pe_int (fun _ _ => rfl)) (pv 1)))
      (pss_cons (ps_asg (pe_op op_fdivW (pe_ix ix_list (pv 0) pe_int (fun _ _ => rfl)) (pv 1)) (pg_sub (pv 0) pe_int set_list))
      (pss_one (ps_ret (pv 4)))))), ?_⟩
    refine ⟨fun σ' H' => ∃ y2 y3 y4 p' v', σ' = [some (.ref t), some (.int many), y2, y3, y4] ∧ Kt t H H' ∧ H' t = some (.lst [.ref sc, .int p', .int v']) ∧ 0 ≤ p' ∧ 0 ≤ v' ∧ p' ≤ b + 1, ?_, ?_⟩
    · refine ⟨.ref t, rfl, t, _, 2, .int v, rfl, rfl, .inl (.inl ht), atI_nat (j := 2) rfl, .int many, rfl, v, many, rfl, rfl, _, rfl, ite2 (fun e => ?_) (fun e => ?_)⟩
      · refine ⟨.ref t, rfl, t, _, 1, .int p, rfl, rfl, .inl (.inl ht), atI_nat (j := 1) rfl, .int p, rfl, 13, p, rfl, rfl, mulL (by decide) (by decide), _, 1, rfl, rfl, ?_⟩
        refine ⟨fun σ' H' => ∃ c : Int, σ' = [some (.ref t), some (.int many), some (.int p), some (.int c), none] ∧ K0 H H', ?_, ?_⟩
        · refine ⟨.int p, rfl, .ref t, rfl, t, _, 0, .ref sc, rfl, rfl, .inl (.inl ht), atI_nat (j := 0) rfl, sc, _, rfl, .inl hS, p, _, rfl, rfl, _, rfl, ite2 (fun e2 => ?_) (fun e2 => ?_)⟩
          · have hlt : p < ((ns.map V.int).length : Int) := of_decide_eq_true e2
            rw [List.length_map] at hlt
            obtain ⟨j, rfl⟩ := Int.eq_ofNat_of_zero_le hp
            have hj : j < ns.length := by omega
            refine ⟨.ref t, rfl, t, _, 0, .ref sc, rfl, rfl, .inl (.inl ht), atI_nat (j := 0) rfl, _, rfl, sc, _, _, .int ns[j], rfl, rfl, hS, atI_nat (by rw [List.getElem?_map, List.getElem?_eq_getElem hj]; rfl), ?_⟩
            exact ⟨_, rfl, K0.refl _⟩
          · refine ⟨.ref t, rfl, t, _, 0, .ref sc, rfl, rfl, .inl (.inl ht), atI_nat (j := 0) rfl, sc, _, rfl, .inl hS, _, 0, rfl, rfl, _, rfl, ite2 (fun e3 => ?_) (fun e3 => ⟨_, rfl, K0.refl _⟩)⟩
            have hl' : 0 < ((ns.map V.int).length : Int) := of_decide_eq_true e3
            have hix : ∃ k : Nat, p * 5 % ((ns.map V.int).length : Int) = (k : Int) ∧ k < ns.length := by
              have h1 := Int.emod_nonneg (p * 5) (show ((ns.map V.int).length : Int) ≠ 0 by omega)
              have h2 := Int.emod_lt_of_pos (p * 5) hl'
              obtain ⟨k, hk⟩ := Int.eq_ofNat_of_zero_le h1
              rw [List.length_map] at h2
              refine ⟨k, hk, ?_⟩
              rw [List.length_map] at hk
              omega
            obtain ⟨k, hk, hkl⟩ := hix
            refine ⟨.ref t, rfl, t, _, 0, .ref sc, rfl, rfl, .inl (.inl ht), atI_nat (j := 0) rfl, .int p, rfl, p, 5, rfl, rfl, mulR (by decide) (by decide), .ref t, rfl, t, _, 0, .ref sc, rfl, rfl, .inl (.inl ht), atI_nat (j := 0) rfl, sc, _, rfl, .inl hS, _, _, rfl, rfl, hl',
              sc, _, _, .int ns[k], rfl, rfl, hS, (by rw [hk]; exact atI_nat (by rw [List.getElem?_map, List.getElem?_eq_getElem hkl]; rfl)), _, _, rfl, rfl, (show (0 : Int) < 888888883 by decide), .int p, rfl, p, 5000000, rfl, rfl, mulR (by decide) (by decide), _, _, rfl, rfl, ?_⟩
            exact ⟨_, rfl, K0.refl _⟩
        · rintro σ' H' ⟨c, rfl, k⟩
          have ht' := k.oth t _ ht (fun _ z => by cases z)
          refine ⟨.int p, rfl, p, 1, rfl, rfl, .ref t, rfl, t, _, 1, 1, rfl, rfl, ht', rfl, ?_⟩
          refine ⟨.int c, rfl, .int p, rfl, c, p, rfl, hp, by omega, fun v' hv' => ?_⟩
          refine ⟨.ref t, rfl, t, _, 2, 2, rfl, rfl, upd_same, rfl, ?_⟩
          rw [upd_upd]
          have kk : Kt t H (upd H' t (.lst [.ref sc, .int (p + 1), .int v'])) := (k.kt).trans (Kt.set ht')
          exact ⟨_, _, _, p + 1, v', rfl, kk, upd_same, by omega, hv', by omega⟩
      · exact ⟨_, _, _, p, v, rfl, Kt.refl _ _, ht, hp, hv, by omega⟩
    · rintro σ' H' ⟨y2, y3, y4, p', v', rfl, k, ht', hp', hv', hpb'⟩
      refine ⟨.ref t, rfl, t, _, 2, .int v', rfl, rfl, .inl (.inl ht'), atI_nat (j := 2) rfl, .int many, rfl, v', many, rfl, rfl, hm, ?_⟩
      refine ⟨.ref t, rfl, t, _, 2, .int v', rfl, rfl, .inl (.inl ht'), atI_nat (j := 2) rfl, .int many, rfl, v', many, rfl, rfl, ?_, .ref t, rfl, t, _, 2, 2, rfl, rfl, ht', rfl, ?_⟩
      · exact wide_div (b := 70) hm (by omega) (by decide) (by decide)
      · refine ⟨_, rfl, q _ _ (Int.emod_nonneg _ (by omega)) (Int.emod_lt_of_pos _ hm) (k.trans (Kt.set ht')) ?_⟩
        exact ⟨⟨p', v' / many, upd_same, hp', Int.ediv_nonneg hv' (by omega), hpb'⟩, hScr.kt (k.trans (Kt.set ht'))⟩
end
end HK

set_option Elab.async false
set_option linter.all false
set_option maxRecDepth 100000
set_option maxHeartbeats 4000000
namespace HK
open PySem PySem.Spec PyProof.Rows L2 GAl GxR
open Evl (pss_cut)
abbrev sWaysL : Stmt := topS 79
abbrev N_scWaysL : List Str := ["tray", "n", "shape", "places", "place", "up", "at", "ahead"]
theorem scWaysL : FnScope N_scWaysL ["tray"] (defScope sWaysL) := ⟨rfl, rfl, rfl, by decide +kernel, rfl, by decide +kernel, by decide +kernel⟩
/-! ### ways up -/
def oV : Option Int → V
  | none => .non
  | some i => .int i
def upF (us : List (Option Int)) : IF := fun v => if 0 ≤ v then us.getD v.toNat none else none
/-- the way from a place up to the root -/
inductive Up (g : IF) : Int → List Int → Prop
  | top {v : Int} : g v = none → Up g v [v]
  | step {v u : Int} {l : List Int} : g v = some u → Up g u l → Up g v (v :: l)
structure Ways (us : List (Option Int)) : Prop where
  n1 : 1 ≤ us.length
  n8 : us.length ≤ 8
  rng : ∀ v : Int, some v ∈ us → 0 ≤ v ∧ v < us.length
  one : ∃ r : Nat, us[r]? = some none ∧ ∀ j : Nat, us[j]? = some none → j = r
  ends : ∀ v : Int, 0 ≤ v → v < us.length → ∃ l, Up (upF us) v l
def WaysAt (H : Hp) (p : Addr) (us : List (Option Int)) : Prop := ∃ o : Obj, H p = some (.frz o (.tup (us.map oV))) ∧ o.cls = .type "tuple" ∧ o.dict = none
theorem WaysAt.sq {K : PySem.W.Frag} {H : Hp} {p : Addr} {us : List (Option Int)} (h : WaysAt H p us) : SqT K H p (us.map oV) := by
  obtain ⟨o, h, _⟩ := h
  exact .inl (.inr ⟨o, h⟩)
theorem WaysAt.kt {t : Addr} {H H' : Hp} {p : Addr} {us : List (Option Int)} (h : WaysAt H p us) (k : Kt t H H') : WaysAt H' p us := by
  obtain ⟨o, h, r⟩ := h
  exact ⟨o, k.frz _ _ _ h, r⟩
theorem WaysAt.k0 {H H' : Hp} {p : Addr} {us : List (Option Int)} (h : WaysAt H p us) (k : K0 H H') : WaysAt H' p us := h.kt (k.kt (t := 0))
theorem ixN_at {n : Nat} {v : Int} (h0 : 0 ≤ v) (h1 : v < n) : ixN n v = some v.toNat := by
  unfold ixN
  rw [if_pos h0, if_pos (by omega)]
theorem upF_at {us : List (Option Int)} {v : Int} (h0 : 0 ≤ v) (h1 : v < us.length) : us[v.toNat]? = some (upF us v) := by
  unfold upF
  rw [if_pos h0, List.getD_eq_getElem?_getD, List.getElem?_eq_getElem (show v.toNat < us.length by omega)]
  rfl
theorem up_at {us : List (Option Int)} {v : Int} (h0 : 0 ≤ v) (h1 : v < us.length) : atI (us.map oV) v = some (oV (upF us v)) := by
  obtain ⟨j, rfl⟩ := Int.eq_ofNat_of_zero_le h0
  refine atI_nat ?_
  have := upF_at h0 h1
  rw [Int.toNat_natCast] at this
  rw [List.getElem?_map, this]
  rfl
/-- the places in the order in which they are drawn, and what is ahead of the first k of them -/
structure WInv (L : List Int) (us : List (Option Int)) (k : Nat) : Prop where
  len : us.length = L.length
  nd : L.Nodup
  mem : ∀ v, v ∈ L ↔ 0 ≤ v ∧ v < L.length
  at_ : ∀ (m : Nat) (v : Int), L[m]? = some v → (us[v.toNat]? = some none ∧ (m = 0 ∨ k ≤ m)) ∨ (∃ (a : Nat) (u : Int), a < m ∧ m < k ∧ L[a]? = some u ∧ us[v.toNat]? = some (some u))
theorem nodup_at {L : List Int} (nd : L.Nodup) {i j : Nat} {v : Int} (hi : L[i]? = some v) (hj : L[j]? = some v) : i = j := by
  obtain ⟨hi', ei⟩ := List.getElem?_eq_some_iff.mp hi
  obtain ⟨hj', ej⟩ := List.getElem?_eq_some_iff.mp hj
  refine Decidable.byContradiction fun ne => ?_
  have pw := List.pairwise_iff_getElem.mp nd
  rcases Nat.lt_or_gt_of_ne ne with l | l
  · exact pw i j hi' hj' l (by rw [ei, ej])
  · exact pw j i hj' hi' l (by rw [ei, ej])
theorem WInv.step {L : List Int} {us : List (Option Int)} {k a : Nat} {v u : Int} (h : WInv L us k) (hk : 1 ≤ k) (hv : L[k]? = some v) (ha : a < k) (hu : L[a]? = some u) : WInv L (us.set v.toNat (some u)) (k + 1) := by
  have hvm := (h.mem v).mp (List.mem_of_getElem? hv)
  refine ⟨by rw [List.length_set]; exact h.len, h.nd, h.mem, fun m x hx => ?_⟩
  have hxm := (h.mem x).mp (List.mem_of_getElem? hx)
  by_cases e : m = k
  · subst e
    rw [hv] at hx
    cases hx
    refine .inr ⟨a, u, ha, Nat.lt_succ_self _, hu, ?_⟩
    rw [List.getElem?_set_self (by rw [h.len]; omega)]
  · have hne : v.toNat ≠ x.toNat := fun z => e (nodup_at h.nd hx (by rw [hv]; congr 1; omega))
    rw [List.getElem?_set_ne hne]
    rcases h.at_ m x hx with ⟨h1, h2⟩ | ⟨a', u', h1, h2, h3, h4⟩
    · refine .inl ⟨h1, ?_⟩
      rcases h2 with h2 | h2
      · exact .inl h2
      · exact .inr (by omega)
    · exact .inr ⟨a', u', h1, by omega, h3, h4⟩
theorem WInv.ways {L : List Int} {us : List (Option Int)} (h : WInv L us L.length) (n1 : 1 ≤ L.length) (n8 : L.length ≤ 8) : Ways us := by
  have hat : ∀ j : Nat, j < us.length → ∃ m : Nat, L[m]? = some (j : Int) := fun j hj => by
    obtain ⟨m, hm, e⟩ := List.mem_iff_getElem.mp ((h.mem (j : Int)).mpr ⟨by omega, by rw [← h.len]; omega⟩)
    exact ⟨m, by rw [List.getElem?_eq_getElem hm, e]⟩
  have h0 : L[0]? = some L[0] := List.getElem?_eq_getElem (by omega)
  have m0 := (h.mem L[0]).mp (List.getElem_mem _)
  refine ⟨by rw [h.len]; exact n1, by rw [h.len]; exact n8, fun v hv => ?_, ⟨L[0].toNat, ?_, fun j hj => ?_⟩, ?_⟩
  · obtain ⟨j, hj⟩ := List.getElem?_of_mem hv
    have hjl := (List.getElem?_eq_some_iff.mp hj).1
    obtain ⟨m, hm⟩ := hat j hjl
    rcases h.at_ m _ hm with ⟨h1, _⟩ | ⟨a, u, _, _, h3, h4⟩
    · rw [Int.toNat_natCast, hj] at h1
      cases h1
    · rw [Int.toNat_natCast, hj] at h4
      cases h4
      rw [h.len]
      exact (h.mem v).mp (List.mem_of_getElem? h3)
  · rcases h.at_ 0 _ h0 with ⟨h1, _⟩ | ⟨a, u, h1, _⟩
    · exact h1
    · omega
  · have hjl := (List.getElem?_eq_some_iff.mp hj).1
    obtain ⟨m, hm⟩ := hat j hjl
    have hml := (List.getElem?_eq_some_iff.mp hm).1
    rcases h.at_ m _ hm with ⟨_, h2⟩ | ⟨a, u, _, _, _, h4⟩
    · have : m = 0 := by omega
      subst this
      rw [h0] at hm
      have := Option.some.inj hm
      omega
    · rw [Int.toNat_natCast, hj] at h4
      cases h4
  · have up : ∀ (m : Nat) (v : Int), L[m]? = some v → ∃ l, Up (upF us) v l := fun m => by
      induction m using Nat.strongRecOn with
      | ind m ih =>
        intro v hv
        have hvm := (h.mem v).mp (List.mem_of_getElem? hv)
        have e := upF_at hvm.1 (by rw [h.len]; exact hvm.2)
        rcases h.at_ m v hv with ⟨h1, _⟩ | ⟨a, u, h1, _, h3, h4⟩
        · exact ⟨_, .top (by rw [h1] at e; exact (Option.some.inj e).symm)⟩
        · obtain ⟨l, hl⟩ := ih a h1 u h3
          exact ⟨_, .step (by rw [h4] at e; exact (Option.some.inj e).symm) hl⟩
    intro v v0 v1
    obtain ⟨m, hm⟩ := hat v.toNat (by omega)
    rw [show ((v.toNat : Nat) : Int) = v by omega] at hm
    exact up m v hm
theorem pick4r {d a b c e m : Int} (h0 : 0 ≤ d) (h1 : d < 4) (ha : 0 ≤ a ∧ a < m) (hb : 0 ≤ b ∧ b < m) (hc : 0 ≤ c ∧ c < m) (he : 0 ≤ e ∧ e < m) : ∃ y : Int, atI [V.int a, .int b, .int c, .int e] d = some (.int y) ∧ 0 ≤ y ∧ y < m := by
  obtain ⟨k, rfl⟩ := Int.eq_ofNat_of_zero_le h0
  match k, h1 with
  | 0, _ => exact ⟨a, atI_nat rfl, ha⟩
  | 1, _ => exact ⟨b, atI_nat rfl, hb⟩
  | 2, _ => exact ⟨c, atI_nat rfl, hc⟩
  | 3, _ => exact ⟨e, atI_nat rfl, he⟩
  | k + 4, h => exact absurd h (by omega)
section
variable {P : Program} {w : World} {K : PySem.W.Frag} {mg : Str → Option Value} {base : Heap}
def spWaysL (K : PySem.W.Frag) : Sp := fun vs H Q _ => ∃ (t sc : Addr) (ns : List Int) (b : Int), vs = [.ref t] ∧ Tray K H t sc ns b ∧ b ≤ 900000 ∧
  ∀ (p : Addr) (us : List (Option Int)) (H' : Hp), Kt t H H' → Tray K H' t sc ns (b + 100) → H p = none → WaysAt H' p us → Ways us → Q (.ref p) H'
theorem ok_waysL {f : Addr} {fd : FuncData} {f_draw : Addr} {fd_draw : FuncData} (F : Fun K "_law_e_ways" "_law_e_ways" sWaysL f fd) (k_draw : PySem.W.keepIn K (.ref f_draw) = true) (b_draw : Binds K fd_draw ["tray", "many"] []) (g_draw : mg "_law_e_draw" = some (.ref f_draw)) (G_draw : FnOk P w K mg base CX0 2 f_draw fd_draw ["tray", "many"] (spDraw K)) (m_range : mg "range" = none) (m_tuple : mg "tuple" = none) : FnOk P w K mg base CX0 3 f fd ["tray"] (spWaysL K) := by
  refine F.ok scWaysL (fun vs H Q E h => ?_) (fun cdv A outer s H vs Q E hr h => ?_)
  · obtain ⟨a, b, ns, b, rfl, _⟩ := h
    rfl
  · obtain ⟨t, sc, ns, b, rfl, hT, hb, q⟩ := h
    have hu := hu_of hr
    refine ⟨_, (pss_cons (ps_set (i := 1) scWaysL.nd rfl (.inl rfl) (pe_op op_add pe_int (pe_call G_draw (hr.mono (by decide)) (by rfl) g_draw k_draw b_draw .nil pass0 (pa_cons (pv 0) (pa_cons pe_int pa_nil)))))
      (pss_cons (ps_set (i := 2) scWaysL.nd rfl (.inl rfl) (pe_call G_draw (hr.mono (by decide)) (by rfl) g_draw k_draw b_draw .nil pass0 (pa_cons (pv 0) (pa_cons pe_int pa_nil))))
      (pss_cons (ps_set (i := 3) scWaysL.nd rfl (.inl rfl) (pe_lst pa_nil))
      (pss_cut (ps_for PassesOwn.never rfl (pi_range1 (by rfl) m_range (pa_cons (pv 1) pa_nil)) (pg_name (i := 4) scWaysL.nd rfl (.inl rfl))
      (pss_one (ps_expr (pe_bm PySem.F.plainAttrs_list PySem.F.slot_list_insert PySem.F.type_list_insert mt_insert (pv 3) (pa_cons (pe_call G_draw (hr.mono (by decide)) (by rfl) g_draw k_draw b_draw .nil pass0 (pa_cons (pv 0) (pa_cons (pe_op op_add (pv 4) pe_int) pa_nil))) (pa_cons (pv 4) pa_nil))))))
      (pss_cons (ps_setLc (i := 5) (own := [("place", 4)]) (g := (gName 4)) (tt := tYes) (te := (tC .non)) rfl scWaysL.nd rfl rfl (sw_true rfl rfl rfl rfl) (pi_range1 (by rfl) m_range (pa_cons (pv 1) pa_nil)) (blkOk_by (N := N_scWaysL) (sc := defScope sWaysL) (by decide +kernel)) (fun _ _ _ _ _ => (pg_name (i := 4) scWaysL.nd rfl (.inl rfl))) (fun _ _ _ _ _ => pts_nil) (fun _ _ _ _ _ => pe_non))
      (pss_cut (ps_for PassesOwn.never rfl (pi_range2 (by rfl) m_range (pa_cons pe_int (pa_cons (pv 1) pa_nil))) (pg_name (i := 6) scWaysL.nd rfl (.inl rfl))
      (pss_cons (ps_set (i := 7) scWaysL.nd rfl (.inl rfl) (pe_ix ix_list (pe_lst (pa_cons (pe_call G_draw (hr.mono (by decide)) (by rfl) g_draw k_draw b_draw .nil pass0 (pa_cons (pv 0) (pa_cons (pv 6) pa_nil))) (pa_cons (pe_op op_sub (pv 6) pe_int) (pa_cons pe_int (pa_cons (pe_call G_draw (hr.mono (by decide)) (by rfl) g_draw k_draw b_draw .nil pass0 (pa_cons (pv 0) (pa_cons (pv 6) pa_nil))) pa_nil))))) (pv 2) (fun _ _ => rfl)))
      (pss_one (ps_asg (pe_ix ix_list (pv 3) (pv 7) (fun _ _ => rfl)) (pg_sub (pv 5) (pe_ix ix_list (pv 3) (pv 6) (fun _ _ => rfl)) set_list)))))
      (pss_one (ps_ret (pe_callTy call_tuple_fz (by rfl) m_tuple (by decide +kernel) (pa_cons (pv 5) pa_nil)))))))))), ?_⟩
    refine ⟨_, rfl, t, sc, 8, ns, b, rfl, hT, by omega, by omega, by omega, fun d1 H1 d10 d11 k1 T1 => ?_⟩
    refine ⟨_, _, rfl, rfl, ?_⟩
    refine ⟨_, rfl, t, sc, 4, ns, b + 1, rfl, T1, by omega, by omega, by omega, fun sh H2 s0 s1 k2 T2 => ?_⟩
    refine ⟨Nat.zero_le _, fun L0 nL0 => ?_⟩
    have n1 : 1 ≤ 1 + d1 := by omega
    have n8 : 1 + d1 ≤ 8 := by omega
    have k02 := k1.trans k2
    have T2' : Tray K H2 t sc ns (b + 2) := T2.le (by omega)
    obtain ⟨n, en⟩ : ∃ n : Int, n = 1 + d1 := ⟨_, rfl⟩
    rw [← en] at n1 n8
    have k3 : K0 H2 (upd H2 L0 (.lst [])) := K0.new nL0
    have T3 := T2'.k0 k3
    have hL0 : upd H2 L0 (.lst []) L0 = some (.lst (([] : List Int).map V.int)) := upd_same
    have nLH := k02.dom L0 nL0
    have k03 : Kt t H (upd H2 L0 (.lst [])) := k02.trans k3.kt
    generalize upd H2 L0 (.lst []) = H3 at k3 T3 hL0 k03
    have hLt : L0 ≠ t := hT.ne nLH
    -- places
    refine ⟨fun σ' H' => ∃ (y4 : Option V) (L : List Int), σ' = [some (.ref t), some (.int n), some (.int sh), some (.ref L0), y4, none, none, none] ∧ Kt t H H' ∧ Tray K H' t sc ns (b + 10) ∧ H' L0 = some (.lst (L.map V.int)) ∧ L.length = n.toNat ∧ L.Nodup ∧ ∀ v : Int, v ∈ L ↔ 0 ≤ v ∧ v < n, ?_, ?_⟩
    · refine ⟨_, rfl, n, by rw [en], by omega, by omega, for_range (lo := 0) (n := n.toNat) (fun i σ' H' => ∃ (y4 : Option V) (L : List Int), σ' = [some (.ref t), some (.int n), some (.int sh), some (.ref L0), y4, none, none, none] ∧ Kt t H H' ∧ Tray K H' t sc ns (b + 2 + i) ∧ H' L0 = some (.lst (L.map V.int)) ∧ L.length = i ∧ L.Nodup ∧ ∀ v : Int, v ∈ L ↔ 0 ≤ v ∧ v < i)
        ⟨none, [], by rw [en]; rfl, k03, T3.le (by omega), hL0, rfl, List.nodup_nil, fun v => ⟨fun z => by (cases z), fun z => by omega⟩⟩ (fun i σ' H' hi h => ?_) (fun σ' H' h => ?_)⟩
      · obtain ⟨y4, L, rfl, k4, T4, hL, ll, nd, mem⟩ := h
        refine ⟨_, rfl, .inl ⟨rfl, _, .inl (.inl hL)⟩, ?_⟩
        refine ⟨_, rfl, _, rfl, _, _, rfl, rfl, t, sc, (0 + (i : Int)) + 1, ns, b + 2 + i, rfl, T4, by omega, by omega, by omega, fun d H5 d0 d1 k5 T5 => ?_⟩
        have hL5 := k5.oth L0 _ hL hLt (fun _ z => by cases z)
        refine ⟨_, rfl, L0, L.map V.int, d, .int (0 + (i : Int)), rfl, rfl, hL5, Nat.lt_of_le_of_lt (m := 5000) (by rw [List.length_map]; omega) (by decide), d0, by omega, ?_⟩
        have pm : (L.take d.toNat ++ [0 + (i : Int)] ++ L.drop d.toNat).Perm ((0 + (i : Int)) :: L) := by
          rw [List.append_assoc]
          refine List.perm_middle.trans ?_
          show ((0 + (i : Int)) :: (L.take d.toNat ++ L.drop d.toNat)).Perm _
          rw [List.take_append_drop]
        refine ⟨_, L.take d.toNat ++ [0 + (i : Int)] ++ L.drop d.toNat, rfl, (k4.trans k5).mut nLH, (T5.le (by omega)).mut hT (k4.trans k5) nLH, by rw [List.map_append, List.map_append, List.map_take, List.map_drop]; exact upd_same, ?_, ?_, fun v => ?_⟩
        · rw [List.length_append, List.length_append, List.length_take, List.length_drop, List.length_singleton]; omega
        · refine pm.nodup_iff.mpr (List.nodup_cons.mpr ⟨fun z => ?_, nd⟩)
          have := (mem _).mp z
          omega
        · rw [pm.mem_iff, List.mem_cons, mem v]
          omega
      · obtain ⟨y4, L, rfl, k4, T4, hL, ll, nd, mem⟩ := h
        refine ⟨y4, L, rfl, k4, T4.le (by omega), hL, ll, nd, fun v => ?_⟩
        rw [mem v]
        omega
    rintro σ' H4 ⟨y4, L, rfl, k4, T4, hL, ll, nd, mem⟩
    -- up
    refine ⟨_, rfl, n, rfl, by omega, by omega, fun D nD => ?_⟩
    have hDt : D ≠ t := T4.ne nD
    refine lc_range (lo := 0) (n := n.toNat) (fun i H' => K0 H4 H' ∧ H' D = some (.lst ((List.replicate i (none : Option Int)).map oV))) ⟨K0.new nD, upd_same⟩ (fun i H' hi h => ?_) (fun H' h => ?_)
    · obtain ⟨k5, hD⟩ := h
      refine ⟨rfl, tyes ⟨_, hD, Nat.lt_of_le_of_lt (m := 5000) (by rw [List.length_map, List.length_replicate]; omega) (by decide), k5.mut nD, ?_⟩⟩
      rw [List.replicate_succ', List.map_append]
      exact upd_same
    obtain ⟨k5, hD⟩ := h
    have k45 := k4.trans k5.kt
    have T5 := T4.k0 k5
    have hL5 := k5.oth L0 _ hL (fun _ z => by cases z)
    have nDH := k4.dom D nD
    have W0 : WInv L (List.replicate n.toNat none) 1 := ⟨by rw [List.length_replicate, ll], nd, fun v => by rw [mem v, ll]; omega, fun m v hv => .inl ⟨by
      have := (mem v).mp (List.mem_of_getElem? hv)
      rw [List.getElem?_replicate, if_pos (by omega)], by omega⟩⟩
    have hLD : L0 ≠ D := ne_of_none hL nD
    have kD5 : K0 H4 H' := k5
    refine ⟨fun σ' H2 => ∃ (y4 y6 y7 : Option V) (us : List (Option Int)), σ' = [some (.ref t), some (.int n), some (.int sh), some (.ref L0), y4, some (.ref D), y6, y7] ∧ Kt t H H2 ∧ Tray K H2 t sc ns (b + 50) ∧ H2 D = some (.lst (us.map oV)) ∧ WInv L us L.length, ?_, ?_⟩
    · refine ⟨_, rfl, 1, n, rfl, ⟨by decide, by decide, by omega, by omega⟩, for_range (lo := 1) (n := (n - 1).toNat) (fun i σ' H2 => ∃ (y4 y6 y7 : Option V) (us : List (Option Int)), σ' = [some (.ref t), some (.int n), some (.int sh), some (.ref L0), y4, some (.ref D), y6, y7] ∧ Kt t H H2 ∧ Tray K H2 t sc ns (b + 10 + 2 * i) ∧ H2 D = some (.lst (us.map oV)) ∧ H2 L0 = some (.lst (L.map V.int)) ∧ WInv L us (1 + i))
        ⟨_, none, none, _, rfl, k45, T5.le (by omega), hD, hL5, W0⟩ (fun i σ' H2 hi h => ?_) (fun σ' H2 h => ?_)⟩
      · obtain ⟨y4, y6, y7, us, rfl, k6, T6, hD6, hL6, W6⟩ := h
        refine ⟨_, rfl, _, rfl, t, sc, 1 + (i : Int), ns, b + 10 + 2 * i, rfl, T6, by omega, by omega, by omega, fun e1 H7 e10 e11 k7 T7 => ?_⟩
        refine ⟨_, rfl, _, _, rfl, rfl, ?_⟩
        refine ⟨_, rfl, _, rfl, t, sc, 1 + (i : Int), ns, b + 10 + 2 * i + 1, rfl, T7, by omega, by omega, by omega, fun e2 H8 e20 e21 k8 T8 => ?_⟩
        have k68 := (k6.trans k7).trans k8
        have hD8 := k8.oth D _ (k7.oth D _ hD6 hDt (fun _ z => by cases z)) hDt (fun _ z => by cases z)
        have hL8 := k8.oth L0 _ (k7.oth L0 _ hL6 hLt (fun _ z => by cases z)) hLt (fun _ z => by cases z)
        refine ⟨by show 4 ≤ sizeLine; decide, fun l nl => ?_⟩
        have k9 : K0 H8 (upd H8 l (.lst [.int e1, .int (1 + (i : Int) - 1), .int 0, .int e2])) := K0.new nl
        have hD9 := k9.oth D _ hD8 (fun _ z => by cases z)
        have hL9 := k9.oth L0 _ hL8 (fun _ z => by cases z)
        have T9 := T8.k0 k9
        have k69 := k68.trans k9.kt
        obtain ⟨y, ey, y0, y1⟩ := pick4r (m := 1 + (i : Int)) s0 s1 ⟨e10, e11⟩ (show 0 ≤ 1 + (i : Int) - 1 ∧ 1 + (i : Int) - 1 < 1 + (i : Int) by omega) (show (0 : Int) ≤ 0 ∧ 0 < 1 + (i : Int) by omega) ⟨e20, e21⟩
        refine ⟨_, rfl, l, _, sh, .int y, rfl, rfl, .inl (.inl upd_same), ey, ?_⟩
        obtain ⟨ya, rfl⟩ := Int.eq_ofNat_of_zero_le y0
        have hya : ya < L.length := by omega
        have hk : 1 + i < L.length := by omega
        have ga : L[ya]? = some L[ya] := List.getElem?_eq_getElem hya
        have gk : L[1 + i]? = some L[1 + i] := List.getElem?_eq_getElem hk
        refine ⟨_, rfl, _, rfl, L0, _, _, .int L[ya], rfl, rfl, .inl (.inl hL9), atI_nat (j := ya) (by rw [List.getElem?_map, ga]; rfl), ?_⟩
        refine ⟨_, rfl, _, rfl, _, rfl, L0, _, _, .int L[1 + i], rfl, rfl, .inl (.inl hL9), (by rw [show (1 + (i : Int)) = ((1 + i : Nat) : Int) by omega]; exact atI_nat (by rw [List.getElem?_map, gk]; rfl)), ?_⟩
        have vm := (mem L[1 + i]).mp (List.getElem_mem _)
        have ul : us.length = L.length := W6.len
        refine ⟨D, _, _, _, rfl, rfl, hD9, ixN_at vm.1 (by rw [List.length_map]; omega), ?_⟩
        refine ⟨_, _, _, us.set L[1 + i].toNat (some L[ya]), rfl, k69.mut nDH, (T9.le (by omega)).mut hT k69 nDH, ?_, by rw [upd_ne hLD]; exact hL9, ?_⟩
        · rw [List.map_set]; exact upd_same
        · rw [show 1 + (i + 1) = 1 + i + 1 by omega]
          exact W6.step (by omega) gk (by omega) ga
      · obtain ⟨y4, y6, y7, us, rfl, k6, T6, hD6, hL6, W6⟩ := h
        refine ⟨y4, y6, y7, us, rfl, k6, T6.le (by omega), hD6, ?_⟩
        rw [show L.length = 1 + (n - 1).toNat by omega]
        exact W6
    rintro σ' H9 ⟨y4, y6, y7, us, rfl, k9, T9, hD9, W9⟩
    refine ⟨_, rfl, D, us.map oV, rfl, .inl (.inl hD9), fun p o np oc od => ?_⟩
    have n9 := k9.dom p np
    exact q p us _ (k9.mut n9) ((T9.le (by omega)).mut hT k9 n9) n9 ⟨o, upd_same, oc, od⟩ (W9.ways (by omega) (by omega))
end
end HK

set_option Elab.async false
set_option linter.all false
set_option maxRecDepth 100000
set_option maxHeartbeats 4000000
namespace HK
open PySem PySem.Spec PyProof.Rows L2 GAl GxR
theorem sub_len {l ks : List Int} (nl : l.Nodup) (nk : ks.Nodup) (h : ∀ x ∈ l, x ∈ ks) : l.length ≤ ks.length := by
  have pm : (ks.filter fun x => decide (x ∈ l)).Perm l := (List.perm_ext_iff_of_nodup (List.Nodup.sublist List.filter_sublist nk) nl).mpr fun x => by
    rw [List.mem_filter]
    exact ⟨fun z => of_decide_eq_true z.2, fun z => ⟨h x z, decide_eq_true z⟩⟩
  rw [← pm.length_eq]
  exact List.length_filter_le _ _
/-- the tables of generator expressions -/
def TbL (H : Hp) (l : List Addr) : Prop := ∀ P ∈ l, TabG H P
theorem TbL.kt {t : Addr} {H H' : Hp} {l : List Addr} (h : TbL H l) (k : Kt t H H') : TbL H' l := fun P hP => k.tab P (h P hP)
theorem TbL.k0 {H H' : Hp} {l : List Addr} (h : TbL H l) (k : K0 H H') : TbL H' l := fun P hP => k.tab P (h P hP)
end HK

set_option Elab.async false
set_option linter.all false
set_option maxRecDepth 100000
set_option maxHeartbeats 4000000
namespace HK
open PySem PySem.Spec PyProof.Rows L2 GAl GxR
/-! ### trees as partial functions -/
def stp (g : IF) (v : Int) : Int := (g v).getD v
def clm (g : IF) : Nat → Int → Int
  | 0, v => v
  | n + 1, v => stp g (clm g n v)
theorem stp_none {g : IF} {v : Int} (h : g v = none) : stp g v = v := by unfold stp; rw [h]; rfl
theorem stp_some {g : IF} {v x : Int} (h : g v = some x) : stp g v = x := by unfold stp; rw [h]; rfl
theorem clm_fix {g : IF} {v : Int} {i : Nat} (h : g (clm g i v) = none) : ∀ k, clm g (i + k) v = clm g i v
  | 0 => rfl
  | k + 1 => by
    show stp g (clm g (i + k) v) = _
    rw [clm_fix h k, stp_none h]
theorem clm_root {g : IF} {v root : Int} {i : Nat} (hr : g root = none) (h : clm g i v = root) (k : Nat) : clm g (i + k) v = root := by
  rw [clm_fix (by rw [h]; exact hr), h]
theorem DI.keys {kvs : List (Key × V)} {f : IF} (h : DI kvs f) : ∃ ks : List Int, ks.Nodup ∧ ks.length = kvs.length ∧ (∀ i, i ∈ ks ↔ (f i).isSome = true) ∧ kvs.map (·.1) = ks.map Sum.inl := by
  have aux : ∀ {l : List (Key × V)}, (∀ p ∈ l, ∃ i x : Int, p = (Sum.inl i, V.int x)) → ∃ ks : List Int, l.map (·.1) = ks.map Sum.inl := fun {l} => by
    induction l with
    | nil => exact fun _ => ⟨[], rfl⟩
    | cons p r ih =>
      intro hl
      obtain ⟨ks, e⟩ := ih fun q hq => hl q (List.mem_cons_of_mem _ hq)
      obtain ⟨i, x, rfl⟩ := hl p (List.mem_cons_self ..)
      exact ⟨i :: ks, by rw [List.map_cons, List.map_cons, e]⟩
  obtain ⟨ks, e⟩ := aux h.ks
  have nd := h.nd
  rw [e] at nd
  refine ⟨ks, (List.pairwise_map.mp nd).imp fun hne z => hne (by rw [z]), ?_, fun i => ?_, e⟩
  · have := congrArg List.length e
    rw [List.length_map, List.length_map] at this
    exact this.symm
  · rw [← h.mem i, e, List.mem_map]
    exact ⟨fun z => ⟨i, z, rfl⟩, fun ⟨j, hj, ej⟩ => by cases ej; exact hj⟩
/-- a way to the root takes no more steps than there are keys -/
theorem clm_len {kvs : List (Key × V)} {g : IF} {root v : Int} {m : Nat} (hD : DI kvs g) (hr : g root = none) (h : clm g m v = root) : clm g kvs.length v = root := by
  obtain ⟨ks, nk, lk, mk, _⟩ := hD.keys
  refine Decidable.byContradiction fun hn => ?_
  have absb : ∀ i, i ≤ kvs.length → clm g i v ≠ root := fun i hi z => hn (by
    have := clm_root hr z (kvs.length - i)
    rwa [show i + (kvs.length - i) = kvs.length by omega] at this)
  have lt : kvs.length < m := by
    refine Nat.lt_of_not_le fun z => absb m z h
  have dom : ∀ i, i ≤ kvs.length → (g (clm g i v)).isSome = true := fun i hi => by
    cases e : g (clm g i v) with
    | some x => rfl
    | none =>
      have := clm_fix e (m - i)
      rw [show i + (m - i) = m by omega, h] at this
      exact absurd this.symm (absb i hi)
  by_cases hd : ∀ i j, i < j → j ≤ kvs.length → clm g i v ≠ clm g j v
  · have nl : ((List.range (kvs.length + 1)).map fun i => clm g i v).Nodup := List.pairwise_map.mpr
      (List.Pairwise.imp_of_mem (fun {a b} _ hb lt => hd a b lt (by have := List.mem_range.mp hb; omega)) List.pairwise_lt_range)
    have := sub_len nl nk fun x hx => by
      obtain ⟨i, hi, rfl⟩ := List.mem_map.mp hx
      exact (mk _).mpr (dom i (by have := List.mem_range.mp hi; omega))
    rw [List.length_map, List.length_range] at this
    omega
  · obtain ⟨i, z⟩ := Classical.not_forall.mp hd
    obtain ⟨j, z⟩ := Classical.not_forall.mp z
    obtain ⟨hij, z⟩ := Classical.not_imp.mp z
    obtain ⟨hj, z⟩ := Classical.not_imp.mp z
    have e := Decidable.not_not.mp z
    have per : ∀ t, ∃ s, s ≤ kvs.length ∧ i ≤ s ∧ s < j ∧ clm g (i + t) v = clm g s v := fun t => by
      induction t with
      | zero => exact ⟨i, by omega, Nat.le_refl _, hij, rfl⟩
      | succ t ih =>
        obtain ⟨s, h1, h2, h3, h4⟩ := ih
        have e5 : clm g (i + (t + 1)) v = clm g (s + 1) v := by
          show stp g (clm g (i + t) v) = stp g (clm g s v)
          rw [h4]
        by_cases hs : s + 1 < j
        · exact ⟨s + 1, by omega, by omega, hs, e5⟩
        · exact ⟨i, by omega, Nat.le_refl _, hij, by rw [e5, show s + 1 = j by omega, e]⟩
    obtain ⟨s, h1, _, _, h4⟩ := per (m - i)
    rw [show i + (m - i) = m by omega, h] at h4
    exact absb s h1 h4.symm
/-- going ahead one stays in the tree -/
theorem clm_in {g : IF} {root v : Int} {m : Nat} (hr : g root = none) (h : clm g m v = root) (k : Nat) : clm g k v = root ∨ ∃ x, g (clm g k v) = some x := by
  by_cases hk : clm g k v = root
  · exact .inl hk
  · refine .inr ?_
    cases e : g (clm g k v) with
    | some x => exact ⟨x, rfl⟩
    | none =>
      refine absurd ?_ hk
      by_cases hm : m ≤ k
      · have := clm_root hr h (k - m)
        rwa [show m + (k - m) = k by omega] at this
      · have := clm_fix e (m - k)
        rw [show k + (m - k) = m by omega, h] at this
        exact this.symm
/-! ### the road of a pair -/
def road (rs : List R4) (a b : Int) : Option R4 := rs.find? fun r => decide (r.s = a ∧ r.e = b)
theorem road_some {rs : List R4} {a b : Int} {r : R4} (h : road rs a b = some r) : r ∈ rs ∧ r.s = a ∧ r.e = b := by
  have h2 := List.find?_some h
  exact ⟨List.mem_of_find?_eq_some h, of_decide_eq_true h2⟩
theorem road_none {rs : List R4} {a b : Int} (h : road rs a b = none) : ∀ r ∈ rs, ¬ (r.s = a ∧ r.e = b) := fun r hr z => by
  have := List.find?_eq_none.mp h r hr
  exact this (decide_eq_true z)
theorem lt_uniq {rs : List R4} (up : rs.Pairwise R4.lt) {i j : Nat} {r t : R4} (hi : rs[i]? = some r) (hj : rs[j]? = some t) (e : r.s = t.s ∧ r.e = t.e) : i = j := by
  obtain ⟨li, rfl⟩ := List.getElem?_eq_some_iff.mp hi
  obtain ⟨lj, rfl⟩ := List.getElem?_eq_some_iff.mp hj
  refine Decidable.byContradiction fun ne => ?_
  rcases Nat.lt_or_gt_of_ne ne with l | l
  · have : rs[i].s < rs[j].s ∨ (rs[i].s = rs[j].s ∧ rs[i].e < rs[j].e) := List.pairwise_iff_getElem.mp up i j li lj l
    omega
  · have : rs[j].s < rs[i].s ∨ (rs[j].s = rs[i].s ∧ rs[j].e < rs[i].e) := List.pairwise_iff_getElem.mp up j i lj li l
    omega
theorem road_of {rs : List R4} (up : rs.Pairwise R4.lt) {r : R4} (h : r ∈ rs) : road rs r.s r.e = some r := by
  cases e : road rs r.s r.e with
  | none => exact absurd ⟨rfl, rfl⟩ (road_none e r h)
  | some t =>
    obtain ⟨ht, hs⟩ := road_some e
    obtain ⟨i, hi⟩ := List.getElem?_of_mem ht
    obtain ⟨j, hj⟩ := List.getElem?_of_mem h
    have := lt_uniq up hi hj hs
    subst this
    rw [hi] at hj
    exact hj
theorem road_snoc {rs : List R4} {t : R4} (a b : Int) : road (rs ++ [t]) a b = (road rs a b).or (if t.s = a ∧ t.e = b then some t else none) := by
  unfold road
  rw [List.find?_append]
  congr 1
  by_cases h : t.s = a ∧ t.e = b
  · rw [if_pos h]
    simp [h]
  · rw [if_neg h]
    simp only [List.find?_cons, decide_eq_false h, List.find?_nil]
/-- what a dict makes a tree -/
def TreeP (rs : List R4) (root : Int) (g : IF) (m : Nat) : Prop := g root = none ∧ (∀ v x, g v = some x → (road rs x v).isSome = true) ∧ ∀ v x, g v = some x → clm g m v = root
/-- a dict from pairs to what a road has -/
def TabP (sel : R4 → Int) (rs : List R4) (kvs : List (List Key × V)) : Prop := kvs.length ≤ rs.length ∧ ∀ a b : Int, valV kvs [Sum.inl a, Sum.inl b] = (road rs a b).map fun r => V.int (sel r)
theorem TabP.put {sel : R4 → Int} {rs : List R4} {t : R4} {kvs : List (List Key × V)} (up : (rs ++ [t]).Pairwise R4.lt) (h : TabP sel rs kvs) : TabP sel (rs ++ [t]) (putK kvs [Sum.inl t.s, Sum.inl t.e] (.int (sel t))) := by
  refine ⟨?_, fun a b => ?_⟩
  · have := length_putK kvs [Sum.inl t.s, Sum.inl t.e] (V.int (sel t))
    have := h.1
    rw [List.length_append, List.length_singleton]
    omega
  · rw [valV_put, road_snoc]
    by_cases e : t.s = a ∧ t.e = b
    · obtain ⟨rfl, rfl⟩ := e
      have hno : road rs t.s t.e = none := by
        cases e : road rs t.s t.e with
        | none => rfl
        | some r =>
          obtain ⟨hr, hs⟩ := road_some e
          obtain ⟨i, hi⟩ := List.getElem?_of_mem hr
          have hlt : i < rs.length := (List.getElem?_eq_some_iff.mp hi).1
          have := lt_uniq up (i := i) (j := rs.length) (by rw [List.getElem?_append_left hlt]; exact hi) (by rw [List.getElem?_append_right (Nat.le_refl _)]; simp) hs
          omega
      rw [if_pos rfl, hno, if_pos ⟨rfl, rfl⟩]
      rfl
    · rw [if_neg (fun z => e (by simp at z; exact ⟨z.1.symm, z.2.symm⟩)), if_neg e, h.2]
      cases road rs a b <;> rfl
end HK

set_option Elab.async false
set_option linter.all false
set_option maxRecDepth 100000
set_option maxHeartbeats 4000000
namespace HK
open PySem PySem.Spec PyProof.Rows L2 GAl GxR
abbrev rLen (K : PySem.W.Frag) : List V → Hp → VK → Prop := fun xs H Q => ∃ p ys, xs = [.ref p] ∧ (SqL K H p ys ∨ SqT K H p ys) ∧ Q (.int ys.length) H
theorem clm_sh (g : IF) (v : Int) : ∀ m, clm g (m + 1) v = clm g m (stp g v)
  | 0 => rfl
  | m + 1 => by
    show stp g (clm g (m + 1) v) = stp g (clm g m (stp g v))
    rw [clm_sh g v m]
theorem Up.clm {g : IF} {v : Int} {l : List Int} (h : Up g v l) : g (clm g (l.length - 1) v) = none ∧ 1 ≤ l.length := by
  induction h with
  | top e => exact ⟨e, Nat.le_refl _⟩
  | @step v u l e h ih =>
    refine ⟨?_, by rw [List.length_cons]; omega⟩
    rw [List.length_cons, show l.length + 1 - 1 = (l.length - 1) + 1 by omega, clm_sh, stp_some e]
    exact ih.1
theorem Up.uniq {g : IF} {v : Int} {l : List Int} (h : Up g v l) : ∀ {l'}, Up g v l' → l = l' := by
  induction h with
  | top e =>
    intro l' h'
    cases h' with
    | top _ => rfl
    | step e' _ => rw [e] at e'; cases e'
  | step e _ ih =>
    intro l' h'
    cases h' with
    | top e' => rw [e] at e'; cases e'
    | step e' h'' =>
      rw [e] at e'
      cases e'
      rw [ih h'']
theorem Up.at_ {g : IF} {v : Int} {l : List Int} (h : Up g v l) : ∀ u ∈ l, ∃ t, Up g u t ∧ t.length ≤ l.length := by
  induction h with
  | top e =>
    intro u hu
    rw [List.mem_singleton.mp hu]
    exact ⟨_, .top e, Nat.le_refl _⟩
  | @step v u l e h ih =>
    intro w hw
    rcases List.mem_cons.mp hw with rfl | hw
    · exact ⟨_, .step e h, Nat.le_refl _⟩
    · obtain ⟨t, ht, hl⟩ := ih w hw
      exact ⟨t, ht, by rw [List.length_cons]; omega⟩
theorem Up.nodup {g : IF} {v : Int} {l : List Int} (h : Up g v l) : l.Nodup := by
  induction h with
  | top e => exact List.pairwise_singleton ..
  | @step v u l e h ih =>
    refine List.nodup_cons.mpr ⟨fun hm => ?_, ih⟩
    obtain ⟨t, ht, hl⟩ := h.at_ v hm
    have := (Up.step e h).uniq ht
    rw [← this, List.length_cons] at hl
    omega
theorem upF_rng {us : List (Option Int)} (hW : Ways us) {v u : Int} (e : upF us v = some u) : 0 ≤ u ∧ u < us.length := by
  unfold upF at e
  by_cases h : 0 ≤ v
  · rw [if_pos h] at e
    have : some u ∈ us := by
      rw [List.getD_eq_getElem?_getD] at e
      cases e2 : us[v.toNat]? with
      | none => rw [e2] at e; cases e
      | some x =>
        rw [e2] at e
        have e : x = some u := e
        rw [← e]
        exact List.mem_of_getElem? e2
    exact hW.rng u this
  · rw [if_neg h] at e; cases e
theorem Up.rng {us : List (Option Int)} (hW : Ways us) {v : Int} {l : List Int} (h : Up (upF us) v l) (v0 : 0 ≤ v) (v1 : v < us.length) : ∀ u ∈ l, 0 ≤ u ∧ u < us.length := by
  induction h with
  | top e => intro u hu; rw [List.mem_singleton.mp hu]; exact ⟨v0, v1⟩
  | @step v u l e h ih =>
    intro x hx
    have := upF_rng hW e
    rcases List.mem_cons.mp hx with rfl | hx
    · exact ⟨v0, v1⟩
    · exact ih this.1 this.2 x hx
theorem Up.len {us : List (Option Int)} (hW : Ways us) {v : Int} {l : List Int} (h : Up (upF us) v l) (v0 : 0 ≤ v) (v1 : v < us.length) : l.length ≤ us.length := by
  have := sub_len (ks := (List.range us.length).map fun (i : Nat) => (i : Int)) h.nodup (List.pairwise_map.mpr (List.pairwise_lt_range.imp fun a z => by omega)) fun x hx => by
    obtain ⟨h0, h1⟩ := h.rng hW v0 v1 x hx
    exact List.mem_map.mpr ⟨x.toNat, List.mem_range.mpr (by omega), by omega⟩
  simpa using this
theorem clm_rng {us : List (Option Int)} (hW : Ways us) {v : Int} (v0 : 0 ≤ v) (v1 : v < us.length) : ∀ k, 0 ≤ clm (upF us) k v ∧ clm (upF us) k v < us.length
  | 0 => ⟨v0, v1⟩
  | k + 1 => by
    show 0 ≤ stp (upF us) (clm (upF us) k v) ∧ stp (upF us) (clm (upF us) k v) < us.length
    cases e : upF us (clm (upF us) k v) with
    | none => rw [stp_none e]; exact clm_rng hW v0 v1 k
    | some u => rw [stp_some e]; exact upF_rng hW e
theorem clm_top {us : List (Option Int)} (hW : Ways us) {v : Int} (v0 : 0 ≤ v) (v1 : v < us.length) : upF us (clm (upF us) us.length v) = none := by
  obtain ⟨l, hl⟩ := hW.ends v v0 v1
  obtain ⟨h1, h2⟩ := hl.clm
  have := hl.len hW v0 v1
  have e := clm_fix h1 (us.length - (l.length - 1))
  rw [show l.length - 1 + (us.length - (l.length - 1)) = us.length by omega] at e
  rw [e]
  exact h1
theorem Ways.roots {us : List (Option Int)} (h : Ways us) : (us.filter Option.isNone).length = 1 := by
  obtain ⟨r, hr, hone⟩ := h.one
  obtain ⟨hrl, er⟩ := List.getElem?_eq_some_iff.mp hr
  have e : us = us.take r ++ us[r] :: us.drop (r + 1) := by rw [List.getElem_cons_drop, List.take_append_drop]
  have h1 : (us.take r).filter Option.isNone = [] := List.filter_eq_nil_iff.mpr fun x hx z => by
    obtain ⟨j, hj, ej⟩ := List.mem_iff_getElem.mp hx
    rw [List.getElem_take] at ej
    rw [List.length_take] at hj
    cases x with
    | some u => cases z
    | none =>
      have := hone j (by rw [List.getElem?_eq_getElem (by omega), ej])
      omega
  have h2 : (us.drop (r + 1)).filter Option.isNone = [] := List.filter_eq_nil_iff.mpr fun x hx z => by
    obtain ⟨j, hj, ej⟩ := List.mem_iff_getElem.mp hx
    rw [List.getElem_drop] at ej
    rw [List.length_drop] at hj
    cases x with
    | some u => cases z
    | none =>
      have := hone (r + 1 + j) (by rw [List.getElem?_eq_getElem (by omega), ej])
      omega
  rw [e, List.filter_append, h1, List.filter_cons, er]
  show ([] ++ (none :: List.filter Option.isNone (us.drop (r + 1)))).length = 1
  rw [h2]
  rfl
def oD : Option Int → PyData
  | none => .none
  | some i => .int i
end HK

set_option Elab.async false
set_option linter.all false
set_option maxRecDepth 100000
set_option maxHeartbeats 4000000
namespace HK
open PySem PySem.Spec PyProof.Rows L2 GAl GxR
open Evl (pss_cut)
abbrev sLeadsG : Stmt := topS 53
abbrev N_scLeadsG : List Str := ["up", "place", "step"]
theorem scLeadsG : FnScope N_scLeadsG ["up", "place"] (defScope sLeadsG) := ⟨rfl, rfl, rfl, by decide +kernel, rfl, by decide +kernel, by decide +kernel⟩
abbrev sAreWaysG : Stmt := topS 52
abbrev N_scAreWaysG : List Str := ["thing", "place", "entry"]
theorem scAreWaysG : FnScope N_scAreWaysG ["thing"] (defScope sAreWaysG) := ⟨rfl, rfl, rfl, by decide +kernel, rfl, by decide +kernel, by decide +kernel⟩
abbrev sNeedWaysG : Stmt := topS 54
abbrev N_scNeedWaysG : List Str := ["up"]
theorem scNeedWaysG : FnScope N_scNeedWaysG ["up"] (defScope sNeedWaysG) := ⟨rfl, rfl, rfl, by decide +kernel, rfl, by decide +kernel, by decide +kernel⟩
/-! ### ways up, of plain data -/
def isNoneD : PyData → Bool
  | .none => true
  | _ => false
theorem dp_none {K : PySem.W.Frag} {H : Hp} {x : V} {d : PyData} (h : Dp K H x d) : decide (x = V.non) = isNoneD d := by
  cases h with
  | non => rfl
  | bl => rfl
  | int => rfl
  | str => rfl
  | lst => rfl
  | tup => rfl
def entD (n : Nat) (d : PyData) : Bool := isNoneD d || withinD d 0 ((n : Int) - 1)
def usD (ds : List PyData) : List (Option Int) := ds.map fun d => match d with
  | .int i => some i
  | _ => none
def leadB (us : List (Option Int)) (v : Int) : Bool := (upF us (clm (upF us) us.length v)).isNone
def isWaysD : PyData → Bool
  | .tuple ds => (decide (1 ≤ ds.length) && decide (ds.length ≤ 8)) && (ds.all (entD ds.length) && (decide (((usD ds).filter Option.isNone).length = 1) && (List.range ds.length).all fun (i : Nat) => leadB (usD ds) (i : Int)))
  | _ => false
structure Rng (us : List (Option Int)) : Prop where
  n8 : us.length ≤ 8
  rng : ∀ v : Int, some v ∈ us → 0 ≤ v ∧ v < us.length
theorem Ways.toRng {us : List (Option Int)} (h : Ways us) : Rng us := ⟨h.n8, h.rng⟩
theorem upF_rngG {us : List (Option Int)} (hW : Rng us) {v u : Int} (e : upF us v = some u) : 0 ≤ u ∧ u < us.length := by
  unfold upF at e
  by_cases h : 0 ≤ v
  · rw [if_pos h, List.getD_eq_getElem?_getD] at e
    refine hW.rng u ?_
    cases e2 : us[v.toNat]? with
    | none => rw [e2] at e; cases e
    | some x =>
      rw [e2] at e
      obtain rfl : x = some u := e
      exact List.mem_of_getElem? e2
  · rw [if_neg h] at e; cases e
theorem clm_rngG {us : List (Option Int)} (hW : Rng us) {v : Int} (v0 : 0 ≤ v) (v1 : v < us.length) : ∀ k, 0 ≤ clm (upF us) k v ∧ clm (upF us) k v < us.length
  | 0 => ⟨v0, v1⟩
  | k + 1 => by
    show 0 ≤ stp (upF us) (clm (upF us) k v) ∧ stp (upF us) (clm (upF us) k v) < us.length
    cases e : upF us (clm (upF us) k v) with
    | none => rw [stp_none e]; exact clm_rngG hW v0 v1 k
    | some u => rw [stp_some e]; exact upF_rngG hW e
theorem usD_oD : ∀ us : List (Option Int), usD (us.map oD) = us
  | [] => rfl
  | none :: r => by show none :: usD (r.map oD) = _; rw [usD_oD r]
  | some i :: r => by show some i :: usD (r.map oD) = _; rw [usD_oD r]
theorem ent_oD {n : Nat} {d : PyData} (h : entD n d = true) : ∃ o : Option Int, d = oD o ∧ ∀ v, o = some v → 0 ≤ v ∧ v < n := by
  cases d with
  | none => exact ⟨none, rfl, fun v z => by cases z⟩
  | int i =>
    have h : (decide (0 ≤ i) && decide (i ≤ (n : Int) - 1)) = true := h
    rw [Bool.and_eq_true, decide_eq_true_iff, decide_eq_true_iff] at h
    exact ⟨some i, rfl, fun v z => by cases z; omega⟩
  | bool b => cases (show false = true from h)
  | str b => cases (show false = true from h)
  | list b => cases (show false = true from h)
  | tuple b => cases (show false = true from h)
  | dict b => cases (show false = true from h)
theorem ents_oD {n : Nat} : ∀ {ds : List PyData}, ds.all (entD n) = true → ∃ us : List (Option Int), ds = us.map oD ∧ ∀ v : Int, some v ∈ us → 0 ≤ v ∧ v < n
  | [], _ => ⟨[], rfl, fun v h => by cases h⟩
  | d :: ds, h => by
    rw [List.all_cons, Bool.and_eq_true] at h
    obtain ⟨o, rfl, ho⟩ := ent_oD h.1
    obtain ⟨us, rfl, hu⟩ := ents_oD h.2
    refine ⟨o :: us, rfl, fun v hv => ?_⟩
    rcases List.mem_cons.mp hv with e | e
    · exact ho v e.symm
    · exact hu v e
theorem dp_oV {K : PySem.W.Frag} {H : Hp} {x : V} {o : Option Int} (h : Dp K H x (oD o)) : x = oV o := by
  cases o with
  | none => cases h; rfl
  | some i => cases h; rfl
theorem dpAll_oV {K : PySem.W.Frag} {H : Hp} : ∀ {us : List (Option Int)} {xs : List V}, DpAll K H xs (us.map oD) → xs = us.map oV
  | [], _, h => by cases h; rfl
  | o :: us, _, h => by
    cases h with
    | cons a b =>
      rw [dp_oV a, dpAll_oV b]
      rfl
theorem oV_dp {K : PySem.W.Frag} {H : Hp} : ∀ us : List (Option Int), DpAll K H (us.map oV) (us.map oD)
  | [] => .nil
  | none :: us => .cons .non (oV_dp us)
  | some i :: us => .cons (.int i) (oV_dp us)
theorem Ways.isD {us : List (Option Int)} (h : Ways us) : isWaysD (.tuple (us.map oD)) = true := by
  show ((decide (1 ≤ (us.map oD).length) && decide ((us.map oD).length ≤ 8)) && ((us.map oD).all (entD (us.map oD).length) && (decide (((usD (us.map oD)).filter Option.isNone).length = 1) && (List.range (us.map oD).length).all fun (i : Nat) => leadB (usD (us.map oD)) (i : Int)))) = true
  rw [usD_oD, List.length_map]
  rw [Bool.and_eq_true, Bool.and_eq_true, Bool.and_eq_true, Bool.and_eq_true, decide_eq_true_iff, decide_eq_true_iff, decide_eq_true_iff]
  refine ⟨⟨h.n1, h.n8⟩, ?_, h.roots, ?_⟩
  · rw [List.all_eq_true]
    intro d hd
    obtain ⟨o, ho, rfl⟩ := List.mem_map.mp hd
    cases o with
    | none => rfl
    | some v =>
      obtain ⟨v0, v1⟩ := h.rng v ho
      show (decide (0 ≤ v) && decide (v ≤ (us.length : Int) - 1)) = true
      rw [decide_eq_true v0, decide_eq_true (by omega)]
      rfl
  · rw [List.all_eq_true]
    intro i hi
    have := List.mem_range.mp hi
    unfold leadB
    rw [clm_top h (by omega) (by omega)]
    rfl
def WaysAns (K : PySem.W.Frag) (H : Hp) (v : V) (b : Bool) : Prop := (∃ d, Dp K H v d ∧ b = isWaysD d) ∨ (∃ T, T ∈ tys ∧ TyX K H v (.type T) ∧ (T == "tuple") = false ∧ b = false)
theorem WaysAt.ans {K : PySem.W.Frag} {H : Hp} {p : Addr} {us : List (Option Int)} (h : WaysAt H p us) (hW : Ways us) : WaysAns K H (.ref p) true := .inl ⟨.tuple (us.map oD), .tup h.sq (oV_dp us), hW.isD.symm⟩
section
variable {P : Program} {w : World} {K : PySem.W.Frag} {mg : Str → Option Value} {base : Heap}
def spLeadsG (K : PySem.W.Frag) : Sp := fun vs H Q _ => ∃ (p : Addr) (us : List (Option Int)) (v : Int), vs = [.ref p, .int v] ∧ SqT K H p (us.map oV) ∧ Rng us ∧ 0 ≤ v ∧ v < us.length ∧ Q (.bl (leadB us v)) H
theorem ok_leadsG {f : Addr} {fd : FuncData} (F : Fun K "leads_up" "leads_up" sLeadsG f fd) (m_range : mg "range" = none) (m_len : mg "len" = none) : FnOk P w K mg base CX0 1 f fd ["up", "place"] (spLeadsG K) := by
  refine F.ok scLeadsG (fun vs H Q E h => ?_) (fun cdv A outer s H vs Q E hr h => ?_)
  · obtain ⟨a, us, v, rfl, _⟩ := h
    rfl
  · obtain ⟨p, us, v, rfl, hp, hW, v0, v1, q⟩ := h
    have hu := hu_of hr
    refine ⟨_, (pss_cons (ps_for PassesOwn.never rfl (pi_range1 (by rfl) m_range (pa_cons (pe_callB call_len_seq (by rfl) m_len PySem.boot_len (pa_cons (pv 0) pa_nil)) pa_nil)) (pg_name (i := 2) scLeadsG.nd rfl (.inl rfl))
      (pss_one (ps_if (pt_cmp (pc_notN (pe_ix ix_tup (pv 0) (pv 1) (fun _ _ => rfl)))) (pss_one (ps_set (i := 1) scLeadsG.nd rfl (.inl rfl) (pe_ix ix_tup (pv 0) (pv 1) (fun _ _ => rfl)))) pss_nil)))
      (pss_one (ps_ret (pe_cmp (pc_isN (pe_ix ix_tup (pv 0) (pv 1) (fun _ _ => rfl))))))), ?_⟩
    have n8 := hW.n8
    refine ⟨_, rfl, p, _, rfl, .inr hp, _, rfl, by rw [List.length_map]; omega, by rw [List.length_map]; omega, for_range (lo := 0) (n := (us.map oV).length) (fun i σ' H' => ∃ y2, σ' = [some (.ref p), some (.int (clm (upF us) i v)), y2] ∧ H' = H)
      ⟨none, rfl, rfl⟩ (fun i σ' H' hi h => ?_) (fun σ' H' h => ?_)⟩
    · obtain ⟨y2, rfl, rfl⟩ := h
      obtain ⟨c0, c1⟩ := clm_rngG hW v0 v1 i
      refine ⟨_, rfl, _, rfl, p, _, _, _, rfl, rfl, hp, up_at c0 c1, ?_⟩
      cases e : upF us (clm (upF us) i v) with
      | none =>
        refine ⟨_, rfl, iteF ⟨some (.int (0 + (i : Int))), ?_, rfl⟩⟩
        rw [show clm (upF us) (i + 1) v = clm (upF us) i v from stp_none e]
        rfl
      | some u =>
        refine ⟨_, rfl, iteT ⟨_, rfl, _, rfl, p, _, _, _, rfl, rfl, hp, up_at c0 c1, ?_⟩⟩
        rw [e]
        refine ⟨some (.int (0 + (i : Int))), ?_, rfl⟩
        rw [show clm (upF us) (i + 1) v = u from stp_some e]
        rfl
    · obtain ⟨y2, rfl, rfl⟩ := h
      rw [List.length_map]
      obtain ⟨c0, c1⟩ := clm_rngG hW v0 v1 us.length
      refine ⟨_, rfl, _, rfl, p, _, _, _, rfl, rfl, hp, up_at c0 c1, ?_⟩
      refine qeq q ?_
      unfold leadB
      cases upF us (clm (upF us) us.length v) <;> rfl
def spAreWaysG (K : PySem.W.Frag) (Pw : Addr) : Sp := fun vs H Q _ => ∃ (v : V) (b : Bool), vs = [v] ∧ WaysAns K H v b ∧ TabG H Pw ∧ ∀ H', K0 H H' → Q (.bl b) H'
set_option maxHeartbeats 16000000 in
theorem ok_areWaysG {f c Pw : Addr} {fd : FuncData} {t8 : Tok} {f_within f_leadsup : Addr} {fd_within fd_leadsup : FuncData} (F : FunC K "are_ways" "are_ways" sAreWaysG f fd c) (TB : TabB base mg c Pw) (k_within : PySem.W.keepIn K (.ref f_within) = true) (b_within : Binds K fd_within ["thing", "least", "greatest"] []) (g_within : mg "is_within" = some (.ref f_within)) (G_within : FnOk P w K mg base CX0 2 f_within fd_within ["thing", "least", "greatest"] (spWithin K))
    (k_leadsup : PySem.W.keepIn K (.ref f_leadsup) = true) (b_leadsup : Binds K fd_leadsup ["up", "place"] []) (g_leadsup : mg "leads_up" = some (.ref f_leadsup)) (G_leadsup : FnOk P w K mg base CX0 1 f_leadsup fd_leadsup ["up", "place"] (spLeadsG K))
    (m_isinstance : mg "isinstance" = none) (m_tuple : mg "tuple" = none) (m_len : mg "len" = none) (m_all : mg "all" = none) (m_range : mg "range" = none) (c_MOST_ENTRIES : mg "MOST_ENTRIES" = some (.int 8 t8)) : FnOk P w K mg base CX0 4 f fd ["thing"] (spAreWaysG K Pw) := by
  refine F.ok scAreWaysG (fun vs H Q E h => ?_) (fun A outer s H vs Q E hr h => ?_)
  · obtain ⟨a, b, rfl, _⟩ := h
    rfl
  · obtain ⟨v, b, rfl, hA, tw, q⟩ := h
    have hu := hu_of hr
    refine ⟨_, (pss_cons (ps_if (pt_not (PW.pt (pw_and (pt_val (pe_callB call_isi (by rfl) m_isinstance boot_isinstance (pa_cons (pv 0) (pa_cons (pe_bltn (v := .ty "tuple") (by rfl) m_tuple (by decide +kernel) rfl) pa_nil)))) (pw_and1 (pt_chain op_le op_le pe_int (pe_callB call_len_seq (by rfl) m_len PySem.boot_len (pa_cons (pv 0) pa_nil)) (pe_glob (v := .int 8) (by rfl) c_MOST_ENTRIES ⟨_, rfl⟩)))))) (pss_one (ps_ret pe_bl)) pss_nil)
      (pss_cons (ps_if (pt_not (pt_val (pe_allG (own := [("entry", 2)]) (k := 2) (g := (gName 2)) (tt := tYes) (te := (tOrV (tIsN (tVar 2)) (tCall (spWithin K) [] E0 (tCons (tVar 2) (tCons (tC (.int 0)) (tCons (tOp (rI0 fun i j => .int (i - j)) (tCB (rLen K) (tCons (tVar 0) tNil)) (tC (.int 1))) tNil)))))) (hr.mono (by decide)) (by rfl) m_all rfl scAreWaysG.nd TB rfl (gsc_by (N := N_scAreWaysG) (sc := defScope sAreWaysG) (by decide +kernel)) (pi_tup (pv 0)) (fun A' hr' _ _ _ _ _ _ => (pg_name (i := 2) scAreWaysG.nd rfl (.inl rfl))) (fun A' hr' _ _ _ _ _ _ => pts_nil) (fun A' hr' _ _ _ _ _ _ => (pe_or (pe_cmp (pc_isN (pv 2))) (pe_one (pe_call G_within (hr'.mono (by decide)) (by rfl) g_within k_within b_within .nil pass0 (pa_cons (pv 2) (pa_cons pe_int (pa_cons (pe_op op_sub (pe_callB call_len_seq (by rfl) m_len PySem.boot_len (pa_cons (pv 0) pa_nil)) pe_int) pa_nil)))))))))) (pss_one (ps_ret pe_bl)) pss_nil)
      (pss_cons (ps_if (pt_cmpR op_ne (pe_callB call_len_seq (by rfl) m_len PySem.boot_len (pa_cons (pe_lc (own := [("entry", 2)]) (g := (gName 2)) (tt := (tB (tIsN (tVar 2)))) (te := (tVar 2)) rfl scAreWaysG.nd (pi_tup (pv 0)) (blkOk_by (N := N_scAreWaysG) (sc := defScope sAreWaysG) (by decide +kernel)) (fun _ _ _ _ _ => (pg_name (i := 2) scAreWaysG.nd rfl (.inl rfl))) (fun _ _ _ _ _ => (pts_one (pt_cmp (pc_isN (pv 2))))) (fun _ _ _ _ _ => (pv 2))) pa_nil)) pe_int (nomark _)) (pss_one (ps_ret pe_bl)) pss_nil)
      (pss_one (ps_ret (pe_allG (own := [("place", 1)]) (k := 2) (g := (gName 1)) (tt := tYes) (te := (tCall (spLeadsG K) [] E0 (tCons (tVar 0) (tCons (tVar 1) tNil)))) (hr.mono (by decide)) (by rfl) m_all rfl scAreWaysG.nd TB rfl (gsc_by (N := N_scAreWaysG) (sc := defScope sAreWaysG) (by decide +kernel)) (pi_range1 (by rfl) m_range (pa_cons (pe_callB call_len_seq (by rfl) m_len PySem.boot_len (pa_cons (pv 0) pa_nil)) pa_nil)) (fun A' hr' _ _ _ _ _ _ => (pg_name (i := 1) scAreWaysG.nd rfl (.inl rfl))) (fun A' hr' _ _ _ _ _ _ => pts_nil) (fun A' hr' _ _ _ _ _ _ => (pe_call G_leadsup (hr'.mono (by decide)) (by rfl) g_leadsup k_leadsup b_leadsup .nil pass0 (pa_cons (pv 0) (pa_cons (pv 1) pa_nil)))))))))), ?_⟩
    rcases hA with ⟨d, hd, rfl⟩ | ⟨T, hT, hty, hne, rfl⟩
    · refine ⟨v, rfl, v, .ty "tuple", _, _, _, rfl, .ty "tuple", dp_ty hd, kit_ty (tys_tuple (tyD_mem d)), _, rfl, ite2 (fun e => ?_) (fun e => ?_)⟩
      · obtain ⟨ds, rfl⟩ : ∃ ds, d = .tuple ds := by cases d <;> first | exact ⟨_, rfl⟩ | (simp [tyD] at e)
        obtain ⟨p, xs, rfl, hS, hall⟩ := dp_tup hd
        have hln : xs.length = ds.length := dpAll_len hall
        have hsh : isWaysD (.tuple ds) = ((decide (1 ≤ ds.length) && decide (ds.length ≤ 8)) && (ds.all (entD ds.length) && (decide (((usD ds).filter Option.isNone).length = 1) && (List.range ds.length).all fun (i : Nat) => leadB (usD ds) (i : Int)))) := rfl
        rw [hsh] at q
        refine ⟨_, rfl, p, _, rfl, .inr hS, 1, _, rfl, rfl, _, rfl, ?_⟩
        by_cases h1 : 1 ≤ ds.length
        · rw [decide_eq_true (show (1 : Int) ≤ xs.length by omega)]
          refine iteT ⟨_, 8, rfl, rfl, _, rfl, ?_⟩
          by_cases h8 : ds.length ≤ 8
          · rw [decide_eq_true (show (xs.length : Int) ≤ 8 by omega)]
            rw [decide_eq_true h1, decide_eq_true h8, Bool.true_and, Bool.true_and] at q
            refine iteF ?_
            -- each entry
            refine ⟨_, rfl, p, rfl, ⟨_, hS⟩, tw, fun H2 hT2 => ?_⟩
            have k2 : K0 H H2 := K0.tbd tw hT2
            refine ⟨fun i m H3 => i + m = xs.length ∧ K0 H H3 ∧ ∀ (j : Nat) (d : PyData), j < i → ds[j]? = some d → entD ds.length d = true, ⟨xs.length, by omega, k2, fun j _ hj => absurd hj (Nat.not_lt_zero _)⟩, fun i m H3 hWi => ?_⟩
            obtain ⟨em, k3, hlt⟩ := hWi
            have hA : SqT K H3 p xs := k3.sqT hS
            by_cases hi : i < xs.length
            · have g1 : xs[i]? = some xs[i] := List.getElem?_eq_getElem hi
              obtain ⟨di, hdi, hDi⟩ := dpAll_get hall g1
              refine .inr ⟨⟨_, _, hA, g1⟩, fun H' => K0 H H' ∧ entD ds.length di = true, fun H' hN => ?_, fun x H' hy => ?_⟩
              · obtain ⟨k', hb'⟩ := hN
                refine ⟨m - 1, by omega, by omega, k', fun j d hj hd => ?_⟩
                by_cases e : j = i
                · subst e
                  rw [hdi] at hd; cases hd; exact hb'
                · exact hlt j d (by omega) hd
              · obtain ⟨rfl, fx⟩ := hy
                have ex : x = xs[i] := Option.some.inj ((fx _ hA).symm.trans g1)
                subst ex
                refine ⟨rfl, tyes ?_⟩
                refine ⟨_, rfl, _, rfl, ?_⟩
                rw [dp_none hDi]
                cases hn : isNoneD di with
                | true =>
                  have he : entD ds.length di = true := by unfold entD; rw [hn]; rfl
                  exact iteT ⟨_, rfl, iteT ⟨k3, he⟩⟩
                | false =>
                  refine iteF ⟨_, rfl, _, rfl, p, _, rfl, .inr hA, _, _, rfl, rfl, _, di, 0, _, rfl, K0.dp k3 di _ hDi, _, rfl, ?_⟩
                  have he : entD ds.length di = withinD di 0 ((xs.length : Int) - 1) := by unfold entD; rw [hn, hln]; rfl
                  rw [← he]
                  cases hb : entD ds.length di with
                  | true => exact iteT ⟨k3, rfl⟩
                  | false => exact iteF ⟨_, rfl, iteT (qeq (q _ k3) (by rw [all_no hdi hb, Bool.false_and]))⟩
            · refine .inl ⟨⟨_, hA, by omega⟩, _, rfl, iteF ?_⟩
              have hat : ds.all (entD ds.length) = true := all_yes fun j d hd => hlt j d (by
                have := (List.getElem?_eq_some_iff.mp hd).1
                omega) hd
              rw [hat, Bool.true_and] at q
              obtain ⟨us, eus, hrng⟩ := ents_oD hat
              subst eus
              obtain rfl := dpAll_oV hall
              rw [usD_oD] at q
              rw [List.length_map] at hrng h1 h8 hln q
              have hW : Rng us := ⟨h8, hrng⟩
              -- one root
              refine ⟨_, rfl, p, rfl, ⟨_, hA⟩, fun D nD => ?_⟩
              refine lc_tup (K := K) (a := p) (xs := us.map oV) (fun i H2 => K0 H3 H2 ∧ H2 D = some (.lst (((us.take i).filter Option.isNone).map oV))) ⟨K0.new nD, by rw [List.take_zero]; exact upd_same⟩ (fun i H2 _ h => h.1.sqT hA) (fun i x H2 hx h => ?_) (fun H2 h => ?_)
              · obtain ⟨k, hl2⟩ := h
                rw [List.getElem?_map] at hx
                cases ev : us[i]? with
                | none => rw [ev] at hx; cases hx
                | some v =>
                rw [ev] at hx
                cases hx
                have hi : i < us.length := (List.getElem?_eq_some_iff.mp ev).1
                rw [List.take_add_one, ev]
                cases v with
                | none =>
                  refine ⟨rfl, _, rfl, _, rfl, iteT ⟨_, rfl, _, hl2, Nat.lt_of_le_of_lt (m := 5000) (by
                    rw [List.length_map]
                    have := List.length_filter_le Option.isNone (us.take i)
                    have := List.length_take_le i us
                    omega) (by decide), k.mut nD, ?_⟩⟩
                  rw [List.filter_append, List.map_append]
                  exact upd_same
                | some u =>
                  refine ⟨rfl, _, rfl, _, rfl, iteF ⟨k, ?_⟩⟩
                  rw [List.filter_append]
                  show _ = some (HO.lst ((List.filter Option.isNone (us.take i) ++ []).map oV))
                  rw [List.append_nil]
                  exact hl2
              obtain ⟨k, hl2⟩ := h
              rw [List.length_map, List.take_of_length_le (Nat.le_refl _)] at hl2
              have k13 := k3.trans k
              refine ⟨D, _, rfl, .inl (.inl (.inl hl2)), rfl, _, rfl, ?_⟩
              rw [List.length_map]
              by_cases hone : (us.filter Option.isNone).length = 1
              · rw [decide_eq_true hone, Bool.true_and] at q
                rw [decide_eq_true (show V.int ((us.filter Option.isNone).length : Int) = V.int 1 by rw [hone]; rfl)]
                refine iteF ?_
                -- each way ends
                have hA2 := k13.sqT hS
                have tw2 := k13.tab _ tw
                have hlm : (us.map oV).length = us.length := List.length_map ..
                refine ⟨_, rfl, p, _, rfl, .inr hA2, _, rfl, by rw [hlm]; omega, by rw [hlm]; omega, tw2, fun H4 hT4 => ?_⟩
                have k4 := k13.trans (K0.tbd tw2 hT4)
                refine ⟨fun i m H5 => i + m = us.length ∧ K0 H H5 ∧ ∀ j : Nat, j < i → leadB us (j : Int) = true, ⟨us.length, by omega, k4, fun j hj => absurd hj (Nat.not_lt_zero _)⟩, fun i m H5 hWi => ?_⟩
                obtain ⟨em, k5, hle⟩ := hWi
                by_cases hi : i < us.length
                · refine .inr ⟨(show i < ((us.map oV).length : Int).toNat by rw [hlm]; omega), fun H' => K0 H H' ∧ leadB us (i : Int) = true, fun H' hN => ⟨m - 1, by omega, by omega, hN.1, fun j hj => ?_⟩, fun x H' hy => ?_⟩
                  · by_cases e : j = i
                    · subst e; exact hN.2
                    · exact hle j (by omega)
                  · obtain ⟨rfl, rfl⟩ := hy
                    refine ⟨rfl, tyes ⟨_, rfl, _, rfl, p, us, 0 + (i : Int), rfl, k5.sqT hS, hW, by omega, by omega, _, rfl, ?_⟩⟩
                    rw [show (0 : Int) + (i : Int) = (i : Int) by omega]
                    cases hb : leadB us (i : Int) with
                    | true => exact iteT ⟨k5, rfl⟩
                    | false => exact iteF (qeq (q _ k5) (by rw [List.all_eq_false]; exact ⟨i, List.mem_range.mpr hi, by rw [hb]; decide⟩))
                · exact .inl ⟨(show ((us.map oV).length : Int).toNat ≤ i by rw [hlm]; omega), qeq (q _ k5) (by
                    rw [List.all_eq_true]
                    intro j hj
                    have := List.mem_range.mp hj
                    exact hle j (by omega))⟩
              · rw [decide_eq_false (show ¬ V.int ((us.filter Option.isNone).length : Int) = V.int 1 from fun z => hone (by have := V.int.inj z; omega))]
                rw [decide_eq_false hone, Bool.false_and] at q
                exact iteT (q _ k13)
          · rw [decide_eq_false (show ¬ (xs.length : Int) ≤ 8 by omega)]
            rw [decide_eq_false h8, Bool.and_false, Bool.false_and] at q
            exact iteT (q _ (K0.refl _))
        · rw [decide_eq_false (show ¬ (1 : Int) ≤ xs.length by omega)]
          rw [decide_eq_false h1, Bool.false_and, Bool.false_and] at q
          exact iteF ⟨_, rfl, iteT (q _ (K0.refl _))⟩
      · have e' : (tyD d == "tuple") = false := by simpa using e
        have : isWaysD d = false := by cases d <;> first | rfl | (simp [tyD] at e')
        rw [this] at q
        exact iteT (q _ (K0.refl _))
    · refine ⟨v, rfl, v, .ty "tuple", _, _, _, rfl, .ty "tuple", hty, kit_ty (tys_tuple hT), _, rfl, ?_⟩
      rw [hne]
      exact iteF (iteT (q _ (K0.refl _)))
def spNeedWaysG (K : PySem.W.Frag) (Pw : Addr) : Sp := fun vs H Q _ => ∃ (v : V), vs = [v] ∧ WaysAns K H v true ∧ TabG H Pw ∧ ∀ H', K0 H H' → Q .non H'
theorem ok_needWaysG {f Pw : Addr} {fd : FuncData} {f_areways : Addr} {fd_areways : FuncData} (F : Fun K "need_ways" "need_ways" sNeedWaysG f fd) (k_areways : PySem.W.keepIn K (.ref f_areways) = true) (b_areways : Binds K fd_areways ["thing"] []) (g_areways : mg "are_ways" = some (.ref f_areways)) (G_areways : FnOk P w K mg base CX0 4 f_areways fd_areways ["thing"] (spAreWaysG K Pw)) : FnOk P w K mg base CX0 5 f fd ["up"] (spNeedWaysG K Pw) := by
  refine F.ok scNeedWaysG (fun vs H Q E h => ?_) (fun cdv A outer s H vs Q E hr h => ?_)
  · obtain ⟨v, rfl, _⟩ := h
    rfl
  · obtain ⟨v, rfl, hA, tw, q⟩ := h
    refine ⟨_, (pss_one (ps_if (pt_not (pt_val (pe_call G_areways hr (by rfl) g_areways k_areways b_areways .nil pass0 (pa_cons (pv 0) pa_nil)))) pss_never pss_nil)), ?_⟩
    exact ⟨_, rfl, v, true, rfl, hA, tw, fun H' k => ⟨_, rfl, iteF (q H' k)⟩⟩
end
end HK

set_option Elab.async false
set_option linter.all false
set_option maxRecDepth 100000
set_option maxHeartbeats 2000000
namespace HK
open PySem PySem.Spec PyProof.Rows L2 GAl GxR
section
variable {X : Cx}
/-! ### t.index(x), data -/
def rIndexT (K : PySem.W.Frag) : V → List V → Hp → VK → Prop := fun x xs H Q => ∃ (a : Addr) (y : V) (d : PyData) (ds : List PyData) (j : Nat) (z : PyData), x = V.ref a ∧ xs = [y] ∧ Dp K H (V.ref a) (.tuple ds) ∧ Dp K H y d ∧
  SeqAt.shaped (.tuple ds) = true ∧ SeqAt.shaped d = true ∧ ds[j]? = some z ∧ PyData.eqv z d = true ∧ (∀ (m : Nat) (z' : PyData), m < j → ds[m]? = some z' → PyData.eqv z' d = false) ∧ Q (.int (j : Nat)) H
theorem mt_indexT (hu : X.A.units + 65 < cLine) : MtR X "tuple.index" (rIndexT X.K) := by
  intro pins s σ H x xs v us Q I rx rxs h
  obtain ⟨a, y, d, ds, j, z, rfl, rfl, hl, hy, sl, sd, hz, hzj, hno, q⟩ := h
  cases rx
  cases rxs with
  | cons ry rt =>
    rename_i uy ut
    cases rt
    obtain ⟨bs, r1⟩ := Dp.reads I d y uy hy ry
    have hxs : PyData.canLayAll0 ds = true := SeqAt.canLay_of_shaped sl
    have hroom : X.A.units + 1 + min (PyData.depthAll ds) d.depth < cLine := room_in_shaped sd hu
    cases hl with
    | tup hs ha =>
      obtain ⟨its, rv, ⟨⟨cls, dd, data, sls⟩, ho, hc, n, hdt⟩, hlen⟩ := I.tuple hs
      simp only at hc hdt
      subst hc hdt
      obtain ⟨as, h4⟩ := Dp.readsAll I ds _ its ha rv
      have hn : its.length = ds.length := SeqAt.ReadsAll.length ds its as h4
      have hmap : its.map (SeqAt.readOf s.heap) = ds := SeqAt.readsAll_map ds its as hxs h4
      obtain ⟨hjd, _⟩ := List.getElem?_eq_some_iff.mp hz
      have hjl : j < its.length := by omega
      have hj : j < its.toArray.size := by simpa using hjl
      have at_ : ∀ (m : Nat) (hm : m < its.toArray.size) (z' : PyData), ds[m]? = some z' → SeqAt.readOf s.heap its.toArray[m] = z' := by
        intro m hm z' hz'
        have hml : m < its.length := by simpa using hm
        rw [← hmap, List.getElem?_map, List.getElem?_eq_getElem hml] at hz'
        have e1 : SeqAt.readOf s.heap its[m] = z' := Option.some.inj (show some (SeqAt.readOf s.heap its[m]) = some z' from hz')
        simpa using e1
      refine call_meets PySem.F.slot_tuple_index ⟨_, ho, rfl⟩ PySem.F.entry_tuple_index (PySem.F.args_tuple_index_2 _ _)
        (TI.tuple_indexAt a its.toArray n dd sls uy (fun u => PyData.eqv (SeqAt.readOf s.heap u) d) j hj ?_ ?_) ⟨ho, SeqAt.items_eqAt (vs := its.toArray) (show ReadsAll s.heap its.toArray.toList ds as from h4) r1 hxs (SeqAt.canLay_of_shaped sd) hroom, ?_⟩
      · show PyData.eqv (SeqAt.readOf s.heap its.toArray[j]) d = true
        rw [at_ j hj z hz]
        exact hzj
      · intro m hm hmj
        have hmd : m < ds.length := by
          have : m < its.length := by simpa using hm
          omega
        have hz' : ds[m]? = some ds[m] := List.getElem?_eq_getElem hmd
        show PyData.eqv (SeqAt.readOf s.heap its.toArray[m]) d = false
        rw [at_ m hm _ hz']
        exact hno m _ hmj hz'
      · exact ⟨.int (j : Nat), H, I.tok _, ⟨_, rfl⟩, q⟩
end
end HK

set_option Elab.async false
set_option linter.all false
set_option maxRecDepth 100000
set_option maxHeartbeats 2000000
namespace GAl
open PySem PySem.Spec PyProof.Rows L2 GxR
open Sem (wp)
/-! ### generator expressions whose consumer keeps a record S of its own -/

theorem Inv.kallS {X : Cx} {ps : List (Addr × Obj)} {S : Addr} {oS oS' : Obj} {σ : L2.St} {H : Hp} {s s'' : Shared} (I : Inv X (ps ++ [(S, oS)]) σ H s) (hy : S ∈ X.ex ∨ X.s_0.heap.objs.size ≤ S) (hps : ∀ p ∈ X.pn ++ ps, p.1 ≠ S)
    (ho : s''.os = s.os) (hb : AllBare s''.gens) (k : ∀ b o, b ≠ S → s.heap.get? b = some o → s''.heap.get? b = some o) (hS : s''.heap.get? S = some oS') (hd : ∀ v, oS'.data ≠ .cell v) : Inv X (ps ++ [(S, oS')]) σ H s'' := by
  obtain ⟨h1, h2, h3, h4, h5⟩ := I.pin (S, oS) (List.mem_append_right _ (List.mem_append_right _ (List.mem_singleton.mpr rfl)))
  have hcell : ∀ x c, X.env.cells.lookup x = some c → c ≠ S := fun x c e z => by
    obtain ⟨v, o, q, d⟩ := I.cell x c e
    have h1 : s.heap.get? S = some oS := h1
    rw [z, h1] at q
    cases q
    exact h5 _ d
  have I' : Inv X ps σ H s := I.unpinned
  have I1 := I'.turned (it := S) (h' := s''.heap) (t' := s.toks) k h2 h3 hy hcell hps
  have I2 : Inv X ps σ H s'' := Inv.kall I1 ho hb (fun _ _ e => e)
  refine I2.pins_of fun p hp => ?_
  rcases List.mem_append.mp hp with hp | hp
  · exact I2.pin p (List.mem_append_right _ hp)
  · have := List.mem_singleton.mp hp
    subst this
    exact ⟨hS, h2, h3, h4, hd⟩

section
variable {G : Type}
def REndS (XG : Cx) (a : Addr) (oa : Obj) (S : Addr) (Rep : Obj → G → Prop) (σw : L2.St) (Qd : G → Hp → Prop) : Nat → Shared → Shared → Prop := fun _ s₀ s₁ =>
  ∃ γ oS H4, s₀.heap.get? S = some oS ∧ Rep oS γ ∧ Inv XG ([(a, oa)] ++ [(S, oS)]) σw H4 s₁ ∧ Qd γ H4
def YOutS (XG : Cx) (a : Addr) (oa : Obj) (S : Addr) (Rep : Obj → G → Prop) (stp : G → V → Hp → (G → Prop) → Prop) : Protocol := fun _ s₀ v s kap =>
  ∃ γ oS y H4 σ4, s₀.heap.get? S = some oS ∧ Rep oS γ ∧ Inv XG ([(a, oa)] ++ [(S, oS)]) σ4 H4 s ∧ RelV y v ∧
    stp γ y H4 (fun γ' => ∀ (s'' : Shared) (oS' : Obj), s''.os = s.os → AllBare s''.gens → (∀ b o, b ≠ S → s.heap.get? b = some o → s''.heap.get? b = some o) → s''.heap.get? S = some oS' → Rep oS' γ' → (∀ v, oS'.data ≠ .cell v) → kap (.send .none) s'')
/-- what a turn asks -/
def GTurnS (J : It) (g : TG) (tt : TT) (te : TE) (vs : List Nat) (σw : L2.St) (Qd : Nat → G → Hp → Prop) (stp : G → V → Hp → (G → Prop) → Prop) (W : Nat → Nat → G → Hp → Prop) : Prop :=
  ∀ i m γ H, W i m γ H → (J.stop i H ∧ Qd m γ H) ∨ (J.go i H ∧ ∃ Nx : G → Hp → Prop, (∀ γ' H', Nx γ' H' → ∃ m', m' < m ∧ W (i + 1) m' γ' H') ∧ ∀ x H', J.yld i H x H' → g x σw H' fun σ2 H2 => wipe σ2 vs = σw ∧ tt σ2 H2 fun b H3 =>
    if b = true then te σ2 H3 fun y H4 => stp γ y H4 (fun γ' => Nx γ' H4) else Nx γ H3)
/-- one turn of the last clause -/
@[reducible] def turnOf (tg iter : Expr) (ifs : List Expr) (elt : Expr) (it : Value) (cenv : Env) (c : Code) : Sem Fin := do
  standAt iter.pos
  match ← pyNext it with
  | none => pure (.done .next)
  | some v =>
    letOwnedTupleGo tg it v
    assign tg cenv v
    let mut ok := true
    for c in ifs do
      if ok then ok ← isTrue c cenv (eval c cenv)
    if ok then
      (do let v ← eval elt cenv; standAt elt.pos; let _ ← yieldOut cenv v)
    again c
/-- what the iterator's objects are, whatever stands in the heap -/
def FpSt (X : Cx) (b : Addr) : Prop := b ≠ X.env.locals ∧ b ∉ X.fs ∧ (b ∈ X.ex ∨ X.s_0.heap.objs.size ≤ b) ∧ (∀ x c, X.env.cells.lookup x = some c → c ≠ b)
end

section
variable {G : Type} {X XG XI : Cx} {elt tg iter : Expr} {ifs : List Expr} {it a S : Addr} {oa : Obj} {fp : List Addr} {cenv : Env} {AG : Around} {c : Code} {fs : List Frame} {lv : Value → Sem Unit} {J : It} {tn : Nat → Heap → Prop} {R : GenEnd} {ps : List (Addr × Obj)}
  {g : TG} {tt : TT} {te : TE} {vs : List Nat} {σw : L2.St} {Qd : Nat → G → Hp → Prop} {Rep : Obj → G → Prop} {stp : G → V → Hp → (G → Prop) → Prop} {W : Nat → Nat → G → Hp → Prop}

theorem gen_loopS (hA : XI.A = AG.over c fs) (hP : XI.prog = X.prog) (hw : XI.w = X.w) (hK : XI.K = X.K) (hcalm : XI.calm = true) (henv : XI.env = cenv) (hxe : XI.xe = fun _ _ => False) (hpn : XI.pn = [])
    (hden : (model X.prog X.w).den c = (turnOf tg iter ifs elt (.ref it) cenv c).onRaise lv) (hcq : c.quiet = true) (hfs : splitAtGen fs = none) (hfg : fs.any Frame.guarded = false)
    (hco : cenv.scope.isCoroutine = false) (T : Turn X.prog X.w X.K tg J fp it tn) (hst : ∀ b ∈ fp, FpSt XI b) (hSy : S ∈ XI.ex ∨ XI.s_0.heap.objs.size ≤ S) (hSfp : ∀ b ∈ fp, S ≠ b) (hpsS : ∀ p ∈ ps, p.1 ≠ S) (hpsf : ∀ p ∈ ps, ∀ b ∈ fp, p.1 ≠ b) (haps : (a, oa) ∈ ps)
    (hmono : ∀ γ y H (p q : G → Prop), (∀ γ', p γ' → q γ') → stp γ y H p → stp γ y H q)
    (htr : ∀ ps σ H s, Inv XI ps σ H s → Inv XG ps σ H s)
    (hend : ∀ m n γ oS s₀ s H, m < n → s₀.heap.get? S = some oS → Rep oS γ → Inv XI (ps ++ [(S, oS)]) σw H s → Qd m γ H → Seg (model X.prog X.w) AG R (YOutS XG a oa S Rep stp) n s₀ c (leafOf (.ok .next)) fs s)
    (pg : PG XI tg g) (pt : PTs XI ifs tt) (pe : PE XI elt te) (hW : GTurnS J g tt te vs σw Qd stp W) :
    ∀ (m n i : Nat) (γ : G) (oS : Obj) (s₀ s : Shared) (H : Hp), m < n → W i m γ H → s₀.heap.get? S = some oS → Rep oS γ → Inv XI (ps ++ [(S, oS)]) σw H s → tn i s.heap → (∀ b ∈ fp, H b = none) →
      Seg (model X.prog X.w) AG R (YOutS XG a oa S Rep stp) n s₀ c ((model X.prog X.w).den c) fs s := by
  have stat : ∀ {oS : Obj} {σ' : L2.St} {H' : Hp} {s' : Shared}, Inv XI (ps ++ [(S, oS)]) σ' H' s' → (∀ b ∈ fp, H' b = none) → ∀ b ∈ fp, FpOk XI (ps ++ [(S, oS)]) H' b := fun {oS σ' H' s'} I' hn b hb =>
    ⟨hn b hb, (hst b hb).1, (hst b hb).2.1, (hst b hb).2.2.1, (hst b hb).2.2.2, fun p hp => by
      rw [hpn, List.nil_append] at hp
      rcases List.mem_append.mp hp with hp | hp
      · exact hpsf p hp b hb
      · have := List.mem_singleton.mp hp
        subst this
        exact hSfp b hb⟩
  have hpsS' : ∀ p ∈ XI.pn ++ ps, p.1 ≠ S := by rw [hpn]; exact hpsS
  intro m
  induction m using Nat.strongRecOn with
  | ind m ih =>
    intro n i γ oS s₀ s H hmn w hS0 hRep I st nH
    rw [hden, Sem.onRaise_eq_wrap]
    refine seg_bind_wrap (wpAny_standAt ?_)
    rcases hW i m γ H w with ⟨stop, qq⟩ | ⟨go, Nx, hNx, step⟩
    · have td := T.done XI hP hw hK hcalm i _ s _ H (fun _ _ => False) I (stat I nH) st stop
      rw [hA] at td
      refine seg_bind_wrap (thnF td fun r s1 ⟨hr, I1⟩ => ?_)
      subst hr
      exact hend m n γ oS s₀ s1 H hmn hS0 hRep I1 qq
    · have ti := T.item XI hP hw hK hcalm i _ s _ H (fun _ _ => False) I (stat I nH) st go
      rw [hA] at ti
      refine seg_bind_wrap (thnF ti fun r s1 ⟨u, hr, h1⟩ => ?_)
      subst hr
      refine seg_bind_wrap (thnF h1 fun _ s2 ⟨x, H2, I2, r2, y2, st2, n2⟩ => ?_)
      have I2' := I2.pinned (stat I2 n2) (T.obj _ _ st2)
      have rg := pg.run _ s2 _ H2 x u _ I2' r2 (step x H2 y2)
      rw [hA, hP, hw, henv, hxe] at rg
      refine seg_bind_wrap (thnF rg fun _ s3 ⟨σ3, H3, I3, hw3, q3⟩ => ?_)
      have rt := pt.run _ s3 σ3 H3 _ I3 q3
      rw [hA, hP, hw, henv, hxe] at rt
      refine seg_bind_wrap (thnF rt fun b s5 ⟨H5, I5, q5⟩ => ?_)
      have hl : σw.length = σ3.length := by rw [← hw3, wipe_length]
      have pin' : ∀ {H' : Hp} {s' : Shared} {σ' : L2.St}, Inv XI ((ps ++ [(S, oS)]) ++ pinsAt fp s2.heap) σ' H' s' → ∀ b ∈ fp, ∀ o, s2.heap.get? b = some o → s'.heap.get? b = some o ∧ H' b = none := fun {H' s' σ'} I' b hb o e =>
        let z := I'.pin (b, o) (List.mem_append_right _ (List.mem_append_right _ (mem_pinsAt hb e)))
        ⟨z.1, z.2.1⟩
      cases b with
      | false =>
        simp only [Bool.false_eq_true, if_false] at q5 ⊢
        obtain ⟨m', hm, w'⟩ := hNx γ H5 q5
        refine seg_again hcq (ih m' hm n (i + 1) γ oS s₀ s5 H5 (by omega) w' hS0 hRep ((I5.unpinned (pins := ps ++ [(S, oS)])).weak hl (fun j v e => ?_)) (T.keep _ _ _ st2 fun b hb o e => (pin' I5 b hb o e).1) (fun b hb => ?_))
        · rw [← hw3] at e
          exact (wipe_some e).1
        · obtain ⟨o, e, _⟩ := T.obj _ _ st2 b hb
          exact (pin' I5 b hb o e).2
      | true =>
        simp only [if_true] at q5 ⊢
        have hy : ∀ v, yieldOut cenv v = yieldValue v := fun v => by simp only [yieldOut, hco, Bool.false_eq_true, if_false]
        simp only [hy]
        rw [Sem.bind_eq_wrap', Sem.bind_eq_wrap', Sem.wrap_wrap, Sem.wrap_wrap]
        have re := pe.run _ s5 σ3 H5 _ I5 q5
        rw [hA, hP, hw, henv, hxe] at re
        refine seg_wrap (thnF re fun z s6 ⟨yv, H6, I6, r6, q6⟩ => ?_)
        cases n with
        | zero => exact absurd hmn (Nat.not_lt_zero _)
        | succ n =>
          have I6' : Inv XI (ps ++ [(S, oS)]) σ3 H6 s6 := I6.unpinned
          have I6w : Inv XI (ps ++ [(S, oS)]) σw H6 s6 := I6'.weak hl (fun j v e => by rw [← hw3] at e; exact (wipe_some e).1)
          refine seg_at (seg_yield hfs rfl hfg ⟨γ, oS, yv, H6, σ3, hS0, hRep, htr _ _ _ _ (I6'.pins_of fun p hp => I6'.pin p (List.mem_append_right _ ?_)), r6, hmono _ _ _ _ _ (fun γ' nx s'' oS' e1 e2 e3 e4 e5 e6 => ?_) q6⟩)
          · rcases List.mem_append.mp hp with hp | hp
            · have := List.mem_singleton.mp hp
              subst this
              exact List.mem_append_left _ haps
            · exact List.mem_append_right _ hp
          · obtain ⟨m', hm, w'⟩ := hNx γ' H6 nx
            refine seg_again hcq (ih m' hm n (i + 1) γ' oS' s'' s'' H6 (by omega) w' e4 e5 (Inv.kallS I6w hSy hpsS' e1 e2 e3 e4 e6) (T.keep _ _ _ st2 fun b hb o e => e3 b o (fun z => hSfp b hb z.symm) (pin' I6 b hb o e).1) (fun b hb => ?_))
            obtain ⟨o, e, _⟩ := T.obj _ _ st2 b hb
            exact (pin' I6 b hb o e).2
end
end GAl

set_option Elab.async false
set_option linter.all false
set_option maxRecDepth 100000
set_option maxHeartbeats 2000000
namespace GAl
open PySem PySem.Spec PyProof.Rows L2 GxR
open Sem (wp)
section
variable {G : Type} {X : Cx} {elt tg iter : Expr} {ifs : List Expr} {scope : Scope} {pos : Pos} {it a S : Addr} {oa : Obj} {fp : List Addr} {cenv : Env} {AG : Around} {s4 : Shared} {Hs : Hp} {J : It} {tn : Nat → Heap → Prop}
  {g : TG} {tt : TT} {te : TE} {vs : List Nat} {σw : L2.St} {Qd : G → Hp → Prop} {Rep : Obj → G → Prop} {stp : G → V → Hp → (G → Prop) → Prop} {W : Nat → Nat → G → Hp → Prop}
theorem gen_beginS (hc : X.calm = true) (hco : cenv.scope.isCoroutine = false) (T : Turn X.prog X.w X.K tg J fp it tn) (hafp : ∀ b ∈ fp, a ≠ b) (hSfp : ∀ b ∈ fp, S ≠ b) (haS : a ≠ S) (hSy : s4.heap.objs.size ≤ S)
    (hmono : ∀ γ y H (p q : G → Prop), (∀ γ', p γ' → q γ') → stp γ y H p → stp γ y H q)
    (pg : PG (gcx X (AG.over (.compLoop (.GeneratorExp elt [⟨tg, iter, ifs, 0⟩] scope pos) 0 (.ref it) .none cenv) []) s4 Hs cenv fp) tg g)
    (pt : PTs (gcx X (AG.over (.compLoop (.GeneratorExp elt [⟨tg, iter, ifs, 0⟩] scope pos) 0 (.ref it) .none cenv) []) s4 Hs cenv fp) ifs tt)
    (pe : PE (gcx X (AG.over (.compLoop (.GeneratorExp elt [⟨tg, iter, ifs, 0⟩] scope pos) 0 (.ref it) .none cenv) []) s4 Hs cenv fp) elt te)
    (hW : GTurnS J g tt te vs σw (fun _ => Qd) stp W) (m : Nat) (γ : G) (oS : Obj) (s₀ s : Shared) (H : Hp) (w : W 0 m γ H) (hS0 : s₀.heap.get? S = some oS) (hRep : Rep oS γ)
    (I : Inv (gcx X (AG.over (.compLoop (.GeneratorExp elt [⟨tg, iter, ifs, 0⟩] scope pos) 0 (.ref it) .none cenv) []) s4 Hs cenv fp) ([(a, oa)] ++ [(S, oS)]) σw H s) (st : tn 0 s.heap) (nH : ∀ b ∈ fp, H b = none) :
      Seg (model X.prog X.w) AG (fun n s₀ r s₁ => r = .ok .next ∧ REndS (gcx X (AG.over (.compLoop (.GeneratorExp elt [⟨tg, iter, ifs, 0⟩] scope pos) 0 (.ref it) .none cenv) []) s4 Hs cenv fp) a oa S Rep σw Qd n s₀ s₁)
        (YOutS (gcx X (AG.over (.compLoop (.GeneratorExp elt [⟨tg, iter, ifs, 0⟩] scope pos) 0 (.ref it) .none cenv) []) s4 Hs cenv fp) a oa S Rep stp) (m + 1) s₀
        (.compStart (.GeneratorExp elt [⟨tg, iter, ifs, 0⟩] scope pos) 0 (.ref it) .none cenv)
        ((model X.prog X.w).den (.compStart (.GeneratorExp elt [⟨tg, iter, ifs, 0⟩] scope pos) 0 (.ref it) .none cenv)) [] s := by
  have hst : ∀ b ∈ fp, FpSt (gcx X (AG.over (.compLoop (.GeneratorExp elt [⟨tg, iter, ifs, 0⟩] scope pos) 0 (.ref it) .none cenv) []) s4 Hs cenv fp) b := fun b hb =>
    ⟨(I.ok.exf b hb).1, I.ok.exfs b hb, .inl hb, fun x c e => (I.ok.exf b hb).2 x c e⟩
  have loop := gen_loopS (a := a) (oa := oa) (S := S) (ps := [(a, oa)]) (R := fun n s₀ r s₁ => r = .ok .next ∧ REndS (gcx X (AG.over (.compLoop (.GeneratorExp elt [⟨tg, iter, ifs, 0⟩] scope pos) 0 (.ref it) .none cenv) []) s4 Hs cenv fp) a oa S Rep σw Qd n s₀ s₁) (Rep := Rep) (Qd := fun _ => Qd)
    (c := .compLoop (.GeneratorExp elt [⟨tg, iter, ifs, 0⟩] scope pos) 0 (.ref it) .none cenv) (fs := []) (cenv := cenv) (iter := iter) (lv := leaving cenv) (X := X) (AG := AG)
    (XG := gcx X (AG.over (.compLoop (.GeneratorExp elt [⟨tg, iter, ifs, 0⟩] scope pos) 0 (.ref it) .none cenv) []) s4 Hs cenv fp)
    (XI := gcx X (AG.over (.compLoop (.GeneratorExp elt [⟨tg, iter, ifs, 0⟩] scope pos) 0 (.ref it) .none cenv) []) s4 Hs cenv fp)
    rfl rfl rfl rfl hc rfl rfl rfl rfl rfl rfl rfl hco T hst (.inr hSy) hSfp
    (fun p hp => by have := List.mem_singleton.mp hp; subst this; exact haS) (fun p hp b hb => by have := List.mem_singleton.mp hp; subst this; exact hafp b hb) (List.mem_singleton.mpr rfl)
    hmono (fun _ _ _ _ I => I) (fun m n γ oS s₀ s H _ e1 e2 I q => seg_end (.ok .next) ⟨rfl, γ, oS, H, e1, e2, I, q⟩) pg pt pe hW m (m + 1) 0 γ oS s₀ s H (Nat.lt_succ_self _) w hS0 hRep I st nH
  show Seg _ AG _ _ _ s₀ _ ((compStart (.GeneratorExp elt [⟨tg, iter, ifs, 0⟩] scope pos) 0 (.ref it) .none cenv).onRaise (leaving cenv)) [] s
  unfold compStart
  rw [Sem.onRaise_eq_wrap]
  show Seg _ AG _ _ _ s₀ _ ((ask >>= _).wrap _ _ _ _) [] s
  refine seg_bind_wrap (wpAny_askSetting ?_)
  split
  · exact seg_again rfl loop
  · first
      | exact seg_bind_wrap (wpAny_rule (seg_bind_wrap (wpAny_standAt (seg_bind_wrap (T.self _ 0 s _ _ st (seg_again rfl loop))))))
      | (refine seg_bind_wrap (wpAny_rule ?_); show Seg _ AG _ _ _ s₀ _ ((standAt iter.pos >>= _).wrap _ _ _ _) [] s; exact seg_bind_wrap (wpAny_standAt (seg_bind_wrap (T.self _ 0 s _ _ st (seg_again rfl loop)))))
end

/-- what a consumed generator expression asks: the walked thing, the def's table, the turns -/
def tGenS {G : Type} (P : Addr) (wi : TI) (g : TG) (tt : TT) (te : TE) (vs : List Nat) (stp : G → V → Hp → (G → Prop) → Prop) (γ0 : G) (Qd : G → Hp → Prop) : L2.St → Hp → Prop := fun σ H =>
  wi σ H fun J H1 => TabG H1 P ∧ ∀ H2, Tabbed P H1 H2 → ∃ W : Nat → Nat → G → Hp → Prop, (∃ m, W 0 m γ0 H2) ∧ GTurnS J g tt te vs (wipe σ vs) (fun _ => Qd) stp W

section
variable {G : Type} {X : Cx} {pins : List (Addr × Obj)} {σ : L2.St} {H : Hp} {s : Shared}
theorem gen_makeS {c P : Addr} {elt tg iter : Expr} {ifs : List Expr} {gpos : Pos} {scope : Scope} {own : List (Str × Nat)} {wi : TI} {g : TG} {tt : TT} {te : TE} {k : Nat} {stp : G → V → Hp → (G → Prop) → Prop} {Rep : Obj → G → Prop} {γ0 : G} {Qd : G → Hp → Prop} {Q' : Value → Shared → Prop}
    (hr : Room (k + 1) X.A) (hc : X.calm = true) (hN : X.N.Nodup) (TB : TabB X.base X.mg c P) (hcode : X.env.code = .ref c) (SC : GSc X.N X.env.scope scope own) (hi : PI X tg iter wi)
    (hg : ∀ (A' : Around), Room k A' → ∀ (s : Shared) (H : Hp) (cl : List (Str × Addr)) (C : Addr) (code : Value) (fp : List Addr), PG (gcx X A' s H (genEnv scope cl C code builtinsNs X.env) fp) tg g)
    (ht : ∀ (A' : Around), Room k A' → ∀ (s : Shared) (H : Hp) (cl : List (Str × Addr)) (C : Addr) (code : Value) (fp : List Addr), PTs (gcx X A' s H (genEnv scope cl C code builtinsNs X.env) fp) ifs tt)
    (he : ∀ (A' : Around), Room k A' → ∀ (s : Shared) (H : Hp) (cl : List (Str × Addr)) (C : Addr) (code : Value) (fp : List Addr), PE (gcx X A' s H (genEnv scope cl C code builtinsNs X.env) fp) elt te)
    (hmono : ∀ γ y H (p q : G → Prop), (∀ γ', p γ' → q γ') → stp γ y H p → stp γ y H q)
    (hs : ∀ v, genFold iter X.env v = pure v) (I : Inv X pins σ H s) (h : tGenS P wi g tt te (own.map (·.2)) stp γ0 Qd σ H)
    (hQ : ∀ (XG : Cx) (a : Addr) (oa : Obj) (gn n : Nat) (σw : L2.St) (s5 : Shared) (gs : GenState), XG.prog = X.prog → XG.w = X.w → XG.pn = [] → s5.heap.get? a = some oa → s5.heap.IsGen a gn → s5.gens[gn]? = some gs → s5.heap.NoLimit → AllBare s5.gens →
      (∀ (S : Addr) (s'' : Shared) (oS : Obj), s5.heap.objs.size ≤ S → s''.os = s5.os → AllBare s''.gens → (∀ b o, s5.heap.get? b = some o → s''.heap.get? b = some o) → s''.heap.get? S = some oS → Rep oS γ0 → (∀ v, oS.data ≠ .cell v) →
        gs.Goes (model X.prog X.w) X.A.in1.in1 (fun n s₀ r s₁ => r = .ok .next ∧ REndS XG a oa S Rep σw Qd n s₀ s₁) (YOutS XG a oa S Rep stp) n (.send .none) s'') →
      (∀ S, s5.heap.objs.size ≤ S → XG.s_0.heap.objs.size ≤ S) → (∀ s' ps σ' H', Inv XG ps σ' H' s' → Inv X pins σ H' s') → Q' (.ref a) s5) :
    wpAny (model X.prog X.w) X.A (eval (.GeneratorExp elt [⟨tg, iter, ifs, 0⟩] scope gpos) X.env) Q' X.xe s := by
  have ok := SC.blk
  have hfree : ∀ y ∈ scope.names, y.2 = .free → ∃ c, X.env.cells.lookup y.1 = some c := fun y hy e => by
    rcases ok.free y hy e with k | k
    · exact I.ok.has _ (.inl k)
    · exact I.ok.has _ (.inr k)
  refine wpAny_GeneratorExp_make SC.co (closure_ok hfree) SC.cell SC.dot ok.kind (by have := hr.dp; omega) ?_ hs
  refine thn (hi.run pins s σ H _ I h) fun xv s1 hx => thn hx fun itv s2 h2 => ?_
  obtain ⟨it, fp, tn, J, H2, e, I2, T, st2, f2, ⟨ps, hP, hts⟩, q⟩ := h2
  subst e
  have hPs : s2.heap.get? P = some { cls := .none, data := .fields ps } := I2.hok P _ hP
  have cd : PySem.W.CodeHd s2.heap c P := TB.code.keeps fun b u e => I2.bk b u e
  have nP : ∀ b ∈ fp, b ≠ P := fun b hb z => by
    have := (f2 b hb).1
    rw [z, hP] at this; cases this
  have sz2 : ∀ b ∈ fp, b < s2.heap.objs.size := fun b hb => by
    obtain ⟨o, e, _⟩ := T.obj _ _ st2 b hb
    exact Heap.lt_size e
  have cont : ∀ (code : Value) (h3 : Heap) (tk : Nat) (ps' : Array Value), Heap.ExtBut P s2.heap h3 → s2.heap.objs.size ≤ h3.objs.size → h3.get? P = some { cls := .none, data := .fields ps' } → (∃ more, ps' = ps ++ more) → TriplesOk ps'.toList →
      wpAny (model X.prog X.w) X.A (builtinsFor X.env.globals X.env.builtins) (fun bi s₄ =>
        ∀ h', h'.Ns s₄.heap.objs.size (fun y => if y = ".0" then some (.ref it) else none) → Heap.SameBut s₄.heap.objs.size (s₄.heap.push { cls := .type "frame", data := .dict #[] }) h' →
          Q' (.ref h'.objs.size) { s₄ with
            gens := s₄.gens.push (.fresh (.compStart (.GeneratorExp elt [⟨tg, iter, ifs, 0⟩] scope gpos) 0 (.ref it) .none (genEnv scope (cloFrom X.env.cells scope.names []) s₄.heap.objs.size code bi X.env))),
            toks := s₄.toks + 1 + 1 + 1,
            heap := h'.push { cls := .type "generator", data := .fields #[.int s₄.gens.size 0, .str "<genexpr>" (s₄.toks + 1), .str (X.env.qual ++ "<genexpr>") (s₄.toks + 1 + 1)] } }) X.xe { s2 with heap := h3, toks := tk } := by
    intro code h3 tk ps' hx hsz hP3 hmore ht3
    obtain ⟨bm, ob, e1, e2, e3, e4, e5, e6, e7, e8⟩ := TB.bm
    have keep3 : ∀ b u, b ≠ P → s2.heap.get? b = some u → h3.get? b = some u := fun b u hb e => hx b u hb e
    refine wpAny_builtinsFor (m := X.mg) (by rw [I2.ok.glob]; exact (I2.mod.glob.keeps I2.bk).extBut hx TB.gP) e1 e2 (keep3 _ _ e4 (I2.bk _ _ e5)) e6 e7 e8 ?_
    intro h' hn' hs'
    obtain ⟨more, em⟩ := hmore
    have I3 : Inv X pins σ (upd H2 P (.tbl (ps ++ more))) { s2 with heap := h3, toks := tk } :=
      inv_tab (more := more) (h' := h3) (g' := s2.gens) (d' := s2.drawn) (t' := tk) I2 hP keep3 (by rw [← em]; exact hP3) I2.bare
    obtain ⟨W, ⟨m0, w0⟩, turn⟩ := q (upd H2 P (.tbl (ps ++ more))) ⟨⟨ps ++ more, upd_same, by rw [← em]; exact ht3⟩, fun b hb => upd_ne hb⟩
    generalize hH3 : upd H2 P (.tbl (ps ++ more)) = H3 at I3 w0
    generalize hs4 : ({ s2 with heap := h3, toks := tk } : Shared) = s4 at I3 hn' hs' ⊢
    have hh4 : s4.heap = h3 := by rw [← hs4]
    have st4 : tn 0 s4.heap := T.keep _ _ _ st2 fun b hb o e => by rw [hh4]; exact keep3 b o (nP b hb) e
    have f3 : ∀ b ∈ fp, FpOk X pins H3 b ∧ b < s4.heap.objs.size := fun b hb => by
      refine ⟨⟨?_, (f2 b hb).2⟩, by rw [hh4]; exact Nat.lt_of_lt_of_le (sz2 b hb) hsz⟩
      rw [← hH3, upd_ne (nP b hb)]
      exact (f2 b hb).1
    have hszh : h'.objs.size = s4.heap.objs.size + 1 := by rw [hs'.1, Heap.size_push]
    have keep' : ∀ b o, s4.heap.get? b = some o → h'.get? b = some o := fun b o e => hs'.extBut b o (Nat.ne_of_lt (Heap.lt_size e)) (Heap.get?_push_of_some _ e)
    generalize hoa : ({ cls := .type "generator", data := .fields #[.int s4.gens.size 0, .str "<genexpr>" (s4.toks + 1), .str (X.env.qual ++ "<genexpr>") (s4.toks + 1 + 1)] } : Obj) = oa
    have ga : (h'.push oa).get? h'.objs.size = some oa := Heap.get?_push_size _ (by rw [← hoa]; rfl)
    have isg : (h'.push oa).IsGen h'.objs.size s4.gens.size := by rw [← hoa]; exact ⟨_, _, _, Heap.get?_push_size _ rfl, rfl, rfl, rfl⟩
    generalize hce : genEnv scope (cloFrom X.env.cells scope.names []) s4.heap.objs.size code builtinsNs X.env = cenv
    generalize hA' : X.A.in1.in1.over (.compLoop (.GeneratorExp elt [⟨tg, iter, ifs, 0⟩] scope gpos) 0 (.ref it) .none cenv) [] = A'
    have hfr : A'.frames = some (cenv :: X.stack) := by
      rw [← hA']
      show pushEnvs [cenv] (pushEnvs [] X.A.frames) = _
      rw [I2.ok.frames]
      rfl
    have hdp : A'.depth = X.A.depth + 1 := by rw [← hA']; rfl
    have hun : A'.units = X.A.units + 5 := by rw [← hA']; rfl
    have hhd : A'.handled = none := by rw [← hA']; exact hr.hd
    have hr' : Room k A' := ⟨hhd, by rw [hdp]; have := hr.dp; omega, by rw [hun]; have := hr.un; omega⟩
    have bare5 : AllBare (s4.gens.push (.fresh (.compStart (.GeneratorExp elt [⟨tg, iter, ifs, 0⟩] scope gpos) 0 (.ref it) .none cenv))) := I3.bare.push rfl
    have I5 := gen_start (A' := A') (cenv := cenv) (code := code) (m := fun y => if y = ".0" then some (.ref it) else none) (h5 := h'.push oa) (g' := s4.gens.push (.fresh (.compStart (.GeneratorExp elt [⟨tg, iter, ifs, 0⟩] scope gpos) 0 (.ref it) .none cenv)))
      (t5 := s4.toks + 1 + 1 + 1) (a := h'.objs.size) (oa := oa) I3 ok SC.cell hN f3 hce.symm hfr hhd (hn'.push _) (fun b o e => Heap.get?_push_of_some _ (keep' b o e)) bare5 ga (by omega) (by rw [← hoa]; intro v z; cases z)
    have back : ∀ s' ps' σ' H', Inv (gcx X A' s4 H3 cenv fp) ps' σ' H' s' → Inv X pins σ H' s' := fun s' ps' σ' H' I' =>
      I3.call' (ch := fp) I'.os I'.base I'.hok I'.bare fun b hb => ⟨(f3 b hb).1.2.2.2.1, (f3 b hb).1.2.1, (f3 b hb).1.2.2.2.2.1, (f3 b hb).1.2.2.2.2.2⟩
    have pg : PG (gcx X A' s4 H3 cenv fp) tg g := by rw [← hce]; exact hg A' hr' _ _ _ _ _ _
    have pt : PTs (gcx X A' s4 H3 cenv fp) ifs tt := by rw [← hce]; exact ht A' hr' _ _ _ _ _ _
    have pe : PE (gcx X A' s4 H3 cenv fp) elt te := by rw [← hce]; exact he A' hr' _ _ _ _ _ _
    refine hQ (gcx X A' s4 H3 cenv fp) h'.objs.size oa s4.gens.size (m0 + 1) (wipe σ (own.map (·.2))) _ _ rfl rfl rfl ga isg (Array.getElem?_push_size ..) I5.nolimit bare5 (fun S s'' oS hS e1 e2 e3 e4 e5 e6 => ?_) (fun S hS => Nat.le_trans I5.sz hS) back
    refine ⟨rfl, ?_⟩
    have hS : h'.objs.size + 1 ≤ S := by
      have hS : (h'.push oa).objs.size ≤ S := hS
      rwa [Heap.size_push] at hS
    have fS := I5.fpOk (b := S) (H' := H3) (by show (h'.push oa).objs.size ≤ S; rw [Heap.size_push]; exact hS) (I5.hok.fresh (by show (h'.push oa).objs.size ≤ S; rw [Heap.size_push]; exact hS))
    have I6 : Inv (gcx X A' s4 H3 cenv fp) ([(h'.objs.size, oa)] ++ [(S, oS)]) (wipe σ (own.map (·.2))) H3 s'' := by
      have I6 := Inv.kall I5 e1 e2 e3
      refine I6.pins_of fun p hp => ?_
      rcases List.mem_append.mp hp with hp | hp
      · exact I6.pin p (List.mem_append_right _ hp)
      · have := List.mem_singleton.mp hp
        subst this
        exact ⟨e4, fS.1, fS.2.1, fS.2.2.1, e6⟩
    subst hA'
    refine gen_beginS hc (by rw [← hce]; exact SC.co) T (fun b hb => Nat.ne_of_gt (Nat.lt_trans (f3 b hb).2 (by omega))) (fun b hb => Nat.ne_of_gt (Nat.lt_of_lt_of_le (f3 b hb).2 (by omega))) (Nat.ne_of_lt hS) (by omega) hmono pg pt pe turn m0 γ0 oS _ _ H3 w0 e4 e5 I6 ?_ (fun b hb => (f3 b hb).1.1)
    exact T.keep _ _ _ st4 fun b hb o e => e3 b o (Heap.get?_push_of_some _ (keep' b o e))
  refine ⟨I2.nolimit, ?_⟩
  cases hf : codeAmong gpos ps.toList with
  | none =>
    refine wpAny_genexprCodeX hcode (cd.code hPs hts) (cd.tab hPs) hf fun c' h' tk hx hge hlt hco' _ htab' _ => ?_
    obtain ⟨o1, vs, f1, tf, fl, tg', inF, tx, tt', op, _, _, _, _, _, _, _, _, _, htr, _⟩ := hco'
    exact cont _ h' tk _ hx (Nat.le_trans hge (Nat.le_of_lt hlt)) htab'.2 ⟨_, rfl⟩ htr
  | some cv =>
    refine wpAny_genexprCode_hit hcode (cd.code hPs hts) hf ?_
    exact cont cv s2.heap s2.toks ps (Heap.ExtBut.refl _ _) (Nat.le_refl _) hPs ⟨#[], by simp⟩ hts
end
end GAl

set_option Elab.async false
set_option linter.all false
set_option maxRecDepth 100000
set_option maxHeartbeats 2000000
namespace GAl
open PySem PySem.Spec PyProof.Rows L2 GxR
open Sem (wp)
/-! ### a generator expression that is consumed two codes deeper -/
section
variable {G : Type} {X : Cx} {pins : List (Addr × Obj)} {σ : L2.St} {H : Hp} {s : Shared}
theorem gen_makeS4 {c P : Addr} {elt tg iter : Expr} {ifs : List Expr} {gpos : Pos} {scope : Scope} {own : List (Str × Nat)} {wi : TI} {g : TG} {tt : TT} {te : TE} {k : Nat} {stp : G → V → Hp → (G → Prop) → Prop} {Rep : Obj → G → Prop} {γ0 : G} {Qd : G → Hp → Prop} {Q' : Value → Shared → Prop}
    (hr : Room (k + 1) X.A) (hc : X.calm = true) (hN : X.N.Nodup) (TB : TabB X.base X.mg c P) (hcode : X.env.code = .ref c) (SC : GSc X.N X.env.scope scope own) (hi : PI X tg iter wi)
    (hg : ∀ (A' : Around), Room k A' → ∀ (s : Shared) (H : Hp) (cl : List (Str × Addr)) (C : Addr) (code : Value) (fp : List Addr), PG (gcx X A' s H (genEnv scope cl C code builtinsNs X.env) fp) tg g)
    (ht : ∀ (A' : Around), Room k A' → ∀ (s : Shared) (H : Hp) (cl : List (Str × Addr)) (C : Addr) (code : Value) (fp : List Addr), PTs (gcx X A' s H (genEnv scope cl C code builtinsNs X.env) fp) ifs tt)
    (he : ∀ (A' : Around), Room k A' → ∀ (s : Shared) (H : Hp) (cl : List (Str × Addr)) (C : Addr) (code : Value) (fp : List Addr), PE (gcx X A' s H (genEnv scope cl C code builtinsNs X.env) fp) elt te)
    (hmono : ∀ γ y H (p q : G → Prop), (∀ γ', p γ' → q γ') → stp γ y H p → stp γ y H q)
    (hs : ∀ v, genFold iter X.env v = pure v) (I : Inv X pins σ H s) (h : tGenS P wi g tt te (own.map (·.2)) stp γ0 Qd σ H)
    (hQ : ∀ (XG : Cx) (a : Addr) (oa : Obj) (gn n : Nat) (σw : L2.St) (s5 : Shared) (gs : GenState), XG.prog = X.prog → XG.w = X.w → XG.pn = [] → s5.heap.get? a = some oa → s5.heap.IsGen a gn → s5.gens[gn]? = some gs → s5.heap.NoLimit → AllBare s5.gens →
      (∀ (S : Addr) (s'' : Shared) (oS : Obj), s5.heap.objs.size ≤ S → s''.os = s5.os → AllBare s''.gens → (∀ b o, s5.heap.get? b = some o → s''.heap.get? b = some o) → s''.heap.get? S = some oS → Rep oS γ0 → (∀ v, oS.data ≠ .cell v) →
        gs.Goes (model X.prog X.w) X.A.in1.in1.in1.in1 (fun n s₀ r s₁ => r = .ok .next ∧ REndS XG a oa S Rep σw Qd n s₀ s₁) (YOutS XG a oa S Rep stp) n (.send .none) s'') →
      (∀ S, s5.heap.objs.size ≤ S → XG.s_0.heap.objs.size ≤ S) → (∀ s' ps σ' H', Inv XG ps σ' H' s' → Inv X pins σ H' s') → Q' (.ref a) s5) :
    wpAny (model X.prog X.w) X.A (eval (.GeneratorExp elt [⟨tg, iter, ifs, 0⟩] scope gpos) X.env) Q' X.xe s := by
  have ok := SC.blk
  have hfree : ∀ y ∈ scope.names, y.2 = .free → ∃ c, X.env.cells.lookup y.1 = some c := fun y hy e => by
    rcases ok.free y hy e with k | k
    · exact I.ok.has _ (.inl k)
    · exact I.ok.has _ (.inr k)
  refine wpAny_GeneratorExp_make SC.co (closure_ok hfree) SC.cell SC.dot ok.kind (by have := hr.dp; omega) ?_ hs
  refine thn (hi.run pins s σ H _ I h) fun xv s1 hx => thn hx fun itv s2 h2 => ?_
  obtain ⟨it, fp, tn, J, H2, e, I2, T, st2, f2, ⟨ps, hP, hts⟩, q⟩ := h2
  subst e
  have hPs : s2.heap.get? P = some { cls := .none, data := .fields ps } := I2.hok P _ hP
  have cd : PySem.W.CodeHd s2.heap c P := TB.code.keeps fun b u e => I2.bk b u e
  have nP : ∀ b ∈ fp, b ≠ P := fun b hb z => by
    have := (f2 b hb).1
    rw [z, hP] at this; cases this
  have sz2 : ∀ b ∈ fp, b < s2.heap.objs.size := fun b hb => by
    obtain ⟨o, e, _⟩ := T.obj _ _ st2 b hb
    exact Heap.lt_size e
  have cont : ∀ (code : Value) (h3 : Heap) (tk : Nat) (ps' : Array Value), Heap.ExtBut P s2.heap h3 → s2.heap.objs.size ≤ h3.objs.size → h3.get? P = some { cls := .none, data := .fields ps' } → (∃ more, ps' = ps ++ more) → TriplesOk ps'.toList →
      wpAny (model X.prog X.w) X.A (builtinsFor X.env.globals X.env.builtins) (fun bi s₄ =>
        ∀ h', h'.Ns s₄.heap.objs.size (fun y => if y = ".0" then some (.ref it) else none) → Heap.SameBut s₄.heap.objs.size (s₄.heap.push { cls := .type "frame", data := .dict #[] }) h' →
          Q' (.ref h'.objs.size) { s₄ with
            gens := s₄.gens.push (.fresh (.compStart (.GeneratorExp elt [⟨tg, iter, ifs, 0⟩] scope gpos) 0 (.ref it) .none (genEnv scope (cloFrom X.env.cells scope.names []) s₄.heap.objs.size code bi X.env))),
            toks := s₄.toks + 1 + 1 + 1,
            heap := h'.push { cls := .type "generator", data := .fields #[.int s₄.gens.size 0, .str "<genexpr>" (s₄.toks + 1), .str (X.env.qual ++ "<genexpr>") (s₄.toks + 1 + 1)] } }) X.xe { s2 with heap := h3, toks := tk } := by
    intro code h3 tk ps' hx hsz hP3 hmore ht3
    obtain ⟨bm, ob, e1, e2, e3, e4, e5, e6, e7, e8⟩ := TB.bm
    have keep3 : ∀ b u, b ≠ P → s2.heap.get? b = some u → h3.get? b = some u := fun b u hb e => hx b u hb e
    refine wpAny_builtinsFor (m := X.mg) (by rw [I2.ok.glob]; exact (I2.mod.glob.keeps I2.bk).extBut hx TB.gP) e1 e2 (keep3 _ _ e4 (I2.bk _ _ e5)) e6 e7 e8 ?_
    intro h' hn' hs'
    obtain ⟨more, em⟩ := hmore
    have I3 : Inv X pins σ (upd H2 P (.tbl (ps ++ more))) { s2 with heap := h3, toks := tk } :=
      inv_tab (more := more) (h' := h3) (g' := s2.gens) (d' := s2.drawn) (t' := tk) I2 hP keep3 (by rw [← em]; exact hP3) I2.bare
    obtain ⟨W, ⟨m0, w0⟩, turn⟩ := q (upd H2 P (.tbl (ps ++ more))) ⟨⟨ps ++ more, upd_same, by rw [← em]; exact ht3⟩, fun b hb => upd_ne hb⟩
    generalize hH3 : upd H2 P (.tbl (ps ++ more)) = H3 at I3 w0
    generalize hs4 : ({ s2 with heap := h3, toks := tk } : Shared) = s4 at I3 hn' hs' ⊢
    have hh4 : s4.heap = h3 := by rw [← hs4]
    have st4 : tn 0 s4.heap := T.keep _ _ _ st2 fun b hb o e => by rw [hh4]; exact keep3 b o (nP b hb) e
    have f3 : ∀ b ∈ fp, FpOk X pins H3 b ∧ b < s4.heap.objs.size := fun b hb => by
      refine ⟨⟨?_, (f2 b hb).2⟩, by rw [hh4]; exact Nat.lt_of_lt_of_le (sz2 b hb) hsz⟩
      rw [← hH3, upd_ne (nP b hb)]
      exact (f2 b hb).1
    have hszh : h'.objs.size = s4.heap.objs.size + 1 := by rw [hs'.1, Heap.size_push]
    have keep' : ∀ b o, s4.heap.get? b = some o → h'.get? b = some o := fun b o e => hs'.extBut b o (Nat.ne_of_lt (Heap.lt_size e)) (Heap.get?_push_of_some _ e)
    generalize hoa : ({ cls := .type "generator", data := .fields #[.int s4.gens.size 0, .str "<genexpr>" (s4.toks + 1), .str (X.env.qual ++ "<genexpr>") (s4.toks + 1 + 1)] } : Obj) = oa
    have ga : (h'.push oa).get? h'.objs.size = some oa := Heap.get?_push_size _ (by rw [← hoa]; rfl)
    have isg : (h'.push oa).IsGen h'.objs.size s4.gens.size := by rw [← hoa]; exact ⟨_, _, _, Heap.get?_push_size _ rfl, rfl, rfl, rfl⟩
    generalize hce : genEnv scope (cloFrom X.env.cells scope.names []) s4.heap.objs.size code builtinsNs X.env = cenv
    generalize hA' : X.A.in1.in1.in1.in1.over (.compLoop (.GeneratorExp elt [⟨tg, iter, ifs, 0⟩] scope gpos) 0 (.ref it) .none cenv) [] = A'
    have hfr : A'.frames = some (cenv :: X.stack) := by
      rw [← hA']
      show pushEnvs [cenv] (pushEnvs [] X.A.frames) = _
      rw [I2.ok.frames]
      rfl
    have hdp : A'.depth = X.A.depth + 1 := by rw [← hA']; rfl
    have hun : A'.units = X.A.units + 7 := by rw [← hA']; rfl
    have hhd : A'.handled = none := by rw [← hA']; exact hr.hd
    have hr' : Room k A' := ⟨hhd, by rw [hdp]; have := hr.dp; omega, by rw [hun]; have := hr.un; omega⟩
    have bare5 : AllBare (s4.gens.push (.fresh (.compStart (.GeneratorExp elt [⟨tg, iter, ifs, 0⟩] scope gpos) 0 (.ref it) .none cenv))) := I3.bare.push rfl
    have I5 := gen_start (A' := A') (cenv := cenv) (code := code) (m := fun y => if y = ".0" then some (.ref it) else none) (h5 := h'.push oa) (g' := s4.gens.push (.fresh (.compStart (.GeneratorExp elt [⟨tg, iter, ifs, 0⟩] scope gpos) 0 (.ref it) .none cenv)))
      (t5 := s4.toks + 1 + 1 + 1) (a := h'.objs.size) (oa := oa) I3 ok SC.cell hN f3 hce.symm hfr hhd (hn'.push _) (fun b o e => Heap.get?_push_of_some _ (keep' b o e)) bare5 ga (by omega) (by rw [← hoa]; intro v z; cases z)
    have back : ∀ s' ps' σ' H', Inv (gcx X A' s4 H3 cenv fp) ps' σ' H' s' → Inv X pins σ H' s' := fun s' ps' σ' H' I' =>
      I3.call' (ch := fp) I'.os I'.base I'.hok I'.bare fun b hb => ⟨(f3 b hb).1.2.2.2.1, (f3 b hb).1.2.1, (f3 b hb).1.2.2.2.2.1, (f3 b hb).1.2.2.2.2.2⟩
    have pg : PG (gcx X A' s4 H3 cenv fp) tg g := by rw [← hce]; exact hg A' hr' _ _ _ _ _ _
    have pt : PTs (gcx X A' s4 H3 cenv fp) ifs tt := by rw [← hce]; exact ht A' hr' _ _ _ _ _ _
    have pe : PE (gcx X A' s4 H3 cenv fp) elt te := by rw [← hce]; exact he A' hr' _ _ _ _ _ _
    refine hQ (gcx X A' s4 H3 cenv fp) h'.objs.size oa s4.gens.size (m0 + 1) (wipe σ (own.map (·.2))) _ _ rfl rfl rfl ga isg (Array.getElem?_push_size ..) I5.nolimit bare5 (fun S s'' oS hS e1 e2 e3 e4 e5 e6 => ?_) (fun S hS => Nat.le_trans I5.sz hS) back
    refine ⟨rfl, ?_⟩
    have hS : h'.objs.size + 1 ≤ S := by
      have hS : (h'.push oa).objs.size ≤ S := hS
      rwa [Heap.size_push] at hS
    have fS := I5.fpOk (b := S) (H' := H3) (by show (h'.push oa).objs.size ≤ S; rw [Heap.size_push]; exact hS) (I5.hok.fresh (by show (h'.push oa).objs.size ≤ S; rw [Heap.size_push]; exact hS))
    have I6 : Inv (gcx X A' s4 H3 cenv fp) ([(h'.objs.size, oa)] ++ [(S, oS)]) (wipe σ (own.map (·.2))) H3 s'' := by
      have I6 := Inv.kall I5 e1 e2 e3
      refine I6.pins_of fun p hp => ?_
      rcases List.mem_append.mp hp with hp | hp
      · exact I6.pin p (List.mem_append_right _ hp)
      · have := List.mem_singleton.mp hp
        subst this
        exact ⟨e4, fS.1, fS.2.1, fS.2.2.1, e6⟩
    subst hA'
    refine gen_beginS hc (by rw [← hce]; exact SC.co) T (fun b hb => Nat.ne_of_gt (Nat.lt_trans (f3 b hb).2 (by omega))) (fun b hb => Nat.ne_of_gt (Nat.lt_of_lt_of_le (f3 b hb).2 (by omega))) (Nat.ne_of_lt hS) (by omega) hmono pg pt pe turn m0 γ0 oS _ _ H3 w0 e4 e5 I6 ?_ (fun b hb => (f3 b hb).1.1)
    exact T.keep _ _ _ st4 fun b hb o e => e3 b o (Heap.get?_push_of_some _ (keep' b o e))
  refine ⟨I2.nolimit, ?_⟩
  cases hf : codeAmong gpos ps.toList with
  | none =>
    refine wpAny_genexprCodeX hcode (cd.code hPs hts) (cd.tab hPs) hf fun c' h' tk hx hge hlt hco' _ htab' _ => ?_
    obtain ⟨o1, vs, f1, tf, fl, tg', inF, tx, tt', op, _, _, _, _, _, _, _, _, _, htr, _⟩ := hco'
    exact cont _ h' tk _ hx (Nat.le_trans hge (Nat.le_of_lt hlt)) htab'.2 ⟨_, rfl⟩ htr
  | some cv =>
    refine wpAny_genexprCode_hit hcode (cd.code hPs hts) hf ?_
    exact cont cv s2.heap s2.toks ps (Heap.ExtBut.refl _ _) (Nat.le_refl _) hPs ⟨#[], by simp⟩ hts
end
end GAl

set_option Elab.async false
set_option linter.all false
set_option maxRecDepth 100000
set_option maxHeartbeats 2000000
namespace GAl
open PySem PySem.Spec PyProof.Rows L2 GxR
open Sem (wp)
/-! ### tuple of a generator expression -/
abbrev lstObj (acc : Array Value) (c : Nat) : Obj := { cls := .type "list", dict := none, data := .seq acc c, slots := #[] }
def RepT : Obj → List V → Prop := fun o γ => ∃ acc c, o = lstObj acc c ∧ Vals γ acc.toList
def stpT : List V → V → Hp → (List V → Prop) → Prop := fun γ y _ N => γ.length ≤ 1000 ∧ N (γ ++ [y])
theorem stpT_mono : ∀ γ y H (p q : List V → Prop), (∀ γ', p γ' → q γ') → stpT γ y H p → stpT γ y H q := fun _ _ _ _ _ h ⟨k, n⟩ => ⟨k, h _ n⟩
theorem vals_snoc {γ : List V} {us : List Value} {y : V} {v : Value} (h : Vals γ us) (r : RelV y v) : Vals (γ ++ [y]) (us ++ [v]) := by
  induction h with
  | nil => exact .cons r .nil
  | cons a _ ih => exact .cons a ih
section
variable {X XG : Cx} {A : Around} {a S : Addr} {oa : Obj} {g : Nat} {σw : L2.St} {Qd : List V → Hp → Prop} {R : Result → Shared → Prop}
theorem tup_loop (hh : A.handled = none) (hroom : A.depth < recursionLimit) (hpn : XG.pn = []) (hSy : S ∈ XG.ex ∨ XG.s_0.heap.objs.size ≤ S) (res : Value)
    (hfin : ∀ s' ps σ' H' γ acc c, Inv XG ps σ' H' s' → s'.heap.get? S = some (lstObj acc c) → Vals γ acc.toList → Qd γ H' → R (.ok (.ret res)) s') :
    ∀ (n : Nat) (s : Shared) (acc : Array Value) (c : Nat), s.heap.get? a = some oa → s.heap.get? S = some (lstObj acc c) → a ≠ S →
      GSt (model X.prog X.w) A.in1.in1 (REndS XG a oa S RepT σw Qd) (YOutS XG a oa S RepT stpT) a g n s → codeAny (model X.prog X.w) A (.builtin "list.extend.loop" ⟨[.ref S, .ref a, res], []⟩) R s := by
  intro n
  induction n with
  | zero =>
    intro s acc c hoa hS haS ⟨hg, hl, gs, hgs, hgo⟩
    refine codeAny_builtin F.entry_extend_loop ?_
    rw [Around.under_plainId F.plain_extend_loop _]
    show wpAny _ A.in1 (pyNext (.ref a) >>= _) _ _ s
    refine wpAny_bind (next_sz (A := A.in1) hh hl hroom hg hgs hgo (fun v s₁ gs' hsz hb hv => ?_) (fun s₁ hsz hp h' hk => ?_))
    · obtain ⟨γ, oS', y, H4, σ4, e1, e2, I4, r, k, nn⟩ := hv
      have e1 : s.heap.get? S = some oS' := e1
      rw [hS] at e1; cases e1
      obtain ⟨acc', c', e3, hV⟩ := e2
      cases e3
      have hS' : s₁.heap.get? S = some (lstObj acc c) := (I4.pin (S, lstObj acc c) (by rw [hpn]; simp)).1
      have hln : γ.length = acc.size := by rw [hV.length]; simp
      show wpAny _ A.in1 (updateSeq S (·.push v) >>= _) _ _ _
      refine wpAny_bind (wpAny_updateSeq hS' rfl (wpAny_pure ⟨plainId_quiet F.plain_extend_loop _, ?_⟩) (by rw [sizeLine_eq]; omega) (by show (acc.push v).size ≤ sizeLine + 1; rw [Array.size_push, sizeLine_eq]; omega))
      exact False.elim (nn (Shared.setGen { s₁ with heap := s₁.heap.update S (Obj.mapSeq (·.push v)) } g gs') _ rfl (bare_set I4.bare hb) (fun b o hb' e => (Heap.get?_update_other _ _ (Ne.symm hb')).trans e) (Heap.get?_update_self _ hS' rfl) ⟨_, _, rfl, by
        rw [Array.toList_push]
        exact vals_snoc hV r⟩ (fun v z => by cases z))
    · obtain ⟨γ, oS', H4, e1, e2, I4, q⟩ := hp
      have e1 : s.heap.get? S = some oS' := e1
      rw [hS] at e1; cases e1
      obtain ⟨acc', c', e3, hV⟩ := e2
      cases e3
      have hS1 : s₁.heap.get? S = some (lstObj acc c) := (I4.pin (S, lstObj acc c) (by rw [hpn]; simp)).1
      exact wpAny_pure (hfin _ _ σw H4 _ _ _ (Inv.kall I4 rfl (bare_set I4.bare rfl) hk) (hk _ _ hS1) hV q)
  | succ n ih =>
    intro s acc c hoa hS haS ⟨hg, hl, gs, hgs, hgo⟩
    refine codeAny_builtin F.entry_extend_loop ?_
    rw [Around.under_plainId F.plain_extend_loop _]
    show wpAny _ A.in1 (pyNext (.ref a) >>= _) _ _ s
    refine wpAny_bind (next_sz (A := A.in1) hh hl hroom hg hgs hgo (fun v s₁ gs' hsz hb hv => ?_) (fun s₁ hsz hp h' hk => ?_))
    · obtain ⟨γ, oS', y, H4, σ4, e1, e2, I4, r, k, nn⟩ := hv
      have e1 : s.heap.get? S = some oS' := e1
      rw [hS] at e1; cases e1
      obtain ⟨acc', c', e3, hV⟩ := e2
      cases e3
      have hS' : s₁.heap.get? S = some (lstObj acc c) := (I4.pin (S, lstObj acc c) (by rw [hpn]; simp)).1
      have ha : s₁.heap.get? a = some oa := (I4.pin (a, oa) (by rw [hpn]; simp)).1
      obtain ⟨x, hx⟩ := gens_some hgs hsz rfl
      have hln : γ.length = acc.size := by rw [hV.length]; simp
      show wpAny _ A.in1 (updateSeq S (·.push v) >>= _) _ _ _
      refine wpAny_bind (wpAny_updateSeq hS' rfl (wpAny_pure ⟨plainId_quiet F.plain_extend_loop _, ?_⟩) (by rw [sizeLine_eq]; omega) (by show (acc.push v).size ≤ sizeLine + 1; rw [Array.size_push, sizeLine_eq]; omega))
      have oth : ∀ b o, b ≠ S → s₁.heap.get? b = some o → (s₁.heap.update S (Obj.mapSeq (·.push v))).get? b = some o := fun b o hb' e => (Heap.get?_update_other _ _ (Ne.symm hb')).trans e
      have hS3 := Heap.get?_update_self (Obj.mapSeq (·.push v)) hS' rfl
      have hV' : Vals (γ ++ [y]) (acc.push v).toList := by
        rw [Array.toList_push]
        exact vals_snoc hV r
      refine ih _ (acc.push v) _ (oth a oa haS ha) hS3 haS ⟨isgen_of hg hoa (oth a oa haS ha), ?_, gs', setGen_self hx, ?_⟩
      · exact (Inv.kallS (ps := [(a, oa)]) (s'' := { s₁.setGen g gs' with heap := s₁.heap.update S (Obj.mapSeq (·.push v)) }) I4 hSy (by rw [hpn]; intro p hp; have := List.mem_singleton.mp hp; subst this; exact haS) rfl (bare_set I4.bare hb) oth hS3 (fun v z => by cases z)).nolimit
      · exact nn (Shared.setGen { s₁.setGen g gs' with heap := s₁.heap.update S (Obj.mapSeq (·.push v)) } g .running) _ rfl (bare_set (bare_set I4.bare hb) rfl) oth hS3 ⟨_, _, rfl, hV'⟩ (fun v z => by cases z)
    · obtain ⟨γ, oS', H4, e1, e2, I4, q⟩ := hp
      have e1 : s.heap.get? S = some oS' := e1
      rw [hS] at e1; cases e1
      obtain ⟨acc', c', e3, hV⟩ := e2
      cases e3
      have hS1 : s₁.heap.get? S = some (lstObj acc c) := (I4.pin (S, lstObj acc c) (by rw [hpn]; simp)).1
      exact wpAny_pure (hfin _ _ σw H4 _ _ _ (Inv.kall I4 rfl (bare_set I4.bare rfl) hk) (hk _ _ hS1) hV q)
end
section
variable {prog : Program} {w : World} {A : Around} {E : Value → Shared → Prop} {s : Shared} {a : Addr} {g : Nat}
theorem keeps_push {h : Heap} {o : Obj} : ∀ b u, h.get? b = some u → (h.push o).get? b = some u := fun b u e => Heap.get?_push_of_some _ e
/-- a generator is collected by the loop that extends a new list -/
theorem collect_by {Q : List Value → Shared → Prop} (hG : s.heap.IsGen a g)
    (hQ : ∀ (h' : Heap) (S : Addr) (c tk : Nat), s.heap.objs.size ≤ S → (∀ b o, s.heap.get? b = some o → h'.get? b = some o) → h'.get? S = some (lstObj #[] c) →
      codeAny (model prog w) A (.builtin "list.extend.loop" ⟨[.ref S, .ref a, .ref S], []⟩) (fun r s' => ∃ acc c', r = .ok (.ret (.ref S)) ∧ s'.heap.get? S = some (lstObj acc c') ∧ Q acc.toList s') { s with heap := h', toks := tk }) :
    wpAny (model prog w) A (collect (.ref a)) Q E s := by
  obtain ⟨oa, hoa⟩ : ∃ oa, s.heap.get? a = some oa := by
    obtain ⟨_, _, _, o, _⟩ := hG
    exact ⟨_, o⟩
  have hlt := Heap.lt_size hoa
  have hSa : s.heap.objs.size ≠ a := fun e => Nat.lt_irrefl _ (e ▸ hlt)
  unfold collect
  refine wpAny_bind (wpAny_runValue (codeAny_builtin F.entry_proto_collect ?_))
  rw [Around.under_plainId F.plain_proto_collect _]
  show wpAny _ A.in1 (newList [] >>= fun l => again (.builtin "list.__iadd__" ⟨[l, .ref a], []⟩)) _ _ s
  refine wpAny_bind (wpAny_newObj_type ?_)
  refine wpAny_pure ⟨plainId_quiet F.plain_list_iadd _, codeAny_builtin F.entry_list_iadd ?_⟩
  rw [Around.under_plainId F.plain_list_iadd _]
  have hG1 : (s.heap.push (lstObj #[] 0)).IsGen a g := hG.push _
  have ty : (⟨s.heap.push (lstObj #[] 0), s.gens, s.drawn, s.toks, s.os⟩ : Shared).TypeIs (.ref a) "generator" := Heap.IsGen.typeIs (s := ⟨s.heap.push (lstObj #[] 0), s.gens, s.drawn, s.toks, s.os⟩) hG1
  show wpAny _ A.in1 (Builtin.List.listExtendWith (.ref s.heap.objs.size) (.ref a) (.ref s.heap.objs.size)) _ _ _
  unfold Builtin.List.listExtendWith
  refine wpAny_bind (wpAny_typeOf ty ?_)
  simp only [show Builtin.List.listSameRef (.ref s.heap.objs.size) (.ref a) = false by simp [Builtin.List.listSameRef, hSa], show (Value.type "generator" == Value.type "list") = false by decide, show (Value.type "generator" == Value.type "tuple") = false by decide, Bool.or_false, Bool.false_eq_true, if_false]
  refine wpAny_bind (wpAny_pyIter_gen hG1 ?_)
  refine wpAny_bind (wpAny_holding ?_)
  unfold Builtin.List.listLengthHint
  refine wpAny_bind (wpAny_specialOf ty F.gen_no_len ?_)
  show wpAny _ A.in1 (specialOf (Value.ref a) (Str.ofString "__length_hint__") >>= _) _ _ _
  refine wpAny_bind (wpAny_specialOf ty F.gen_no_hint ?_)
  apply wpAny_pure
  show wpAny _ A.in1 (rule "list.extend.makes-room" >>= fun _ => Builtin.List.listTouch (.ref s.heap.objs.size) >>= fun _ => again (.builtin "list.extend.loop" ⟨[.ref s.heap.objs.size, .ref a, .ref s.heap.objs.size], []⟩)) _ _ _
  refine wpAny_bind (wpAny_rule (wpAny_bind ?_))
  have g1 : (s.heap.push (lstObj #[] 0)).get? s.heap.objs.size = some (lstObj #[] 0) := Heap.get?_push_size _ rfl
  show wpAny _ A.in1 (updateSeq s.heap.objs.size (·.push .none) >>= fun _ => updateSeq s.heap.objs.size (·.pop)) _ _ _
  refine wpAny_bind (wpAny_updateSeq g1 rfl ?_)
  have g2 := Heap.get?_update_self (Obj.mapSeq (·.push Value.none)) g1 rfl
  refine wpAny_updateSeq g2 rfl ?_
  have g3 := Heap.get?_update_self (Obj.mapSeq (·.pop)) g2 rfl
  refine wpAny_pure ⟨plainId_quiet F.plain_extend_loop _, codeAny_mono (hQ _ _ _ _ (Nat.le_refl _) (fun b o e => ?_) g3) fun r s' hr => ?_⟩
  · have hb : b ≠ s.heap.objs.size := Nat.ne_of_lt (Heap.lt_size e)
    exact (Heap.get?_update_other _ _ (Ne.symm hb)).trans ((Heap.get?_update_other _ _ (Ne.symm hb)).trans (keeps_push b o e))
  · obtain ⟨acc, c', rfl, h1, h2⟩ := hr
    show wpAny _ A (load s.heap.objs.size >>= _) _ _ s'
    exact wpAny_bind (wpAny_load h1 (wpAny_pure h2))
/-- tuple(g) -/
theorem call_tup_by {Q : Value → Shared → Prop} (hG : s.heap.IsGen a g)
    (hQ : ∀ (h' : Heap) (S : Addr) (c tk : Nat), s.heap.objs.size ≤ S → (∀ b o, s.heap.get? b = some o → h'.get? b = some o) → h'.get? S = some (lstObj #[] c) →
      codeAny (model prog w) A.in1.in1 (.builtin "list.extend.loop" ⟨[.ref S, .ref a, .ref S], []⟩) (fun r s' => ∃ acc c', r = .ok (.ret (.ref S)) ∧ s'.heap.get? S = some (lstObj acc c') ∧ acc.size ≤ sizeLine ∧ Q (.ref s'.heap.objs.size) { s' with heap := s'.heap.push { cls := .type "tuple", data := .seq acc } }) { s with heap := h', toks := tk }) :
    wpAny (model prog w) A (call (.type "tuple") [.ref a]) Q E s := by
  refine callType_codes (Q₁ := fun obj s₁ => s₁.TypeIs obj "tuple" ∧ Q obj s₁) F.called_tuple (F.typeCall_tuple_1 _) F.entry_object_init ?_ fun obj s₁ h₁ => ⟨h₁.1, F.args_object_init_2 obj _, object_init_meets F.called_tuple.init.lookup F.called_tuple.made (by decide) prog w A.in1 _ s₁ ⟨h₁.1, rfl, h₁.2⟩⟩
  refine codeAny_of_tree ?_
  show wpAny _ A.in1.in1 (do checkBuiltinCall "tuple.__new__" ⟨[.type "tuple", .ref a], []⟩; again (.builtin "tuple.__new__" ⟨[.type "tuple", .ref a], []⟩)) _ _ s
  refine wpAny_bind (wpAny_of_eq (F.newCall_tuple_1 _) (wpAny_pure ⟨plainId_quiet F.plain_tuple_new _, codeAny_builtin F.entry_tuple_new ?_⟩))
  rw [Around.under_plainId F.plain_tuple_new _]
  have e1 := sub_tuple_self
  have e2 := init_tuple_lookup
  have e3 := madeHere_tuple
  have e4 := hG.typeIs
  wp_walk using wpAny_typeOf e4, collect_by hG
  intro h' S c tk hS hk h1
  refine codeAny_mono (hQ h' S c tk hS hk h1) fun r s' hr => ?_
  obtain ⟨acc, c', rfl, h2, h3, h4⟩ := hr
  refine ⟨acc, c', rfl, h2, ?_⟩
  show wpAny _ _ (Builtin.Tuple.tupleExact acc.toList.toArray >>= fun v => ret v) _ _ _
  unfold Builtin.Tuple.tupleExact
  refine wpAny_bind (wpAny_newObj_type ?_ (by rw [Array.toArray_toList]; exact h3))
  refine wpAny_pure ?_
  rw [Array.toArray_toList]
  exact ⟨⟨_, Heap.get?_push_size _ rfl, rfl⟩, h4⟩
end
section
variable {X : Cx}
def tTupG (P : Addr) (wi : TI) (g : TG) (tt : TT) (te : TE) (vs : List Nat) : TE := fun σ H Q => tGenS P wi g tt te vs stpT ([] : List V) (fun γ H' => γ.length ≤ 1001 ∧ ∀ p, H' p = none → Q (.ref p) (upd H' p (.tup γ))) σ H
theorem pe_tupG {c P : Addr} {elt tg iter : Expr} {ifs : List Expr} {p pos gpos : Pos} {scope : Scope} {own : List (Str × Nat)} {wi : TI} {g : TG} {tt : TT} {te : TE} {k : Nat}
    (hr : Room (k + 1) X.A) (hgl : Gl X "tuple") (hm : X.mg "tuple" = none) (hc : X.calm = true) (hN : X.N.Nodup) (TB : TabB X.base X.mg c P) (hcode : X.env.code = .ref c) (S : GSc X.N X.env.scope scope own) (hi : PI X tg iter wi)
    (hg : ∀ (A' : Around), Room k A' → ∀ (s : Shared) (H : Hp) (cl : List (Str × Addr)) (C : Addr) (code : Value) (fp : List Addr), PG (gcx X A' s H (genEnv scope cl C code builtinsNs X.env) fp) tg g)
    (ht : ∀ (A' : Around), Room k A' → ∀ (s : Shared) (H : Hp) (cl : List (Str × Addr)) (C : Addr) (code : Value) (fp : List Addr), PTs (gcx X A' s H (genEnv scope cl C code builtinsNs X.env) fp) ifs tt)
    (he : ∀ (A' : Around), Room k A' → ∀ (s : Shared) (H : Hp) (cl : List (Str × Addr)) (C : Addr) (code : Value) (fp : List Addr), PE (gcx X A' s H (genEnv scope cl C code builtinsNs X.env) fp) elt te)
    (hs : ∀ v, genFold iter X.env v = pure v := by intro _; rfl)
    (hst : starEach [.GeneratorExp elt [⟨tg, iter, ifs, 0⟩] scope gpos] X.env = (false, eval (.GeneratorExp elt [⟨tg, iter, ifs, 0⟩] scope gpos) X.env) :: starEach [] X.env := by rfl)
    (hb : bootBuiltins "tuple" = some (.type "tuple") := by decide +kernel) :
    PE X (.Call (.Name "tuple" p) [.GeneratorExp elt [⟨tg, iter, ifs, 0⟩] scope gpos] [] pos) (tTupG P wi g tt te (own.map (·.2))) := by
  refine ⟨fun pins s σ H Q I h => ?_⟩
  refine wpAny_Call_Name_kw (ld_blt I hgl hm hb ?_ (by decide) (by decide))
  refine PyProof.Rows.callWith_type1 ?_ hst (by rfl)
  rw [hst]
  show wpAny _ _ (spliced ((false, eval (.GeneratorExp elt [⟨tg, iter, ifs, 0⟩] scope gpos) X.env) :: backTo pos (starEach [] X.env))) _ _ s
  refine Calls.spliced_cons (gen_makeS4 (Rep := RepT) hr hc hN TB hcode S hi hg ht he stpT_mono hs I h fun XG a oa gn n σw s5 gs eP eW epn ha hG hgs hnl hb5 go hy back => ?_)
  refine Calls.spliced_nil ?_
  show wpAny _ _ (call (.type "tuple") [.ref a]) _ _ _
  refine call_tup_by hG fun h' L c tk hL hk h1 => ?_
  have haL : a ≠ L := Nat.ne_of_lt (Nat.lt_of_lt_of_le (Heap.lt_size ha) hL)
  refine tup_loop (A := X.A.in1.in1) (X := X) (XG := XG) (oa := oa) (g := gn) (σw := σw) (Qd := fun γ H' => γ.length ≤ 1001 ∧ ∀ p, H' p = none → Q (.ref p) (upd H' p (.tup γ))) hr.hd (by have := hr.dp; show X.A.depth < _; omega) epn (.inr (hy _ hL)) _ (fun s' ps σ' H' γ acc c' I' hS' hV q => ?_) n ({ s5 with heap := h', toks := tk } : Shared) #[] c (hk _ _ ha) h1 haL ⟨isgen_of hG ha (hk _ _ ha), (Heap.NoLimit.keeps hnl hk : h'.NoLimit), gs, hgs, ?_⟩
  · obtain ⟨ql, q⟩ := q
    have hln : γ.length = acc.size := by rw [hV.length]; simp
    have hsz : acc.size ≤ sizeLine := by rw [sizeLine_eq]; omega
    refine ⟨acc, c', rfl, hS', hsz, ?_⟩
    have I2 := back s' _ σ' H' I'
    have new : H' s'.heap.objs.size = none := I2.hok.fresh (Nat.le_refl _)
    refine ⟨.ref s'.heap.objs.size, upd H' s'.heap.objs.size (.tup γ), I2.laid (a := s'.heap.objs.size) (o := .tup γ) (h' := s'.heap.push { cls := .type "tuple", data := .seq acc }) (t' := s'.toks) (fun _ _ e => Heap.get?_push_of_some _ e) (Nat.le_refl _) ?_, rfl, q _ new⟩
    refine ⟨by rw [sizeLine_eq]; omega, acc.toList, hV, ?_⟩
    rw [Array.toArray_toList]
    exact ⟨_, Heap.get?_push_size _ rfl, rfl, 0, rfl⟩
  · exact go L (Shared.setGen _ gn .running) _ hL rfl (bare_set hb5 rfl) hk h1 ⟨_, _, rfl, .nil⟩ (fun v z => by cases z)
end
end GAl

set_option Elab.async false
set_option linter.all false
set_option maxRecDepth 100000
set_option maxHeartbeats 4000000
namespace HK
open PySem PySem.Spec PyProof.Rows L2 GAl GxR
def methS (i j : Nat) : Stmt := match topS i with
  | .ClassDef _ _ _ body _ _ _ _ _ _ _ => body.getD j (.Pass ⟨0, 0, 0, 0⟩)
  | s => s
abbrev sInit : Stmt := methS 56 0
abbrev N_scInit : List Str := ["self", "up", "place"]
theorem scInit : FnScope N_scInit ["self", "up"] (defScope sInit) := ⟨rfl, rfl, rfl, by decide +kernel, rfl, by decide +kernel, by decide +kernel⟩
abbrev sHearers : Stmt := methS 56 12
abbrev N_scHearers : List Str := ["self", "place"]
theorem scHearers : FnScope N_scHearers ["self"] (defScope sHearers) := ⟨rfl, rfl, rfl, by decide +kernel, rfl, by decide +kernel, by decide +kernel⟩
def hearF : List Str := ["ahead", "root", "counted", "hears", "counts", "served", "letter_rows", "copy_rows", "stay_lists", "emitted", "letter_sum", "copy_sum"]
/-- the fields that a Hearing has -/
structure HearN (K : PySem.W.Frag) (C : Addr) : Prop where
  c : Cls K C
  n : ∀ f ∈ (["ahead", "root", "counted", "hears", "counts", "served", "letter_rows", "copy_rows", "stay_lists", "emitted", "letter_sum", "copy_sum"] : List Str), NoAttr K C f
theorem shaped_us (us : List (Option Int)) : SeqAt.shaped (.tuple (us.map oD)) = true := by
  have h1 : ∀ us : List (Option Int), PyData.canLayAll0 (us.map oD) = true := fun us => by
    induction us with
    | nil => rfl
    | cons o r ih => cases o <;> (rw [List.map_cons]; simp only [PyData.canLayAll0, ih, oD, PyData.canLay0, Bool.and_true])
  have h2 : ∀ us : List (Option Int), PyData.depthAll (us.map oD) ≤ 1 := fun us => by
    induction us with
    | nil => decide
    | cons o r ih => cases o <;> (rw [List.map_cons]; simp only [PyData.depthAll, oD, PyData.depth]; omega)
  show (PyData.canLay0 (.tuple (us.map oD)) && decide (PyData.depth (.tuple (us.map oD)) ≤ 64)) = true
  rw [Bool.and_eq_true, decide_eq_true_iff]
  refine ⟨by simp only [PyData.canLay0, h1 us], ?_⟩
  have := h2 us
  simp only [PyData.depth]
  omega
theorem Kt.setI {t : Addr} {H : Hp} {C dx : Addr} {fs gs : List (Str × V)} (h : H t = some (.ins C dx fs)) : Kt t H (upd H t (.ins C dx gs)) := ⟨fun b zs e => by
  rw [upd_ne (ne_of e h (fun z => by cases z))]; exact e, fun b o u e => by
  rw [upd_ne (ne_of e h (fun z => by cases z))]; exact e, fun b o e n _ => by rw [upd_ne n]; exact e, fun P hP => by
  obtain ⟨ps, e, ht⟩ := hP
  exact ⟨ps, by rw [upd_ne (ne_of e h (fun z => by cases z))]; exact e, ht⟩, fun _ e => upd_none e⟩
/-- the object while it is made -/
structure HI (K : PySem.W.Frag) (H H' : Hp) (x C dx p : Addr) (fs : List (Str × V)) (m : Nat) : Prop where
  k : Kt x H H'
  x : H' x = some (.ins C dx fs)
  l : fs.length ≤ m
  a : fs.lookup ("ahead" : Str) = some (.ref p)
  o : ∀ g : Str, g ∉ hearF → fs.lookup g = none
theorem HI.put {K : PySem.W.Frag} {H H' H'' : Hp} {x C dx p : Addr} {fs : List (Str × V)} {m : Nat} (h : HI K H H' x C dx p fs m) (k : K0 H' H'') (f : Str) (y : V) (hf : ("ahead" : Str) ≠ f) (hm : f ∈ hearF := by simp [hearF]) : HI K H (upd H'' x (.ins C dx (putF f y fs))) x C dx p (putF f y fs) (m + 1) := by
  have hx := k.oth x _ h.x (fun _ z => by cases z)
  refine ⟨(h.k.trans k.kt).trans (Kt.setI hx), upd_same, Nat.le_trans (length_putF f y fs) (Nat.add_le_add_right h.l 1), ?_, ?_⟩
  · rw [lookup_putF, if_neg hf]
    exact h.a
  · intro g hg
    rw [lookup_putF, if_neg (fun z : g = f => hg (by rw [z]; exact hm))]
    exact h.o g hg
theorem lk_put {f g : Str} {y : V} {fs : List (Str × V)} {z : V} (h : fs.lookup g = some z) (hf : g ≠ f) : (putF f y fs).lookup g = some z := by
  rw [lookup_putF, if_neg hf]
  exact h
section
variable {P : Program} {w : World} {K : PySem.W.Frag} {mg : Str → Option Value} {base : Heap}
def spInit (K : PySem.W.Frag) (C Pw : Addr) : Sp := fun vs H Q _ => ∃ (x dx p : Addr) (us : List (Option Int)), vs = [.ref x, .ref p] ∧ H x = some (.ins C dx []) ∧ WaysAt H p us ∧ Ways us ∧ TabG H Pw ∧
  ∀ (fs : List (Str × V)) (h : Addr) (H' : Hp), Kt x H H' → H' x = some (.ins C dx fs) → fs.lookup ("ahead" : Str) = some (.ref p) → fs.lookup ("hears" : Str) = some (.ref h) → H' h = some (.lst (List.replicate us.length (.bl false))) → (∀ g : Str, g ∉ hearF → fs.lookup g = none) → Q .non H'
theorem ok_init {f C Pw : Addr} {fd : FuncData} {f_needways : Addr} {fd_needways : FuncData} (F : Fun K "__init__" "Hearing.__init__" sInit f fd) (hC : HearN K C) (k_needways : PySem.W.keepIn K (.ref f_needways) = true) (b_needways : Binds K fd_needways ["up"] []) (g_needways : mg "need_ways" = some (.ref f_needways)) (G_needways : FnOk P w K mg base CX0 5 f_needways fd_needways ["up"] (spNeedWaysG K Pw)) : FnOk P w K mg base CX0 6 f fd ["self", "up"] (spInit K C Pw) := by
  refine F.ok scInit (fun vs H Q E h => ?_) (fun cdv A outer s H vs Q E hr h => ?_)
  · obtain ⟨x, dx, p, us, rfl, _⟩ := h
    rfl
  · obtain ⟨x, dx, p, us, rfl, hx, hA, hW, tw, q⟩ := h
    have hu := hu_of hr
    have cn : ∀ f ∈ (["ahead", "root", "counted", "hears", "counts", "served", "letter_rows", "copy_rows", "stay_lists", "emitted", "letter_sum", "copy_sum"] : List Str), NoAttr K C f := hC.n
    refine ⟨_, (pss_cons (ps_expr (pe_call G_needways (hr.mono (by decide)) (by rfl) g_needways k_needways b_needways .nil pass0 (pa_cons (pv 1) pa_nil)))
      (pss_cons (ps_fld (pv 0) (pv 1) rfl)
      (pss_cons (ps_fld (pv 0) (pe_bmF PySem.F.plainAttrs_tuple PySem.F.slot_tuple_index PySem.F.type_tuple_index (mt_indexT (show (A.deeper (envOfC "Hearing.__init__" (defScope sInit) s.heap.objs.size f cdv)).units + 65 < cLine by have := hr.un; omega)) (pv 1) (pa_cons pe_non pa_nil)) rfl)
      (pss_cons (ps_fld (pv 0) pe_bl rfl)
      (pss_cons (ps_fld (pv 0) (pe_lc (own := [("place", 2)]) (g := (gName 2)) (tt := tYes) (te := (tC (.bl false))) rfl scInit.nd (pi_tup (pv 1)) (blkOk_by (N := N_scInit) (sc := defScope sInit) (by decide +kernel)) (fun _ _ _ _ _ => (pg_name (i := 2) scInit.nd rfl (.inl rfl))) (fun _ _ _ _ _ => pts_nil) (fun _ _ _ _ _ => pe_bl)) rfl)
      (pss_cons (ps_fld (pv 0) (pe_lc (own := [("place", 2)]) (g := (gName 2)) (tt := tYes) (te := (tC (.int 0))) rfl scInit.nd (pi_tup (pv 1)) (blkOk_by (N := N_scInit) (sc := defScope sInit) (by decide +kernel)) (fun _ _ _ _ _ => (pg_name (i := 2) scInit.nd rfl (.inl rfl))) (fun _ _ _ _ _ => pts_nil) (fun _ _ _ _ _ => pe_int)) rfl)
      (pss_cons (ps_fld (pv 0) (pe_lc (own := [("place", 2)]) (g := (gName 2)) (tt := tYes) rfl scInit.nd (pi_tup (pv 1)) (blkOk_by (N := N_scInit) (sc := defScope sInit) (by decide +kernel)) (fun _ _ _ _ _ => (pg_name (i := 2) scInit.nd rfl (.inl rfl))) (fun _ _ _ _ _ => pts_nil) (fun _ _ _ _ _ => pe_dnewK)) rfl)
      (pss_cons (ps_fld (pv 0) (pe_lc (own := [("place", 2)]) (g := (gName 2)) (tt := tYes) rfl scInit.nd (pi_tup (pv 1)) (blkOk_by (N := N_scInit) (sc := defScope sInit) (by decide +kernel)) (fun _ _ _ _ _ => (pg_name (i := 2) scInit.nd rfl (.inl rfl))) (fun _ _ _ _ _ => pts_nil) (fun _ _ _ _ _ => (pe_lst pa_nil))) rfl)
      (pss_cons (ps_fld (pv 0) (pe_lc (own := [("place", 2)]) (g := (gName 2)) (tt := tYes) rfl scInit.nd (pi_tup (pv 1)) (blkOk_by (N := N_scInit) (sc := defScope sInit) (by decide +kernel)) (fun _ _ _ _ _ => (pg_name (i := 2) scInit.nd rfl (.inl rfl))) (fun _ _ _ _ _ => pts_nil) (fun _ _ _ _ _ => (pe_lst pa_nil))) rfl)
      (pss_cons (ps_fld (pv 0) (pe_lc (own := [("place", 2)]) (g := (gName 2)) (tt := tYes) rfl scInit.nd (pi_tup (pv 1)) (blkOk_by (N := N_scInit) (sc := defScope sInit) (by decide +kernel)) (fun _ _ _ _ _ => (pg_name (i := 2) scInit.nd rfl (.inl rfl))) (fun _ _ _ _ _ => pts_nil) (fun _ _ _ _ _ => (pe_lst pa_nil))) rfl)
      (pss_cons (ps_fld (pv 0) pe_int rfl)
      (pss_cons (ps_fld (pv 0) pe_int rfl)
      (pss_one (ps_fld (pv 0) pe_int rfl)))))))))))))), ?_⟩
    refine ⟨_, rfl, .ref p, rfl, hA.ans hW, tw, fun H1 k1 => ?_⟩
    have hx1 := k1.oth x _ hx (fun _ z => by cases z)
    have hS := (hA.k0 k1).sq (K := K)
    have hl0 : (us.map oV).length = us.length := List.length_map ..
    have w8 := hW.n8
    refine ⟨_, rfl, _, rfl, x, C, dx, [], rfl, hx1, hC.c, cn _ (by simp), (by decide), ?_⟩
    have I1 : HI K H (upd H1 x (.ins C dx (putF "ahead" (.ref p) []))) x C dx p (putF "ahead" (.ref p) []) 1 := ⟨k1.kt.trans (Kt.setI hx1), upd_same, length_putF _ _ _, by rw [lookup_putF, if_pos rfl], fun g hg => by rw [lookup_putF, if_neg (fun z : g = ("ahead" : Str) => hg (by rw [z]; simp [hearF]))]; rfl⟩
    generalize upd H1 x (.ins C dx (putF "ahead" (.ref p) [])) = G1 at I1 ⊢
    generalize putF "ahead" (.ref p) [] = f1 at I1 ⊢
    obtain ⟨r, hr0, hr1⟩ := hW.one
    obtain ⟨o, hpo, oc, od⟩ := hA.kt I1.k
    refine ⟨_, rfl, ⟨p, o, _, rfl, hpo, oc, od⟩, p, .non, .none, us.map oD, r, .none, rfl, rfl, .tup (.inl (.inr ⟨o, hpo⟩)) (oV_dp us), .non, shaped_us us, by decide +kernel, by rw [List.getElem?_map, hr0]; rfl, by decide +kernel, fun m z' hm hz' => ?_, ?_⟩
    · rw [List.getElem?_map] at hz'
      cases e : us[m]? with
      | none => rw [e] at hz'; cases hz'
      | some x =>
        rw [e] at hz'
        cases hz'
        cases x with
        | none => have := hr1 m e; omega
        | some u => simp [oD, PyData.eqv]
    refine ⟨_, rfl, x, C, dx, f1, rfl, I1.x, hC.c, cn _ (by simp), Nat.lt_of_le_of_lt I1.l (by decide), ?_⟩
    have I2 := I1.put (K0.refl _) "root" (.int r) (by decide)
    generalize upd G1 x (.ins C dx (putF "root" (.int r) f1)) = G2 at I2 ⊢
    generalize putF "root" (.int r) f1 = f2 at I2 ⊢
    refine ⟨_, rfl, x, C, dx, f2, rfl, I2.x, hC.c, cn _ (by simp), Nat.lt_of_le_of_lt I2.l (by decide), ?_⟩
    have I3 := I2.put (K0.refl _) "counted" (.bl true) (by decide)
    generalize upd G2 x (.ins C dx (putF "counted" (.bl true) f2)) = G3 at I3 ⊢
    generalize putF "counted" (.bl true) f2 = f3 at I3 ⊢
    have hS3 := (hA.kt I3.k).sq (K := K)
    refine ⟨_, rfl, p, rfl, ⟨_, hS3⟩, fun D nD => ?_⟩
    refine lc_tup (K := K) (a := p) (xs := us.map oV) (fun i H' => K0 G3 H' ∧ H' D = some (.lst (List.replicate i (.bl false)))) ⟨K0.new nD, upd_same⟩ (fun i H' _ h => h.1.sqT hS3) (fun i z H' hz h => ?_) (fun H' h => ?_)
    · obtain ⟨k, hD⟩ := h
      have hi := (List.getElem?_eq_some_iff.mp hz).1
      refine ⟨rfl, tyes ⟨_, hD, Nat.lt_of_le_of_lt (m := 5000) (by rw [List.length_replicate]; omega) (by decide), k.mut nD, ?_⟩⟩
      rw [List.replicate_succ']
      exact upd_same
    obtain ⟨k, hD⟩ := h
    rw [hl0] at hD
    have hxD : D ≠ x := fun w => by rw [w, I3.x] at nD; cases nD
    refine ⟨_, rfl, x, C, dx, f3, rfl, k.oth x _ I3.x (fun _ w => by cases w), hC.c, cn _ (by simp), Nat.lt_of_le_of_lt I3.l (by decide), ?_⟩
    have I4 := I3.put k "hears" (.ref D) (by decide)
    have la4 : (putF "hears" (.ref D) f3).lookup ("hears" : Str) = some (.ref D) := by rw [lookup_putF, if_pos rfl]
    have hh4 : (upd H' x (.ins C dx (putF "hears" (.ref D) f3))) D = some (.lst (List.replicate us.length (.bl false))) := by rw [upd_ne hxD]; exact hD
    generalize upd H' x (.ins C dx (putF "hears" (.ref D) f3)) = G4 at I4 hh4 ⊢
    generalize putF "hears" (.ref D) f3 = f4 at I4 la4 ⊢
    have hS4 := (hA.kt I4.k).sq (K := K)
    refine ⟨_, rfl, p, rfl, ⟨_, hS4⟩, fun D4 nD4 => ?_⟩
    refine lc_tup (K := K) (a := p) (xs := us.map oV) (fun i H' => K0 G4 H' ∧ ∃ acc, H' D4 = some (.lst acc) ∧ acc.length = i) ⟨K0.new nD4, [], upd_same, rfl⟩ (fun i H' _ h => h.1.sqT hS4) (fun i z H' hz h => ?_) (fun H' h => ?_)
    · obtain ⟨k, acc, hacc, hal⟩ := h
      have hi := (List.getElem?_eq_some_iff.mp hz).1
      exact ⟨rfl, tyes ⟨_, hacc, Nat.lt_of_le_of_lt (m := 5000) (by omega) (by decide), k.mut nD4, _, upd_same, by rw [List.length_append, hal]; rfl⟩⟩
    obtain ⟨k4', acc4, hacc4, hal4⟩ := h
    refine ⟨_, rfl, x, C, dx, f4, rfl, k4'.oth x _ I4.x (fun _ w => by cases w), hC.c, cn _ (by simp), Nat.lt_of_le_of_lt I4.l (by decide), ?_⟩
    have I5 := I4.put k4' "counts" (.ref D4) (by decide)
    have la5 := lk_put (f := "counts") (y := .ref D4) la4 (by decide)
    have hh5 : (upd H' x (.ins C dx (putF "counts" (.ref D4) f4))) D = some (.lst (List.replicate us.length (.bl false))) := by rw [upd_ne hxD]; exact k4'.oth D _ hh4 (fun _ w => by cases w)
    generalize upd H' x (.ins C dx (putF "counts" (.ref D4) f4)) = G5 at I5 hh5 ⊢
    generalize putF "counts" (.ref D4) f4 = f5 at I5 la5 ⊢
    have hS5 := (hA.kt I5.k).sq (K := K)
    refine ⟨_, rfl, p, rfl, ⟨_, hS5⟩, fun D5 nD5 => ?_⟩
    refine lc_tup (K := K) (a := p) (xs := us.map oV) (fun i H' => K0 G5 H' ∧ ∃ acc, H' D5 = some (.lst acc) ∧ acc.length = i) ⟨K0.new nD5, [], upd_same, rfl⟩ (fun i H' _ h => h.1.sqT hS5) (fun i z H' hz h => ?_) (fun H' h => ?_)
    · obtain ⟨k, acc, hacc, hal⟩ := h
      have hi := (List.getElem?_eq_some_iff.mp hz).1
      refine ⟨rfl, tyes fun q nq => ?_⟩
      have kq := K0.new nq (o := .dK [])
      exact ⟨_, kq.oth D5 _ hacc (fun _ w => by cases w), Nat.lt_of_le_of_lt (m := 5000) (by omega) (by decide), (k.trans kq).mut nD5, _, upd_same, by rw [List.length_append, hal]; rfl⟩
    obtain ⟨k5', acc5, hacc5, hal5⟩ := h
    refine ⟨_, rfl, x, C, dx, f5, rfl, k5'.oth x _ I5.x (fun _ w => by cases w), hC.c, cn _ (by simp), Nat.lt_of_le_of_lt I5.l (by decide), ?_⟩
    have I6 := I5.put k5' "served" (.ref D5) (by decide)
    have la6 := lk_put (f := "served") (y := .ref D5) la5 (by decide)
    have hh6 : (upd H' x (.ins C dx (putF "served" (.ref D5) f5))) D = some (.lst (List.replicate us.length (.bl false))) := by rw [upd_ne hxD]; exact k5'.oth D _ hh5 (fun _ w => by cases w)
    generalize upd H' x (.ins C dx (putF "served" (.ref D5) f5)) = G6 at I6 hh6 ⊢
    generalize putF "served" (.ref D5) f5 = f6 at I6 la6 ⊢
    have hS6 := (hA.kt I6.k).sq (K := K)
    refine ⟨_, rfl, p, rfl, ⟨_, hS6⟩, fun D6 nD6 => ?_⟩
    refine lc_tup (K := K) (a := p) (xs := us.map oV) (fun i H' => K0 G6 H' ∧ ∃ acc, H' D6 = some (.lst acc) ∧ acc.length = i) ⟨K0.new nD6, [], upd_same, rfl⟩ (fun i H' _ h => h.1.sqT hS6) (fun i z H' hz h => ?_) (fun H' h => ?_)
    · obtain ⟨k, acc, hacc, hal⟩ := h
      have hi := (List.getElem?_eq_some_iff.mp hz).1
      refine ⟨rfl, tyes ⟨Nat.zero_le _, fun q nq => ?_⟩⟩
      have kq := K0.new nq (o := .lst [])
      exact ⟨_, kq.oth D6 _ hacc (fun _ w => by cases w), Nat.lt_of_le_of_lt (m := 5000) (by omega) (by decide), (k.trans kq).mut nD6, _, upd_same, by rw [List.length_append, hal]; rfl⟩
    obtain ⟨k6', acc6, hacc6, hal6⟩ := h
    refine ⟨_, rfl, x, C, dx, f6, rfl, k6'.oth x _ I6.x (fun _ w => by cases w), hC.c, cn _ (by simp), Nat.lt_of_le_of_lt I6.l (by decide), ?_⟩
    have I7 := I6.put k6' "letter_rows" (.ref D6) (by decide)
    have la7 := lk_put (f := "letter_rows") (y := .ref D6) la6 (by decide)
    have hh7 : (upd H' x (.ins C dx (putF "letter_rows" (.ref D6) f6))) D = some (.lst (List.replicate us.length (.bl false))) := by rw [upd_ne hxD]; exact k6'.oth D _ hh6 (fun _ w => by cases w)
    generalize upd H' x (.ins C dx (putF "letter_rows" (.ref D6) f6)) = G7 at I7 hh7 ⊢
    generalize putF "letter_rows" (.ref D6) f6 = f7 at I7 la7 ⊢
    have hS7 := (hA.kt I7.k).sq (K := K)
    refine ⟨_, rfl, p, rfl, ⟨_, hS7⟩, fun D7 nD7 => ?_⟩
    refine lc_tup (K := K) (a := p) (xs := us.map oV) (fun i H' => K0 G7 H' ∧ ∃ acc, H' D7 = some (.lst acc) ∧ acc.length = i) ⟨K0.new nD7, [], upd_same, rfl⟩ (fun i H' _ h => h.1.sqT hS7) (fun i z H' hz h => ?_) (fun H' h => ?_)
    · obtain ⟨k, acc, hacc, hal⟩ := h
      have hi := (List.getElem?_eq_some_iff.mp hz).1
      refine ⟨rfl, tyes ⟨Nat.zero_le _, fun q nq => ?_⟩⟩
      have kq := K0.new nq (o := .lst [])
      exact ⟨_, kq.oth D7 _ hacc (fun _ w => by cases w), Nat.lt_of_le_of_lt (m := 5000) (by omega) (by decide), (k.trans kq).mut nD7, _, upd_same, by rw [List.length_append, hal]; rfl⟩
    obtain ⟨k7', acc7, hacc7, hal7⟩ := h
    refine ⟨_, rfl, x, C, dx, f7, rfl, k7'.oth x _ I7.x (fun _ w => by cases w), hC.c, cn _ (by simp), Nat.lt_of_le_of_lt I7.l (by decide), ?_⟩
    have I8 := I7.put k7' "copy_rows" (.ref D7) (by decide)
    have la8 := lk_put (f := "copy_rows") (y := .ref D7) la7 (by decide)
    have hh8 : (upd H' x (.ins C dx (putF "copy_rows" (.ref D7) f7))) D = some (.lst (List.replicate us.length (.bl false))) := by rw [upd_ne hxD]; exact k7'.oth D _ hh7 (fun _ w => by cases w)
    generalize upd H' x (.ins C dx (putF "copy_rows" (.ref D7) f7)) = G8 at I8 hh8 ⊢
    generalize putF "copy_rows" (.ref D7) f7 = f8 at I8 la8 ⊢
    have hS8 := (hA.kt I8.k).sq (K := K)
    refine ⟨_, rfl, p, rfl, ⟨_, hS8⟩, fun D8 nD8 => ?_⟩
    refine lc_tup (K := K) (a := p) (xs := us.map oV) (fun i H' => K0 G8 H' ∧ ∃ acc, H' D8 = some (.lst acc) ∧ acc.length = i) ⟨K0.new nD8, [], upd_same, rfl⟩ (fun i H' _ h => h.1.sqT hS8) (fun i z H' hz h => ?_) (fun H' h => ?_)
    · obtain ⟨k, acc, hacc, hal⟩ := h
      have hi := (List.getElem?_eq_some_iff.mp hz).1
      refine ⟨rfl, tyes ⟨Nat.zero_le _, fun q nq => ?_⟩⟩
      have kq := K0.new nq (o := .lst [])
      exact ⟨_, kq.oth D8 _ hacc (fun _ w => by cases w), Nat.lt_of_le_of_lt (m := 5000) (by omega) (by decide), (k.trans kq).mut nD8, _, upd_same, by rw [List.length_append, hal]; rfl⟩
    obtain ⟨k8', acc8, hacc8, hal8⟩ := h
    refine ⟨_, rfl, x, C, dx, f8, rfl, k8'.oth x _ I8.x (fun _ w => by cases w), hC.c, cn _ (by simp), Nat.lt_of_le_of_lt I8.l (by decide), ?_⟩
    have I9 := I8.put k8' "stay_lists" (.ref D8) (by decide)
    have la9 := lk_put (f := "stay_lists") (y := .ref D8) la8 (by decide)
    have hh9 : (upd H' x (.ins C dx (putF "stay_lists" (.ref D8) f8))) D = some (.lst (List.replicate us.length (.bl false))) := by rw [upd_ne hxD]; exact k8'.oth D _ hh8 (fun _ w => by cases w)
    generalize upd H' x (.ins C dx (putF "stay_lists" (.ref D8) f8)) = G9 at I9 hh9 ⊢
    generalize putF "stay_lists" (.ref D8) f8 = f9 at I9 la9 ⊢
    refine ⟨_, rfl, x, C, dx, f9, rfl, I9.x, hC.c, cn _ (by simp), Nat.lt_of_le_of_lt I9.l (by decide), ?_⟩
    have I10 := I9.put (K0.refl _) "emitted" (.int 0) (by decide)
    have la10 := lk_put (f := "emitted") (y := (.int 0)) la9 (by decide)
    have hh10 : (upd G9 x (.ins C dx (putF "emitted" (.int 0) f9))) D = some (.lst (List.replicate us.length (.bl false))) := by rw [upd_ne hxD]; exact hh9
    generalize upd G9 x (.ins C dx (putF "emitted" (.int 0) f9)) = G10 at I10 hh10 ⊢
    generalize putF "emitted" (.int 0) f9 = f10 at I10 la10 ⊢
    refine ⟨_, rfl, x, C, dx, f10, rfl, I10.x, hC.c, cn _ (by simp), Nat.lt_of_le_of_lt I10.l (by decide), ?_⟩
    have I11 := I10.put (K0.refl _) "letter_sum" (.int 0) (by decide)
    have la11 := lk_put (f := "letter_sum") (y := (.int 0)) la10 (by decide)
    have hh11 : (upd G10 x (.ins C dx (putF "letter_sum" (.int 0) f10))) D = some (.lst (List.replicate us.length (.bl false))) := by rw [upd_ne hxD]; exact hh10
    generalize upd G10 x (.ins C dx (putF "letter_sum" (.int 0) f10)) = G11 at I11 hh11 ⊢
    generalize putF "letter_sum" (.int 0) f10 = f11 at I11 la11 ⊢
    refine ⟨_, rfl, x, C, dx, f11, rfl, I11.x, hC.c, cn _ (by simp), Nat.lt_of_le_of_lt I11.l (by decide), ?_⟩
    have I12 := I11.put (K0.refl _) "copy_sum" (.int 0) (by decide)
    have la12 := lk_put (f := "copy_sum") (y := (.int 0)) la11 (by decide)
    have hh12 : (upd G11 x (.ins C dx (putF "copy_sum" (.int 0) f11))) D = some (.lst (List.replicate us.length (.bl false))) := by rw [upd_ne hxD]; exact hh11
    generalize upd G11 x (.ins C dx (putF "copy_sum" (.int 0) f11)) = G12 at I12 hh12 ⊢
    generalize putF "copy_sum" (.int 0) f11 = f12 at I12 la12 ⊢
    exact q f12 D G12 I12.k I12.x I12.a la12 hh12 I12.o
/-- the places of the truths -/
def hearL (bs : List Bool) : List Int := ((List.range bs.length).filter fun i => bs.getD i false).map fun (i : Nat) => (i : Int)
def hearK (bs : List Bool) (k : Nat) : List Int := ((List.range k).filter fun i => bs.getD i false).map fun (i : Nat) => (i : Int)
theorem hearK_succ (bs : List Bool) (k : Nat) : hearK bs (k + 1) = hearK bs k ++ (if bs.getD k false = true then [(k : Int)] else []) := by
  unfold hearK
  rw [List.range_succ, List.filter_append, List.map_append]
  congr 1
  cases h : bs.getD k false with
  | true => rw [if_pos rfl, List.filter_cons, h]; rfl
  | false => rw [if_neg Bool.false_ne_true, List.filter_cons, h]; rfl
theorem hearK_len (bs : List Bool) (k : Nat) : (hearK bs k).length ≤ k := by
  unfold hearK
  rw [List.length_map]
  exact Nat.le_trans (List.length_filter_le _ _) (by rw [List.length_range]; exact Nat.le_refl _)
def spHearers (K : PySem.W.Frag) (C Ph : Addr) : Sp := fun vs H Q _ => ∃ (x dx p h : Addr) (fs : List (Str × V)) (xs : List V) (bs : List Bool), vs = [.ref x] ∧ H x = some (.ins C dx fs) ∧ fs.lookup ("ahead" : Str) = some (.ref p) ∧ SqT K H p xs ∧
  fs.lookup ("hears" : Str) = some (.ref h) ∧ H h = some (.lst (bs.map V.bl)) ∧ bs.length = xs.length ∧ xs.length ≤ 100 ∧ TabG H Ph ∧ ∀ (q : Addr) (H' : Hp), K0 H H' → SqT K H' q ((hearL bs).map V.int) → Q (.ref q) H'
set_option maxHeartbeats 16000000 in
theorem ok_hearers {f c C Ph : Addr} {fd : FuncData} (F : FunC K "hearers" "Hearing.hearers" sHearers f fd c) (TB : TabB base mg c Ph) (hC : HearN K C) (m_tuple : mg "tuple" = none) (m_range : mg "range" = none) (m_len : mg "len" = none) : FnOk P w K mg base CX0 3 f fd ["self"] (spHearers K C Ph) := by
  refine F.ok scHearers (fun vs H Q E h => ?_) (fun A outer s H vs Q E hr h => ?_)
  · obtain ⟨x, dx, p, h, fs, xs, bs, rfl, _⟩ := h
    rfl
  · obtain ⟨x, dx, p, h, fs, xs, bs, rfl, hx, la, hS, lh, hh, hbl, hxl, tc, q⟩ := h
    have hu := hu_of hr
    refine ⟨_, (pss_one (ps_ret (pe_tupG (own := [("place", 1)]) (k := 1) (g := (gName 1)) (tt := (tB (tOp (rIxL K) (tFld K (tVar 0) "hears") (tVar 1)))) (te := (tVar 1)) (hr.mono (by decide)) (by rfl) m_tuple rfl scHearers.nd TB rfl (gsc_by (N := N_scHearers) (sc := defScope sHearers) (by decide +kernel)) (pi_range1 (by rfl) m_range (pa_cons (pe_callB call_len_seq (by rfl) m_len PySem.boot_len (pa_cons (pe_fld (pv 0) rfl) pa_nil)) pa_nil)) (fun A' hr' _ _ _ _ _ _ => (pg_name (i := 1) scHearers.nd rfl (.inl rfl))) (fun A' hr' _ _ _ _ _ _ => (pts_one (pt_val (pe_ix ix_list (pe_fld (pv 0) rfl) (pv 1) (fun _ _ => rfl))))) (fun A' hr' _ _ _ _ _ _ => (pv 1))))), ?_⟩
    refine ⟨_, rfl, x, C, dx, fs, .ref p, rfl, hx, hC.c, hC.n _ (by simp), la, p, _, rfl, .inr hS, _, rfl, by omega, by omega, tc, fun H2 hT2 => ?_⟩
    have k2 : K0 H H2 := K0.tbd tc hT2
    refine ⟨fun i m γ H5 => i + m = xs.length ∧ K0 H H5 ∧ γ = (hearK bs i).map V.int, ⟨xs.length, by omega, k2, rfl⟩, fun i m γ H5 hW => ?_⟩
    obtain ⟨em, k5, eγ⟩ := hW
    by_cases hi : i < xs.length
    · refine .inr ⟨(show i < ((xs.length : Nat) : Int).toNat by omega), fun γ' H' => K0 H H' ∧ γ' = (hearK bs (i + 1)).map V.int, fun γ' H' hN => ⟨m - 1, by omega, by omega, hN⟩, fun z H' hy => ?_⟩
      obtain ⟨rfl, rfl⟩ := hy
      have hib : i < bs.length := by omega
      have gb : bs.getD i false = bs[i] := by rw [List.getD_eq_getElem?_getD, List.getElem?_eq_getElem hib]; rfl
      refine ⟨rfl, _, rfl, x, C, dx, fs, .ref h, rfl, k5.oth x _ hx (fun _ w => by cases w), hC.c, hC.n _ (by simp), lh, _, rfl, h, _, _, .bl bs[i], rfl, rfl, .inl (.inl (k5.oth h _ hh (fun _ w => by cases w))), ?_, bs[i], rfl, ?_⟩
      · rw [show (0 : Int) + (i : Int) = ((i : Nat) : Int) by omega]
        exact atI_nat (by rw [List.getElem?_map, List.getElem?_eq_getElem hib]; rfl)
      · cases hb : bs[i] with
        | true =>
          refine iteT ⟨_, rfl, ?_, k5, ?_⟩
          · rw [eγ, List.length_map]
            exact Nat.le_trans (hearK_len bs i) (by omega)
          · rw [eγ, hearK_succ, gb, hb, if_pos rfl, List.map_append, show (0 : Int) + (i : Int) = ((i : Nat) : Int) by omega]
            rfl
        | false =>
          refine iteF ⟨k5, ?_⟩
          rw [eγ, hearK_succ, gb, hb, if_neg Bool.false_ne_true, List.append_nil]
    · refine .inl ⟨(show ((xs.length : Nat) : Int).toNat ≤ i by omega), ?_, fun q1 nq => ?_⟩
      · rw [eγ, List.length_map]
        exact Nat.le_trans (hearK_len bs i) (by omega)
      · refine q q1 _ (k5.trans (K0.new nq)) (.inl (.inl ?_))
        rw [upd_same, eγ, show i = bs.length by omega]
        rfl
end
end HK

set_option Elab.async false
set_option linter.all false
set_option maxRecDepth 100000
set_option maxHeartbeats 4000000
namespace HK
open PySem PySem.Spec PyProof.Rows L2 GAl GxR
/-! ### what a Hearing stands at, and its objects -/
/-- the changing objects of a Hearing -/
inductive Tg where
  | h | c | s | l | p | t
  | sd (i : Nat) | lr (i : Nat) | cr (i : Nat) | sl (i : Nat) | sy (i j : Nat)
deriving DecidableEq
structure HS where
  hears : Nat → Bool
  counts : Nat → Int
  served : Nat → List (Int × Int)
  letters : Nat → List (Bool × Int)
  copies : Nat → List (Int × Int)
  stays : Nat → List (List Int)
  emitted : Int
  lsum : Int
  csum : Int
def HS.ini : HS := ⟨fun _ => false, fun _ => 0, fun _ => [], fun _ => [], fun _ => [], fun _ => [], 0, 0, 0⟩
def fup {α : Type} (f : Nat → α) (i : Nat) (v : α) : Nat → α := fun j => if j = i then v else f j
theorem fup_same {α : Type} (f : Nat → α) (i : Nat) (v : α) : fup f i v i = v := if_pos rfl
theorem fup_ne {α : Type} {f : Nat → α} {i j : Nat} {v : α} (h : j ≠ i) : fup f i v j = f j := if_neg h
def alive (n : Nat) (S : HS) : Tg → Prop
  | .sd i => i < n
  | .lr i => i < n
  | .cr i => i < n
  | .sl i => i < n
  | .sy i j => i < n ∧ j < (S.stays i).length
  | _ => True
def node (n : Nat) (ad : Tg → Addr) (S : HS) (la ca : Nat → List Addr) : Tg → HO
  | .h => .lst ((List.range n).map fun i => .bl (S.hears i))
  | .c => .lst ((List.range n).map fun i => .int (S.counts i))
  | .s => .lst ((List.range n).map fun i => .ref (ad (.sd i)))
  | .l => .lst ((List.range n).map fun i => .ref (ad (.lr i)))
  | .p => .lst ((List.range n).map fun i => .ref (ad (.cr i)))
  | .t => .lst ((List.range n).map fun i => .ref (ad (.sl i)))
  | .sd i => .dK ((S.served i).map fun q => (.inl q.1, .int q.2))
  | .lr i => .lst ((la i).map V.ref)
  | .cr i => .lst ((ca i).map V.ref)
  | .sl i => .lst ((List.range (S.stays i).length).map fun j => .ref (ad (.sy i j)))
  | .sy i j => .lst (((S.stays i).getD j []).map V.int)
theorem node_tup {n : Nat} {ad : Tg → Addr} {S : HS} {la ca : Nat → List Addr} (t : Tg) : (∀ xs, node n ad S la ca t ≠ .tup xs) ∧ (∀ o u, node n ad S la ca t ≠ .frz o u) ∧ (∀ ps, node n ad S la ca t ≠ .tbl ps) ∧ (∀ C dx fs, node n ad S la ca t ≠ .ins C dx fs) := by
  cases t <;> exact ⟨(fun _ z => by cases z), (fun _ _ z => by cases z), (fun _ z => by cases z), (fun _ _ _ z => by cases z)⟩
/-- rows of tuples -/
def TupRows (K : PySem.W.Frag) (H : Hp) (as : List Addr) (vs : List (List V)) : Prop := as.length = vs.length ∧ ∀ (j : Nat) (a : Addr) (v : List V), as[j]? = some a → vs[j]? = some v → SqT K H a v
theorem TupRows.mono {K : PySem.W.Frag} {H H' : Hp} {as : List Addr} {vs : List (List V)} (h : TupRows K H as vs) (k : ∀ a v, SqT K H a v → SqT K H' a v) : TupRows K H' as vs := ⟨h.1, fun j a v e1 e2 => k a v (h.2 j a v e1 e2)⟩
theorem TupRows.snoc {K : PySem.W.Frag} {H : Hp} {as : List Addr} {vs : List (List V)} {a : Addr} {v : List V} (h : TupRows K H as vs) (s : SqT K H a v) : TupRows K H (as ++ [a]) (vs ++ [v]) := by
  refine ⟨by rw [List.length_append, List.length_append, h.1]; rfl, fun j b u e1 e2 => ?_⟩
  by_cases hj : j < as.length
  · rw [List.getElem?_append_left hj] at e1
    rw [List.getElem?_append_left (by rw [← h.1]; exact hj)] at e2
    exact h.2 j b u e1 e2
  · rw [List.getElem?_append_right (by omega)] at e1
    rw [List.getElem?_append_right (by rw [← h.1]; omega), ← h.1] at e2
    have hj0 : j - as.length = 0 := by
      cases hh : j - as.length with
      | zero => rfl
      | succ k => rw [hh] at e1; cases e1
    rw [hj0] at e1 e2
    cases e1; cases e2
    exact s
theorem TupRows.tail {K : PySem.W.Frag} {H : Hp} {a : Addr} {as : List Addr} {v : List V} {vs : List (List V)} (h : TupRows K H (a :: as) (v :: vs)) : TupRows K H as vs := ⟨Nat.succ.inj h.1, fun j b u e1 e2 => h.2 (j + 1) b u e1 e2⟩
def letV (lw : Bool → V) (ls : List (Bool × Int)) : List (List V) := ls.map fun q => [lw q.1, .int q.2]
def copV (cs : List (Int × Int)) : List (List V) := cs.map fun q => [.int q.1, .int q.2]
structure HN (K : PySem.W.Frag) (lw : Bool → V) (H : Hp) (n : Nat) (ad : Tg → Addr) (S : HS) (la ca : Nat → List Addr) : Prop where
  nd : ∀ t, alive n S t → H (ad t) = some (node n ad S la ca t)
  inj : ∀ t t', alive n S t → alive n S t' → ad t = ad t' → t = t'
  lt : ∀ i, i < n → TupRows K H (la i) (letV lw (S.letters i))
  ct : ∀ i, i < n → TupRows K H (ca i) (copV (S.copies i))
/-- all but the objects of F stands as it was -/
structure KF (F : Addr → Prop) (H H' : Hp) : Prop where
  tup : ∀ b xs, H b = some (.tup xs) → H' b = some (.tup xs)
  frz : ∀ b o u, H b = some (.frz o u) → H' b = some (.frz o u)
  oth : ∀ b o, H b = some o → ¬ F b → (∀ ps, o ≠ .tbl ps) → H' b = some o
  tab : ∀ P, TabG H P → TabG H' P
  dom : ∀ b, H' b = none → H b = none
theorem K0.kf {F : Addr → Prop} {H H' : Hp} (k : K0 H H') : KF F H H' := ⟨fun b xs h => k.oth b _ h (fun _ z => by cases z), fun b o u h => k.oth b _ h (fun _ z => by cases z), fun b o h _ n => k.oth b o h n, k.tab, k.dom⟩
theorem Kt.kf {t : Addr} {F : Addr → Prop} {H H' : Hp} (k : Kt t H H') (hF : F t) : KF F H H' := ⟨k.tup, k.frz, fun b o h nf n => k.oth b o h (fun z => nf (by rw [z]; exact hF)) n, k.tab, k.dom⟩
theorem KF.trans {F G : Addr → Prop} {H H1 H2 : Hp} (a : KF F H H1) (b : KF G H1 H2) (hG : ∀ c, G c → F c ∨ H c = none) : KF F H H2 :=
  ⟨fun x xs h => b.tup x xs (a.tup x xs h), fun x o u h => b.frz x o u (a.frz x o u h), fun x o h n m => b.oth x o (a.oth x o h n m) (fun z => by
    rcases hG x z with z | z
    · exact n z
    · rw [h] at z; cases z) m, fun P h => b.tab P (a.tab P h), fun x h => a.dom x (b.dom x h)⟩
theorem KF.sqT {K : PySem.W.Frag} {F : Addr → Prop} {H H' : Hp} (k : KF F H H') {a : Addr} {xs : List V} (h : SqT K H a xs) : SqT K H' a xs := by
  rcases h with (h | ⟨o, h⟩) | h
  · exact .inl (.inl (k.tup _ _ h))
  · exact .inl (.inr ⟨o, k.frz _ _ _ h⟩)
  · exact .inr h
section
variable {K : PySem.W.Frag} {lw : Bool → V} {H H' : Hp} {n : Nat} {ad : Tg → Addr} {S : HS} {la ca : Nat → List Addr}
def foot (n : Nat) (ad : Tg → Addr) (S : HS) (x : Addr) (b : Addr) : Prop := b = x ∨ ∃ t, alive n S t ∧ ad t = b
theorem HN.kf {F : Addr → Prop} (h : HN K lw H n ad S la ca) (k : KF F H H') (hF : ∀ t, alive n S t → ¬ F (ad t)) : HN K lw H' n ad S la ca :=
  ⟨fun t ht => k.oth _ _ (h.nd t ht) (hF t ht) (node_tup t).2.2.1, h.inj, fun i hi => (h.lt i hi).mono fun _ _ => k.sqT, fun i hi => (h.ct i hi).mono fun _ _ => k.sqT⟩
theorem HN.k0 (h : HN K lw H n ad S la ca) (k : K0 H H') : HN K lw H' n ad S la ca := h.kf (k.kf (F := fun _ => False)) fun _ _ z => z
/-- a changing object is written: tuples stand -/
theorem sqT_node {t : Tg} (h : HN K lw H n ad S la ca) (ha : alive n S t) {o : HO} {a : Addr} {xs : List V} (hs : SqT K H a xs) : SqT K (upd H (ad t) o) a xs := by
  have e := h.nd t ha
  rcases hs with (hs | ⟨o', hs⟩) | hs
  · have : a ≠ ad t := fun z => by rw [z, e] at hs; exact (node_tup t).1 _ (Option.some.inj hs)
    exact .inl (.inl (by rw [upd_ne this]; exact hs))
  · have : a ≠ ad t := fun z => by rw [z, e] at hs; exact (node_tup t).2.1 _ _ (Option.some.inj hs)
    exact .inl (.inr ⟨o', by rw [upd_ne this]; exact hs⟩)
  · exact .inr hs
theorem HN.put (h : HN K lw H n ad S la ca) {t0 : Tg} (ha : alive n S t0) {S' : HS} {la' ca' : Nat → List Addr} (al : ∀ t, alive n S' t ↔ alive n S t) (hn : ∀ t, t ≠ t0 → alive n S t → node n ad S' la' ca' t = node n ad S la ca t)
    (lt' : ∀ i, i < n → TupRows K H (la' i) (letV lw (S'.letters i))) (ct' : ∀ i, i < n → TupRows K H (ca' i) (copV (S'.copies i))) : HN K lw (upd H (ad t0) (node n ad S' la' ca' t0)) n ad S' la' ca' := by
  refine ⟨fun t ht => ?_, fun t t' a b => h.inj t t' ((al t).mp a) ((al t').mp b), fun i hi => (lt' i hi).mono fun _ _ => sqT_node h ha, fun i hi => (ct' i hi).mono fun _ _ => sqT_node h ha⟩
  by_cases e : t = t0
  · subst e; exact upd_same
  · have ne : ad t ≠ ad t0 := fun z => e (h.inj t t0 ((al t).mp ht) ha z)
    rw [upd_ne ne, hn t e ((al t).mp ht)]
    exact h.nd t ((al t).mp ht)
theorem HN.ktu (h : HN K lw H n ad S la ca) {t0 : Tg} (ha : alive n S t0) {o : HO} : Kt (ad t0) H (upd H (ad t0) o) := by
  have e := h.nd t0 ha
  refine ⟨fun b xs hb => ?_, fun b o u hb => ?_, fun b o hb n _ => by rw [upd_ne n]; exact hb, fun P hP => ?_, fun b hb => upd_none hb⟩
  · rw [upd_ne (fun z => by rw [z, e] at hb; exact (node_tup t0).1 _ (Option.some.inj hb))]; exact hb
  · rw [upd_ne (fun z => by rw [z, e] at hb; exact (node_tup t0).2.1 _ _ (Option.some.inj hb))]; exact hb
  · obtain ⟨ps, hb, ht⟩ := hP
    exact ⟨ps, by rw [upd_ne (fun z => by rw [z, e] at hb; exact (node_tup t0).2.2.1 _ (Option.some.inj hb))]; exact hb, ht⟩
theorem range_at {α : Type} {n i : Nat} (f : Nat → α) (h : i < n) : ((List.range n).map f)[i]? = some (f i) := by
  rw [List.getElem?_map, List.getElem?_range h]; rfl
theorem range_set {α : Type} {n i : Nat} (f : Nat → α) (v : α) : ((List.range n).map f).set i v = (List.range n).map (fup f i v) := by
  refine List.ext_getElem? fun j => ?_
  by_cases hj : j < n
  · rw [List.getElem?_set, range_at _ hj, range_at _ hj]
    by_cases e : i = j
    · subst e
      rw [if_pos rfl, List.length_map, List.length_range, if_pos hj, fup_same]
    · rw [if_neg e, fup_ne (fun z => e z.symm)]
  · rw [List.getElem?_eq_none (by rw [List.length_set, List.length_map, List.length_range]; omega), List.getElem?_eq_none (by rw [List.length_map, List.length_range]; omega)]
/-- the fields of the object -/
structure HFs (fs : List (Str × V)) (p : Addr) (r : Int) (cnt : Bool) (ad : Tg → Addr) (S : HS) : Prop where
  ahead : fs.lookup ("ahead" : Str) = some (.ref p)
  root : fs.lookup ("root" : Str) = some (.int r)
  counted : fs.lookup ("counted" : Str) = some (.bl cnt)
  hears : fs.lookup ("hears" : Str) = some (.ref (ad .h))
  counts : fs.lookup ("counts" : Str) = some (.ref (ad .c))
  served : fs.lookup ("served" : Str) = some (.ref (ad .s))
  letter_rows : fs.lookup ("letter_rows" : Str) = some (.ref (ad .l))
  copy_rows : fs.lookup ("copy_rows" : Str) = some (.ref (ad .p))
  stay_lists : fs.lookup ("stay_lists" : Str) = some (.ref (ad .t))
  emitted : fs.lookup ("emitted" : Str) = some (.int S.emitted)
  letter_sum : fs.lookup ("letter_sum" : Str) = some (.int S.lsum)
  copy_sum : fs.lookup ("copy_sum" : Str) = some (.int S.csum)
  no : ∀ g : Str, g ∉ hearF → fs.lookup g = none
  len : fs.length ≤ 100
def gw (b : Bool) : V := .str (if b then Str.ofString "graft" else Str.ofString "cut")
/-- a Hearing at x over the ways us stands as S, by the objects F -/
def Hear (K : PySem.W.Frag) (H : Hp) (C x p : Addr) (us : List (Option Int)) (r : Int) (cnt : Bool) (S : HS) (F : Addr → Prop) : Prop := ∃ (dx : Addr) (fs : List (Str × V)) (ad : Tg → Addr) (la ca : Nat → List Addr), H x = some (.ins C dx fs) ∧ SqT K H p (us.map oV) ∧ HFs fs p r cnt ad S ∧ HN K gw H us.length ad S la ca ∧ ∀ b, F b ↔ foot us.length ad S x b
theorem foot_ne {t : Tg} {x C dx : Addr} {fs : List (Str × V)} (h : HN K lw H n ad S la ca) (ha : alive n S t) (hx : H x = some (.ins C dx fs)) : ad t ≠ x := fun z => by
  have e := h.nd t ha
  rw [z, hx] at e
  exact (node_tup t).2.2.2 _ _ _ (Option.some.inj e).symm
end
theorem Hear.kf {K : PySem.W.Frag} {H H' : Hp} {C x p : Addr} {us : List (Option Int)} {r : Int} {cnt : Bool} {S : HS} {F G : Addr → Prop} (h : Hear K H C x p us r cnt S F) (k : KF G H H') (d : ∀ b, F b → ¬ G b) : Hear K H' C x p us r cnt S F := by
  obtain ⟨dx, fs, ad, la, ca, h1, h2, h3, h4, h5⟩ := h
  exact ⟨dx, fs, ad, la, ca, k.oth x _ h1 (d x ((h5 x).mpr (.inl rfl))) (fun _ z => by cases z), k.sqT h2, h3, h4.kf k fun t ht => d _ ((h5 _).mpr (.inr ⟨t, ht, rfl⟩)), h5⟩
theorem Hear.k0 {K : PySem.W.Frag} {H H' : Hp} {C x p : Addr} {us : List (Option Int)} {r : Int} {cnt : Bool} {S : HS} {F : Addr → Prop} (h : Hear K H C x p us r cnt S F) (k : K0 H H') : Hear K H' C x p us r cnt S F := h.kf (k.kf (F := fun _ => False)) fun _ _ z => z
theorem Hear.some {K : PySem.W.Frag} {H : Hp} {C x p : Addr} {us : List (Option Int)} {r : Int} {cnt : Bool} {S : HS} {F : Addr → Prop} (h : Hear K H C x p us r cnt S F) {b : Addr} (hb : F b) : ∃ o, H b = some o := by
  obtain ⟨dx, fs, ad, la, ca, h1, h2, h3, h4, h5⟩ := h
  rcases (h5 b).mp hb with rfl | ⟨t, ht, rfl⟩
  · exact ⟨_, h1⟩
  · exact ⟨_, h4.nd t ht⟩
end HK

set_option Elab.async false
set_option linter.all false
set_option maxRecDepth 100000
set_option maxHeartbeats 4000000
namespace HK
open PySem PySem.Spec PyProof.Rows L2 GAl GxR
open Evl (pss_cut)
abbrev sHNeedPlace : Stmt := methS 56 3
abbrev N_scHNeedPlace : List Str := ["self", "place"]
theorem scHNeedPlace : FnScope N_scHNeedPlace ["self", "place"] (defScope sHNeedPlace) := ⟨rfl, rfl, rfl, by decide +kernel, rfl, by decide +kernel, by decide +kernel⟩
abbrev sHNeeded : Stmt := methS 56 14
abbrev N_scHNeeded : List Str := ["self", "place"]
theorem scHNeeded : FnScope N_scHNeeded ["self", "place"] (defScope sHNeeded) := ⟨rfl, rfl, rfl, by decide +kernel, rfl, by decide +kernel, by decide +kernel⟩
abbrev sHWaiting : Stmt := methS 56 15
abbrev N_scHWaiting : List Str := ["self", "place"]
theorem scHWaiting : FnScope N_scHWaiting ["self", "place"] (defScope sHWaiting) := ⟨rfl, rfl, rfl, by decide +kernel, rfl, by decide +kernel, by decide +kernel⟩
abbrev sHLetters : Stmt := methS 56 17
abbrev N_scHLetters : List Str := ["self"]
theorem scHLetters : FnScope N_scHLetters ["self"] (defScope sHLetters) := ⟨rfl, rfl, rfl, by decide +kernel, rfl, by decide +kernel, by decide +kernel⟩
abbrev sHCopies : Stmt := methS 56 18
abbrev N_scHCopies : List Str := ["self"]
theorem scHCopies : FnScope N_scHCopies ["self"] (defScope sHCopies) := ⟨rfl, rfl, rfl, by decide +kernel, rfl, by decide +kernel, by decide +kernel⟩
abbrev sHServes : Stmt := methS 56 13
abbrev N_scHServes : List Str := ["self", "place"]
theorem scHServes : FnScope N_scHServes ["self", "place"] (defScope sHServes) := ⟨rfl, rfl, rfl, by decide +kernel, rfl, by decide +kernel, by decide +kernel⟩
theorem call_lenR {X : Cx} : CallR X (.builtin "len") (fun xs H Q => ∃ a kvs, xs = [V.ref a] ∧ Rd H a (.dK kvs) ∧ Q (.int kvs.length) H) := by
  intro pins s σ H xs us Q I r ⟨a, kvs, e, ha, q⟩
  subst e
  obtain ⟨u, rfl, ru⟩ := vals1 r
  cases ru
  exact d_len I ha fun t s' I' => ⟨.int kvs.length, H, I', ⟨t, rfl⟩, q⟩
theorem putF_len {f : Str} {y : V} : ∀ {fs : List (Str × V)} {v : V}, fs.lookup f = some v → (putF f y fs).length = fs.length
  | [], v, h => by cases h
  | (g, u) :: r, v, h => by
    unfold putF
    by_cases e : g = f
    · rw [if_pos e]; rfl
    · rw [if_neg e]
      have e2 : (f == g) = false := by simpa using fun z => e z.symm
      rw [List.lookup_cons, e2] at h
      show (putF f y r).length + 1 = r.length + 1
      rw [putF_len h]
/-- a Hearing's parts -/
structure HW (K : PySem.W.Frag) (H : Hp) (C x p : Addr) (us : List (Option Int)) (r : Int) (cnt : Bool) (S : HS) (dx : Addr) (fs : List (Str × V)) (ad : Tg → Addr) (la ca : Nat → List Addr) : Prop where
  hx : H x = some (.ins C dx fs)
  hp : SqT K H p (us.map oV)
  hf : HFs fs p r cnt ad S
  hn : HN K gw H us.length ad S la ca
theorem HW.hear {K : PySem.W.Frag} {H : Hp} {C x p : Addr} {us : List (Option Int)} {r : Int} {cnt : Bool} {S : HS} {dx : Addr} {fs : List (Str × V)} {ad : Tg → Addr} {la ca : Nat → List Addr} (h : HW K H C x p us r cnt S dx fs ad la ca) : Hear K H C x p us r cnt S (foot us.length ad S x) := ⟨dx, fs, ad, la, ca, h.hx, h.hp, h.hf, h.hn, fun _ => Iff.rfl⟩
theorem HW.k0 {K : PySem.W.Frag} {H H' : Hp} {C x p : Addr} {us : List (Option Int)} {r : Int} {cnt : Bool} {S : HS} {dx : Addr} {fs : List (Str × V)} {ad : Tg → Addr} {la ca : Nat → List Addr} (h : HW K H C x p us r cnt S dx fs ad la ca) (k : K0 H H') : HW K H' C x p us r cnt S dx fs ad la ca := ⟨k.oth x _ h.hx (fun _ z => by cases z), k.sqT h.hp, h.hf, h.hn.k0 k⟩
theorem Hear.parts {K : PySem.W.Frag} {H : Hp} {C x p : Addr} {us : List (Option Int)} {r : Int} {cnt : Bool} {S : HS} {F : Addr → Prop} (h : Hear K H C x p us r cnt S F) : ∃ dx fs ad la ca, HW K H C x p us r cnt S dx fs ad la ca ∧ ∀ b, F b ↔ foot us.length ad S x b := by
  obtain ⟨dx, fs, ad, la, ca, h1, h2, h3, h4, h5⟩ := h
  exact ⟨dx, fs, ad, la, ca, ⟨h1, h2, h3, h4⟩, h5⟩
theorem HFs.num {fs : List (Str × V)} {p : Addr} {r : Int} {cnt : Bool} {ad : Tg → Addr} {S S' : HS} (h : HFs fs p r cnt ad S) (e1 : S'.emitted = S.emitted) (e2 : S'.lsum = S.lsum) (e3 : S'.csum = S.csum) : HFs fs p r cnt ad S' :=
  ⟨h.ahead, h.root, h.counted, h.hears, h.counts, h.served, h.letter_rows, h.copy_rows, h.stay_lists, by rw [e1]; exact h.emitted, by rw [e2]; exact h.letter_sum, by rw [e3]; exact h.copy_sum, h.no, h.len⟩
theorem HFs.setL {fs : List (Str × V)} {p : Addr} {r : Int} {cnt : Bool} {ad : Tg → Addr} {S : HS} (h : HFs fs p r cnt ad S) (v : Int) : HFs (putF "letter_sum" (.int v) fs) p r cnt ad { S with lsum := v } := by
  have lk : ∀ {g : Str} {z : V}, fs.lookup g = some z → g ≠ "letter_sum" → (putF "letter_sum" (.int v) fs).lookup g = some z := fun hl hg => lk_put hl hg
  exact ⟨lk h.ahead (by decide), lk h.root (by decide), lk h.counted (by decide), lk h.hears (by decide), lk h.counts (by decide), lk h.served (by decide), lk h.letter_rows (by decide), lk h.copy_rows (by decide), lk h.stay_lists (by decide), lk h.emitted (by decide), by rw [lookup_putF, if_pos rfl], lk h.copy_sum (by decide), fun g hg => by rw [lookup_putF, if_neg (fun z : g = ("letter_sum" : Str) => hg (by rw [z]; simp [hearF]))]; exact h.no g hg, by rw [putF_len h.letter_sum]; exact h.len⟩
theorem HFs.setC {fs : List (Str × V)} {p : Addr} {r : Int} {cnt : Bool} {ad : Tg → Addr} {S : HS} (h : HFs fs p r cnt ad S) (v : Int) : HFs (putF "copy_sum" (.int v) fs) p r cnt ad { S with csum := v } := by
  have lk : ∀ {g : Str} {z : V}, fs.lookup g = some z → g ≠ "copy_sum" → (putF "copy_sum" (.int v) fs).lookup g = some z := fun hl hg => lk_put hl hg
  exact ⟨lk h.ahead (by decide), lk h.root (by decide), lk h.counted (by decide), lk h.hears (by decide), lk h.counts (by decide), lk h.served (by decide), lk h.letter_rows (by decide), lk h.copy_rows (by decide), lk h.stay_lists (by decide), lk h.emitted (by decide), lk h.letter_sum (by decide), by rw [lookup_putF, if_pos rfl], fun g hg => by rw [lookup_putF, if_neg (fun z : g = ("copy_sum" : Str) => hg (by rw [z]; simp [hearF]))]; exact h.no g hg, by rw [putF_len h.copy_sum]; exact h.len⟩
theorem HFs.setE {fs : List (Str × V)} {p : Addr} {r : Int} {cnt : Bool} {ad : Tg → Addr} {S : HS} (h : HFs fs p r cnt ad S) (v : Int) : HFs (putF "emitted" (.int v) fs) p r cnt ad { S with emitted := v } := by
  have lk : ∀ {g : Str} {z : V}, fs.lookup g = some z → g ≠ "emitted" → (putF "emitted" (.int v) fs).lookup g = some z := fun hl hg => lk_put hl hg
  exact ⟨lk h.ahead (by decide), lk h.root (by decide), lk h.counted (by decide), lk h.hears (by decide), lk h.counts (by decide), lk h.served (by decide), lk h.letter_rows (by decide), lk h.copy_rows (by decide), lk h.stay_lists (by decide), by rw [lookup_putF, if_pos rfl], lk h.letter_sum (by decide), lk h.copy_sum (by decide), fun g hg => by rw [lookup_putF, if_neg (fun z : g = ("emitted" : Str) => hg (by rw [z]; simp [hearF]))]; exact h.no g hg, by rw [putF_len h.emitted]; exact h.len⟩
section
variable {K : PySem.W.Frag} {H : Hp} {C x p : Addr} {us : List (Option Int)} {r : Int} {cnt : Bool} {S : HS} {dx : Addr} {fs : List (Str × V)} {ad : Tg → Addr} {la ca : Nat → List Addr}
/-- one of the changing objects is written -/
theorem HW.put (h : HW K H C x p us r cnt S dx fs ad la ca) {t0 : Tg} (ha : alive us.length S t0) {S' : HS} {la' ca' : Nat → List Addr} (al : ∀ t, alive us.length S' t ↔ alive us.length S t) (hn : ∀ t, t ≠ t0 → alive us.length S t → node us.length ad S' la' ca' t = node us.length ad S la ca t)
    (lt' : ∀ i, i < us.length → TupRows K H (la' i) (letV gw (S'.letters i))) (ct' : ∀ i, i < us.length → TupRows K H (ca' i) (copV (S'.copies i))) (e1 : S'.emitted = S.emitted) (e2 : S'.lsum = S.lsum) (e3 : S'.csum = S.csum) :
    HW K (upd H (ad t0) (node us.length ad S' la' ca' t0)) C x p us r cnt S' dx fs ad la' ca' ∧ KF (foot us.length ad S x) H (upd H (ad t0) (node us.length ad S' la' ca' t0)) := by
  have ne := foot_ne h.hn ha h.hx
  exact ⟨⟨by rw [upd_ne (Ne.symm ne)]; exact h.hx, sqT_node h.hn ha h.hp, h.hf.num e1 e2 e3, h.hn.put ha al hn lt' ct'⟩, (h.hn.ktu ha).kf (.inr ⟨t0, ha, rfl⟩)⟩
/-- a number of the object is written -/
theorem HW.fld (h : HW K H C x p us r cnt S dx fs ad la ca) {f : Str} {v : V} {S' : HS} (hf : HFs (putF f v fs) p r cnt ad S') (e : S'.hears = S.hears ∧ S'.counts = S.counts ∧ S'.served = S.served ∧ S'.letters = S.letters ∧ S'.copies = S.copies ∧ S'.stays = S.stays) :
    HW K (upd H x (.ins C dx (putF f v fs))) C x p us r cnt S' dx (putF f v fs) ad la ca ∧ KF (foot us.length ad S x) H (upd H x (.ins C dx (putF f v fs))) := by
  obtain ⟨a1, a2, a3, a4, a5, a6⟩ := e
  have k : Kt x H (upd H x (.ins C dx (putF f v fs))) := Kt.setI h.hx
  have al : ∀ t, alive us.length S' t ↔ alive us.length S t := fun t => by cases t <;> simp only [alive, a6]
  have nd : ∀ t, node us.length ad S' la ca t = node us.length ad S la ca t := fun t => by cases t <;> simp only [node, a1, a2, a3, a6]
  refine ⟨⟨upd_same, k.sqT h.hp, hf, ⟨fun t ht => ?_, fun t t' a b => h.hn.inj t t' ((al t).mp a) ((al t').mp b), fun i hi => ?_, fun i hi => ?_⟩⟩, k.kf (.inl rfl)⟩
  · rw [nd]
    have ne := foot_ne h.hn ((al t).mp ht) h.hx
    rw [upd_ne ne]
    exact h.hn.nd t ((al t).mp ht)
  · rw [a4]; exact (h.hn.lt i hi).mono fun _ _ => k.sqT
  · rw [a5]; exact (h.hn.ct i hi).mono fun _ _ => k.sqT
theorem foot_eq {n : Nat} {S S' : HS} (al : ∀ t, alive n S' t ↔ alive n S t) {b : Addr} : foot n ad S' x b ↔ foot n ad S x b := by
  unfold foot
  exact or_congr Iff.rfl ⟨fun ⟨t, a, e⟩ => ⟨t, (al t).mp a, e⟩, fun ⟨t, a, e⟩ => ⟨t, (al t).mpr a, e⟩⟩
end
def needS (S : HS) (i : Nat) : Bool := S.hears i || decide (0 < (S.served i).length)
section
variable {P : Program} {w : World} {K : PySem.W.Frag} {mg : Str → Option Value} {base : Heap}
def spHNeedPlace (K : PySem.W.Frag) (C : Addr) : Sp := fun vs H Q _ => ∃ (x p : Addr) (us : List (Option Int)) (r : Int) (cnt : Bool) (S : HS) (F : Addr → Prop) (i : Nat), vs = [.ref x, .int i] ∧ Hear K H C x p us r cnt S F ∧ i < us.length ∧ Q .non H
theorem ok_hneedplace {C f : Addr} {fd : FuncData} {f_within : Addr} {fd_within : FuncData} (F : Fun K "need_place" "Hearing.need_place" sHNeedPlace f fd) (hC : HearN K C) (k_within : PySem.W.keepIn K (.ref f_within) = true) (b_within : Binds K fd_within ["thing", "least", "greatest"] []) (g_within : mg "is_within" = some (.ref f_within)) (G_within : FnOk P w K mg base CX0 2 f_within fd_within ["thing", "least", "greatest"] (spWithin K)) (m_len : mg "len" = none) : FnOk P w K mg base CX0 3 f fd ["self", "place"] (spHNeedPlace K C) := by
  refine F.ok scHNeedPlace (fun vs H Q E h => ?_) (fun cdv A outer s H vs Q E hr h => ?_)
  · obtain ⟨x, p, us, r, cnt, S, F, i, rfl, _⟩ := h
    rfl
  · obtain ⟨x, p, us, r, cnt, S, F, i, rfl, hh, hi, q⟩ := h
    have hu := hu_of hr
    refine ⟨_, (pss_one (ps_if (pt_not (pt_val (pe_call G_within (hr.mono (by decide)) (by rfl) g_within k_within b_within .nil pass0 (pa_cons (pv 1) (pa_cons pe_int (pa_cons (pe_op op_sub (pe_callB call_len_seq (by rfl) m_len PySem.boot_len (pa_cons (pe_fld (pv 0) rfl) pa_nil)) pe_int) pa_nil)))))) pss_never pss_nil)), ?_⟩
    obtain ⟨dx, fs, ad, la, ca, hx, hp, hF, hN, _⟩ := hh
    refine ⟨_, rfl, _, rfl, x, C, dx, fs, .ref p, rfl, hx, hC.c, hC.n _ (by simp), hF.ahead, p, _, rfl, .inr hp, _, 1, rfl, rfl, .int i, .int (i : Int), 0, _, rfl, .int _, _, rfl, ?_⟩
    rw [List.length_map]
    have e : withinD (.int (i : Int)) 0 ((us.length : Int) - 1) = true := by
      show (decide ((0 : Int) ≤ i) && decide ((i : Int) ≤ (us.length : Int) - 1)) = true
      rw [decide_eq_true (by omega), decide_eq_true (by omega)]
      rfl
    rw [e]
    exact iteF q
def spHNeeded (K : PySem.W.Frag) (C : Addr) : Sp := fun vs H Q _ => ∃ (x p : Addr) (us : List (Option Int)) (r : Int) (cnt : Bool) (S : HS) (F : Addr → Prop) (i : Nat), vs = [.ref x, .int i] ∧ Hear K H C x p us r cnt S F ∧ i < us.length ∧ Q (.bl (needS S i)) H
theorem ok_hneeded {C f : Addr} {fd : FuncData} {f_h_needplace : Addr} {fd_h_needplace : FuncData} (F : Fun K "needed" "Hearing.needed" sHNeeded f fd) (hC : HearN K C) (M_h_needplace : Meth K C "need_place" f_h_needplace) (b_h_needplace : Binds K fd_h_needplace ["self", "place"] []) (G_h_needplace : FnOk P w K mg base CX0 3 f_h_needplace fd_h_needplace ["self", "place"] (spHNeedPlace K C)) (m_len : mg "len" = none) : FnOk P w K mg base CX0 4 f fd ["self", "place"] (spHNeeded K C) := by
  refine F.ok scHNeeded (fun vs H Q E h => ?_) (fun cdv A outer s H vs Q E hr h => ?_)
  · obtain ⟨x, p, us, r, cnt, S, F, i, rfl, _⟩ := h
    rfl
  · obtain ⟨x, p, us, r, cnt, S, F, i, rfl, hh, hi, q⟩ := h
    have hu := hu_of hr
    refine ⟨_, (pss_cons (ps_expr (pe_meth (pv 0) hC.c M_h_needplace G_h_needplace (hr.mono (by decide)) b_h_needplace .nil pass0 (pa_cons (pv 1) pa_nil)))
      (pss_one (ps_ret (pe_or (pe_ix ix_list (pe_fld (pv 0) rfl) (pv 1) (fun _ _ => rfl)) (pe_one (pe_cmpR op_gt (pe_callB call_lenR (by rfl) m_len PySem.boot_len (pa_cons (pe_ix ix_list (pe_fld (pv 0) rfl) (pv 1) (fun _ _ => rfl)) pa_nil)) pe_int (nomark _))))))), ?_⟩
    have hh' := hh
    obtain ⟨dx, fs, ad, la, ca, hx, hp, hF, hN, _⟩ := hh
    refine ⟨_, rfl, x, dx, fs, rfl, hx, hF.no _ (by decide +kernel), _, rfl, x, p, us, r, cnt, S, F, i, rfl, hh', hi, ?_⟩
    refine ⟨_, rfl, x, C, dx, fs, _, rfl, hx, hC.c, hC.n _ (by simp), hF.hears, _, rfl, ad .h, _, (i : Int), .bl (S.hears i), rfl, rfl, .inl (.inl (hN.nd .h trivial)), atI_nat (range_at _ hi), ?_⟩
    refine ⟨_, rfl, ?_⟩
    cases hb : S.hears i with
    | true =>
      refine iteT ?_
      have e : needS S i = true := by unfold needS; rw [hb]; rfl
      rw [e] at q
      exact q
    | false =>
      refine iteF ⟨_, rfl, x, C, dx, fs, _, rfl, hx, hC.c, hC.n _ (by simp), hF.served, _, rfl, ad .s, _, (i : Int), .ref (ad (.sd i)), rfl, rfl, .inl (.inl (hN.nd .s trivial)), atI_nat (range_at _ hi), ad (.sd i), _, rfl, .inl (hN.nd (.sd i) hi), _, 0, rfl, rfl, ?_⟩
      rw [List.length_map]
      have e : needS S i = decide ((0 : Int) < ((S.served i).length : Int)) := by
        unfold needS
        rw [hb, Bool.false_or]
        by_cases h : 0 < (S.served i).length
        · rw [decide_eq_true h, decide_eq_true (by omega)]
        · rw [decide_eq_false h, decide_eq_false (by omega)]
      rw [e] at q
      exact q
def spHWaiting (K : PySem.W.Frag) (C : Addr) : Sp := fun vs H Q _ => ∃ (x p : Addr) (us : List (Option Int)) (r : Int) (cnt : Bool) (S : HS) (F : Addr → Prop) (i : Nat), vs = [.ref x, .int i] ∧ Hear K H C x p us r cnt S F ∧ i < us.length ∧ ∀ (q : Addr) (H' : Hp), K0 H H' → SqT K H' q [.int (S.letters i).length, .int (S.copies i).length] → Q (.ref q) H'
theorem ok_hwaiting {C f : Addr} {fd : FuncData} {f_h_needplace : Addr} {fd_h_needplace : FuncData} (F : Fun K "waiting" "Hearing.waiting" sHWaiting f fd) (hC : HearN K C) (M_h_needplace : Meth K C "need_place" f_h_needplace) (b_h_needplace : Binds K fd_h_needplace ["self", "place"] []) (G_h_needplace : FnOk P w K mg base CX0 3 f_h_needplace fd_h_needplace ["self", "place"] (spHNeedPlace K C)) (m_len : mg "len" = none) : FnOk P w K mg base CX0 4 f fd ["self", "place"] (spHWaiting K C) := by
  refine F.ok scHWaiting (fun vs H Q E h => ?_) (fun cdv A outer s H vs Q E hr h => ?_)
  · obtain ⟨x, p, us, r, cnt, S, F, i, rfl, _⟩ := h
    rfl
  · obtain ⟨x, p, us, r, cnt, S, F, i, rfl, hh, hi, q⟩ := h
    have hu := hu_of hr
    refine ⟨_, (pss_cons (ps_expr (pe_meth (pv 0) hC.c M_h_needplace G_h_needplace (hr.mono (by decide)) b_h_needplace .nil pass0 (pa_cons (pv 1) pa_nil)))
      (pss_one (ps_ret (pe_tup (pa_cons (pe_callB call_len_seq (by rfl) m_len PySem.boot_len (pa_cons (pe_ix ix_list (pe_fld (pv 0) rfl) (pv 1) (fun _ _ => rfl)) pa_nil)) (pa_cons (pe_callB call_len_seq (by rfl) m_len PySem.boot_len (pa_cons (pe_ix ix_list (pe_fld (pv 0) rfl) (pv 1) (fun _ _ => rfl)) pa_nil)) pa_nil)))))), ?_⟩
    have hh' := hh
    obtain ⟨dx, fs, ad, la, ca, hx, hp, hF, hN, _⟩ := hh
    refine ⟨_, rfl, x, dx, fs, rfl, hx, hF.no _ (by decide +kernel), _, rfl, x, p, us, r, cnt, S, F, i, rfl, hh', hi, ?_⟩
    have l1 := (hN.lt i hi).1
    have l2 := (hN.ct i hi).1
    unfold letV at l1
    unfold copV at l2
    rw [List.length_map] at l1 l2
    refine ⟨_, rfl, x, C, dx, fs, _, rfl, hx, hC.c, hC.n _ (by simp), hF.letter_rows, _, rfl, ad .l, _, (i : Int), .ref (ad (.lr i)), rfl, rfl, .inl (.inl (hN.nd .l trivial)), atI_nat (range_at _ hi), ad (.lr i), _, rfl, .inl (.inl (.inl (hN.nd (.lr i) hi))), ?_⟩
    refine ⟨_, rfl, x, C, dx, fs, _, rfl, hx, hC.c, hC.n _ (by simp), hF.copy_rows, _, rfl, ad .p, _, (i : Int), .ref (ad (.cr i)), rfl, rfl, .inl (.inl (hN.nd .p trivial)), atI_nat (range_at _ hi), ad (.cr i), _, rfl, .inl (.inl (.inl (hN.nd (.cr i) hi))), by show 2 ≤ sizeLine; decide, fun q1 nq => ?_⟩
    refine q q1 _ (K0.new nq) (.inl (.inl ?_))
    rw [upd_same, List.length_map, List.length_map, l1, l2]
def spHLetters (K : PySem.W.Frag) (C : Addr) : Sp := fun vs H Q _ => ∃ (x p : Addr) (us : List (Option Int)) (r : Int) (cnt : Bool) (S : HS) (F : Addr → Prop), vs = [.ref x] ∧ Hear K H C x p us r cnt S F ∧ Q (.int S.lsum) H
theorem ok_hletters {C f : Addr} {fd : FuncData} (F : Fun K "letters" "Hearing.letters" sHLetters f fd) (hC : HearN K C) : FnOk P w K mg base CX0 1 f fd ["self"] (spHLetters K C) := by
  refine F.ok scHLetters (fun vs H Q E h => ?_) (fun cdv A outer s H vs Q E hr h => ?_)
  · obtain ⟨x, p, us, r, cnt, S, F, rfl, _⟩ := h
    rfl
  · obtain ⟨x, p, us, r, cnt, S, F, rfl, ⟨dx, fs, ad, la, ca, hx, hp, hF, hN, _⟩, q⟩ := h
    have hu := hu_of hr
    exact ⟨_, (pss_one (ps_ret (pe_fld (pv 0) rfl))), _, rfl, x, C, dx, fs, _, rfl, hx, hC.c, hC.n _ (by simp), hF.letter_sum, q⟩
def spHCopies (K : PySem.W.Frag) (C : Addr) : Sp := fun vs H Q _ => ∃ (x p : Addr) (us : List (Option Int)) (r : Int) (cnt : Bool) (S : HS) (F : Addr → Prop), vs = [.ref x] ∧ Hear K H C x p us r cnt S F ∧ Q (.int S.csum) H
theorem ok_hcopies {C f : Addr} {fd : FuncData} (F : Fun K "copies" "Hearing.copies" sHCopies f fd) (hC : HearN K C) : FnOk P w K mg base CX0 1 f fd ["self"] (spHCopies K C) := by
  refine F.ok scHCopies (fun vs H Q E h => ?_) (fun cdv A outer s H vs Q E hr h => ?_)
  · obtain ⟨x, p, us, r, cnt, S, F, rfl, _⟩ := h
    rfl
  · obtain ⟨x, p, us, r, cnt, S, F, rfl, ⟨dx, fs, ad, la, ca, hx, hp, hF, hN, _⟩, q⟩ := h
    have hu := hu_of hr
    exact ⟨_, (pss_one (ps_ret (pe_fld (pv 0) rfl))), _, rfl, x, C, dx, fs, _, rfl, hx, hC.c, hC.n _ (by simp), hF.copy_sum, q⟩
end
end HK

set_option Elab.async false
set_option linter.all false
set_option maxRecDepth 100000
set_option maxHeartbeats 2000000
namespace HkX
open PySem PySem.Spec PyProof.Rows L2
section
variable {X : Cx}
/-- xs[j], j from 0 on, as an augmented assignment takes it -/
def rGetL (K : PySem.W.Frag) : V → V → Hp → VK → Prop := fun x y H Q => ∃ (p : Addr) (xs : List V) (j : Nat) (v : V), x = .ref p ∧ y = .int (j : Int) ∧ SqL K H p xs ∧ xs[j]? = some v ∧ Q v H
theorem get_list : PGet X (rGetL X.K) := by
  intro pins s σ H o i ov iv Q I ro ri h
  obtain ⟨p, xs, j, z, rfl, rfl, hq, he, q⟩ := h
  cases ro
  obtain ⟨t, rfl⟩ := ri
  obtain ⟨its, r, pl, hz⟩ := I.list hq
  obtain ⟨w, ew, rw'⟩ := r.get he
  have hl := r.length
  have hj := (List.getElem?_eq_some_iff.mp he).1
  have hs : sizeLine = 16777216 := sizeLine_eq
  exact wpAny_getItem_list pl.isList (by omega) (by omega) (by simpa using ew) ⟨z, H, I, rw', q⟩
end
end HkX

set_option Elab.async false
set_option linter.all false
set_option maxRecDepth 100000
set_option maxHeartbeats 4000000
namespace HK
open PySem PySem.Spec PyProof.Rows L2 GAl GxR
open Evl (pss_cut)
abbrev sHTell : Stmt := methS 56 7
abbrev N_scHTell : List Str := ["self", "place", "before", "now"]
theorem scHTell : FnScope N_scHTell ["self", "place", "before"] (defScope sHTell) := ⟨rfl, rfl, rfl, by decide +kernel, rfl, by decide +kernel, by decide +kernel⟩
section
variable {P : Program} {w : World} {K : PySem.W.Frag} {mg : Str → Option Value} {base : Heap}
/-- what a place's letter makes of it -/
def tellS (S : HS) (r : Int) (i : Nat) (before : Bool) : HS :=
  if (i : Int) = r ∨ needS S i = before then S
  else { S with
    counts := if needS S i = true then fup S.counts i (S.counts i + 1) else S.counts
    letters := fup S.letters i (S.letters i ++ [(needS S i, if needS S i = true then S.counts i + 1 else S.counts i)])
    lsum := S.lsum + 1 }
def cN (S : HS) (i : Nat) : Int := if needS S i = true then S.counts i + 1 else S.counts i
theorem cN_eq {S : HS} {i : Nat} : some (V.int ((if needS S i = true then fup S.counts i (S.counts i + 1) else S.counts) i)) = some (.int (cN S i)) := by
  unfold cN
  cases needS S i with
  | true => rw [if_pos rfl, if_pos rfl, fup_same]
  | false => rw [if_neg Bool.false_ne_true, if_neg Bool.false_ne_true]
def spHTell (K : PySem.W.Frag) (C : Addr) : Sp := fun vs H Q _ => ∃ (x p : Addr) (us : List (Option Int)) (r : Int) (cnt : Bool) (S : HS) (F : Addr → Prop) (i : Nat) (b : Bool), vs = [.ref x, .int i, .bl b] ∧ Hear K H C x p us r cnt S F ∧ i < us.length ∧ (S.letters i).length < 1000000 ∧
  ∀ (F' : Addr → Prop) (H' : Hp), KF F H H' → (∀ c, F' c → F c ∨ H c = none) → Hear K H' C x p us r cnt (tellS S r i b) F' → Q .non H'
theorem ok_htell {C f : Addr} {fd : FuncData} {f_h_needed : Addr} {fd_h_needed : FuncData} (F : Fun K "tell_ahead" "Hearing.tell_ahead" sHTell f fd) (hC : HearN K C) (M_h_needed : Meth K C "needed" f_h_needed) (b_h_needed : Binds K fd_h_needed ["self", "place"] []) (G_h_needed : FnOk P w K mg base CX0 4 f_h_needed fd_h_needed ["self", "place"] (spHNeeded K C)) : FnOk P w K mg base CX0 5 f fd ["self", "place", "before"] (spHTell K C) := by
  refine F.ok scHTell (fun vs H Q E h => ?_) (fun cdv A outer s H vs Q E hr h => ?_)
  · obtain ⟨x, p, us, r, cnt, S, F, i, b, rfl, _⟩ := h
    rfl
  · obtain ⟨x, p, us, r, cnt, S, F, i, b, rfl, hh, hi, hsz, q⟩ := h
    have hu := hu_of hr
    refine ⟨_, (pss_cons (ps_set (i := 3) scHTell.nd rfl (.inl rfl) (pe_meth (pv 0) hC.c M_h_needed G_h_needed (hr.mono (by decide)) b_h_needed .nil pass0 (pa_cons (pv 1) pa_nil)))
      (pss_cons (ps_if (PW.pt (pw_or (pt_cmpR op_eq (pv 1) (pe_fld (pv 0) rfl) (nomark _)) (pw_or1 (pt_cmpR op_eq (pv 3) (pv 2) (nomark _))))) (pss_one ps_retN) pss_nil)
      (pss_cut (ps_if (pt_val (pv 3)) (pss_one (ps_augS (pe_fld (pv 0) rfl) (pv 1) HkX.get_list pe_int ip_add set_list)) pss_nil)
      (pss_cut (ps_expr (pe_bm PySem.F.plainAttrs_list PySem.F.slot_list_append PySem.F.type_list_append mt_append (pe_ix ix_list (pe_fld (pv 0) rfl) (pv 1) (fun _ _ => rfl)) (pa_cons (pe_tup (pa_cons (pe_ifExp (pt_val (pv 3)) pe_str pe_str) (pa_cons (pe_ix ix_list (pe_fld (pv 0) rfl) (pv 1) (fun _ _ => rfl)) pa_nil))) pa_nil)))
      (pss_one (ps_fldaug (pv 0) pe_int in_add)))))), ?_⟩
    obtain ⟨dx, fs, ad, la, ca, h, hF⟩ := hh.parts
    refine ⟨_, rfl, x, dx, fs, rfl, h.hx, h.hf.no _ (by decide +kernel), _, rfl, x, p, us, r, cnt, S, F, i, rfl, hh, hi, ?_⟩
    have same : tellS S r i b = S → Q .non H := fun e => q F H (K0.refl H).kf (fun c hc => .inl hc) (by rw [e]; exact hh)
    refine ⟨_, rfl, _, rfl, x, C, dx, fs, .int r, rfl, h.hx, hC.c, hC.n _ (by simp), h.hf.root, rfl, _, rfl, ?_⟩
    by_cases hir : (i : Int) = r
    · rw [decide_eq_true (show V.int (i : Int) = V.int r by rw [hir])]
      exact iteT (same (by unfold tellS; rw [if_pos (.inl hir)]))
    rw [decide_eq_false (show ¬ V.int (i : Int) = V.int r from fun z => hir (V.int.inj z))]
    refine iteF ⟨_, rfl, _, rfl, rfl, _, rfl, ?_⟩
    by_cases hnb : needS S i = b
    · rw [decide_eq_true (show V.bl (needS S i) = V.bl b by rw [hnb])]
      exact iteT (same (by unfold tellS; rw [if_pos (.inr hnb)]))
    rw [decide_eq_false (show ¬ V.bl (needS S i) = V.bl b from fun z => hnb (V.bl.inj z))]
    have hT : tellS S r i b = { S with counts := if needS S i = true then fup S.counts i (S.counts i + 1) else S.counts, letters := fup S.letters i (S.letters i ++ [(needS S i, if needS S i = true then S.counts i + 1 else S.counts i)]), lsum := S.lsum + 1 } := by
      unfold tellS
      rw [if_neg (fun z => z.elim hir hnb)]
    refine iteF ?_
    -- the count
    refine ⟨fun σ' H' => σ' = [some (.ref x), some (.int i), some (.bl b), some (.bl (needS S i))] ∧ HW K H' C x p us r cnt { S with counts := if needS S i = true then fup S.counts i (S.counts i + 1) else S.counts } dx fs ad la ca ∧ KF (foot us.length ad S x) H H', ?_, ?_⟩
    · refine ⟨_, rfl, _, rfl, ?_⟩
      cases hn : needS S i with
      | false =>
        refine iteF ⟨rfl, ?_, (K0.refl H).kf⟩
        rw [if_neg Bool.false_ne_true]
        exact h
      | true =>
        refine iteT ⟨_, rfl, x, C, dx, fs, _, rfl, h.hx, hC.c, hC.n _ (by simp), h.hf.counts, _, rfl, ad .c, _, i, .int (S.counts i), rfl, rfl, .inl (.inl (h.hn.nd .c trivial)), range_at _ hi, _, 1, rfl, rfl, ad .c, _, (i : Int), i, rfl, rfl, h.hn.nd .c trivial, ?_, ?_⟩
        · rw [List.length_map, List.length_range]
          exact Evl.ixN_nat hi
        · have hp := h.put (t0 := .c) trivial (S' := { S with counts := fup S.counts i (S.counts i + 1) }) (la' := la) (ca' := ca) (fun t => by cases t <;> exact Iff.rfl) (fun t ht _ => by cases t <;> first | rfl | exact absurd rfl ht) h.hn.lt h.hn.ct rfl rfl rfl
          have en : node us.length ad { S with counts := fup S.counts i (S.counts i + 1) } la ca .c = .lst (((List.range us.length).map fun j => V.int (S.counts j)).set i (.int (S.counts i + 1))) := by
            rw [range_set]
            show HO.lst _ = HO.lst _
            congr 1
            refine List.map_congr_left fun j _ => ?_
            show V.int (fup S.counts i (S.counts i + 1) j) = fup (fun j => V.int (S.counts j)) i (.int (S.counts i + 1)) j
            unfold fup
            split <;> rfl
          rw [en] at hp
          rw [if_pos rfl]
          exact ⟨rfl, hp.1, hp.2⟩
    rintro σ' H1 ⟨rfl, h1, k1⟩
    have l1 := (h1.hn.lt i hi).1
    have l2 : (la i).length = (S.letters i).length := by rw [l1]; unfold letV; rw [List.length_map]
    -- the letter
    refine ⟨fun σ' H' => σ' = [some (.ref x), some (.int i), some (.bl b), some (.bl (needS S i))] ∧ ∃ la', HW K H' C x p us r cnt { tellS S r i b with lsum := S.lsum } dx fs ad la' ca ∧ KF (foot us.length ad S x) H H', ?_, ?_⟩
    · have fin : ∀ (bb : Bool), needS S i = bb → ∀ (tp : Addr) (G : Hp), K0 H1 G → SqT K G tp [gw bb, .int (cN S i)] → ∃ l xs y, V.ref (ad (.lr i)) = .ref l ∧ [V.ref tp] = [y] ∧ G l = some (.lst xs) ∧ xs.length < sizeLine ∧ (fun (_ : V) (H' : Hp) => [some (V.ref x), some (.int (i : Int)), some (.bl b), some (.bl bb)] = [some (.ref x), some (.int i), some (.bl b), some (.bl bb)] ∧ ∃ la', HW K H' C x p us r cnt { tellS S r i b with lsum := S.lsum } dx fs ad la' ca ∧ KF (foot us.length ad S x) H H') .non (upd G l (.lst (xs ++ [y]))) := fun bb hn tp G kG hG => by
        have h2 := h1.k0 kG
        have hp := h2.put (t0 := .lr i) hi (S' := { tellS S r i b with lsum := S.lsum }) (la' := fup la i (la i ++ [tp])) (ca' := ca) (fun t => by rw [hT]; cases t <;> exact Iff.rfl) (fun t ht _ => by
          rw [hT]
          cases t with
          | lr j => 
            have : j ≠ i := fun z => ht (by rw [z])
            simp only [node, fup_ne this]
          | _ => rfl) (fun j hj => by
          rw [hT]
          by_cases e : j = i
          · subst e
            show TupRows K G (fup la j (la j ++ [tp]) j) (letV gw (fup S.letters j (S.letters j ++ [(needS S j, if needS S j = true then S.counts j + 1 else S.counts j)]) j))
            rw [fup_same, fup_same]
            unfold letV
            rw [List.map_append]
            refine TupRows.snoc (h2.hn.lt j hj) ?_
            rw [hn]
            unfold cN at hG
            rw [hn] at hG
            exact hG
          · show TupRows K G (fup la i (la i ++ [tp]) j) (letV gw (fup S.letters i _ j))
            rw [fup_ne e, fup_ne e]
            exact h2.hn.lt j hj) (fun j hj => by rw [hT]; exact h2.hn.ct j hj) (by rw [hT]) rfl (by rw [hT])
        have en : node us.length ad { tellS S r i b with lsum := S.lsum } (fup la i (la i ++ [tp])) ca (.lr i) = .lst ((la i).map V.ref ++ [.ref tp]) := by
          show HO.lst ((fup la i (la i ++ [tp]) i).map V.ref) = _
          rw [fup_same, List.map_append]
          rfl
        rw [en] at hp
        refine ⟨ad (.lr i), _, .ref tp, rfl, rfl, h2.hn.nd (.lr i) hi, ?_, rfl, _, hp.1, ?_⟩
        · rw [List.length_map, sizeLine_eq]; omega
        · refine (k1.trans (kG.kf (F := fun _ => False)) fun c hc => hc.elim).trans hp.2 fun c hc => .inl hc
      refine ⟨_, rfl, x, C, dx, fs, _, rfl, h1.hx, hC.c, hC.n _ (by simp), h1.hf.letter_rows, _, rfl, ad .l, _, (i : Int), .ref (ad (.lr i)), rfl, rfl, .inl (.inl (h1.hn.nd .l trivial)), atI_nat (range_at _ hi), .inl ⟨rfl, _, .inl (.inl (h1.hn.nd (.lr i) hi))⟩, ?_⟩
      refine ⟨_, rfl, _, rfl, ?_⟩
      cases hn : needS S i with
      | true =>
        refine iteT ⟨_, rfl, x, C, dx, fs, _, rfl, h1.hx, hC.c, hC.n _ (by simp), h1.hf.counts, _, rfl, ad .c, _, (i : Int), .int (cN S i), rfl, rfl, .inl (.inl (h1.hn.nd .c trivial)), atI_nat ((range_at _ hi).trans (by rw [cN_eq])), by show 2 ≤ sizeLine; decide, fun tp ntp => ?_⟩
        have kT := K0.new ntp (o := .tup [gw true, .int (cN S i)])
        have hT2 : SqT K (upd H1 tp (.tup [gw true, .int (cN S i)])) tp [gw true, .int (cN S i)] := .inl (.inl upd_same)
        exact fin true hn tp _ kT hT2
      | false =>
        refine iteF ⟨_, rfl, x, C, dx, fs, _, rfl, h1.hx, hC.c, hC.n _ (by simp), h1.hf.counts, _, rfl, ad .c, _, (i : Int), .int (cN S i), rfl, rfl, .inl (.inl (h1.hn.nd .c trivial)), atI_nat ((range_at _ hi).trans (by rw [cN_eq])), by show 2 ≤ sizeLine; decide, fun tp ntp => ?_⟩
        have kT := K0.new ntp (o := .tup [gw false, .int (cN S i)])
        have hT2 : SqT K (upd H1 tp (.tup [gw false, .int (cN S i)])) tp [gw false, .int (cN S i)] := .inl (.inl upd_same)
        exact fin false hn tp _ kT hT2
    rintro σ' H2 ⟨rfl, la', h2, k2⟩
    have el : ({ tellS S r i b with lsum := S.lsum } : HS).lsum = S.lsum := rfl
    refine ⟨_, rfl, x, C, dx, fs, .int S.lsum, rfl, h2.hx, hC.c, hC.n _ (by simp), h2.hf.letter_sum, _, 1, rfl, rfl, dx, fs, h2.hx, Nat.lt_of_le_of_lt h2.hf.len (by decide), ?_⟩
    have h3 := h2.fld (S' := tellS S r i b) (f := "letter_sum") (v := .int (S.lsum + 1)) (by
      have := h2.hf.setL (S.lsum + 1)
      rw [hT] at this ⊢
      exact this) (by rw [hT]; exact ⟨rfl, rfl, rfl, rfl, rfl, rfl⟩)
    have al : ∀ t, alive us.length (tellS S r i b) t ↔ alive us.length S t := fun t => by rw [hT]; cases t <;> exact Iff.rfl
    have al2 : ∀ t, alive us.length { tellS S r i b with lsum := S.lsum } t ↔ alive us.length S t := fun t => by rw [hT]; cases t <;> exact Iff.rfl
    refine q F _ ?_ (fun c hc => .inl hc) ⟨dx, _, ad, la', ca, h3.1.hx, h3.1.hp, h3.1.hf, h3.1.hn, fun c => (hF c).trans (foot_eq al).symm⟩
    have k3 : KF (foot us.length ad S x) H _ := k2.trans h3.2 fun c hc => .inl ((foot_eq al2).mp hc)
    exact ⟨k3.tup, k3.frz, fun c o e nf m => k3.oth c o e (fun z => nf ((hF c).mpr z)) m, k3.tab, k3.dom⟩
end
end HK

set_option Elab.async false
set_option linter.all false
set_option maxRecDepth 100000
set_option maxHeartbeats 4000000
namespace HK
open PySem PySem.Spec PyProof.Rows L2 GAl GxR
open Evl (pss_cut)
abbrev sHCome : Stmt := methS 56 5
abbrev N_scHCome : List Str := ["self", "place", "before"]
theorem scHCome : FnScope N_scHCome ["self", "place"] (defScope sHCome) := ⟨rfl, rfl, rfl, by decide +kernel, rfl, by decide +kernel, by decide +kernel⟩
abbrev sHGo : Stmt := methS 56 6
abbrev N_scHGo : List Str := ["self", "place"]
theorem scHGo : FnScope N_scHGo ["self", "place"] (defScope sHGo) := ⟨rfl, rfl, rfl, by decide +kernel, rfl, by decide +kernel, by decide +kernel⟩
/-- one object more, for a new stay -/
def adS (ad : Tg → Addr) (i m : Nat) (q : Addr) : Tg → Addr
  | .sy a b => if a = i ∧ b = m then q else ad (.sy a b)
  | t => ad t
theorem adS_ne {ad : Tg → Addr} {i m : Nat} {q : Addr} {t : Tg} (h : t ≠ .sy i m) : adS ad i m q t = ad t := by
  cases t with
  | sy a b =>
    show (if a = i ∧ b = m then q else ad (.sy a b)) = _
    rw [if_neg (fun z => h (by rw [z.1, z.2]))]
  | _ => rfl
theorem adS_same {ad : Tg → Addr} {i m : Nat} {q : Addr} : adS ad i m q (.sy i m) = q := if_pos ⟨rfl, rfl⟩
section
variable {K : PySem.W.Frag} {H : Hp} {C x p : Addr} {us : List (Option Int)} {r : Int} {cnt : Bool} {S : HS} {dx : Addr} {fs : List (Str × V)} {ad : Tg → Addr} {la ca : Nat → List Addr}
theorem HW.stay (h : HW K H C x p us r cnt S dx fs ad la ca) {i : Nat} (hi : i < us.length) {q : Addr} (nq : H q = none) :
    HW K (upd (upd H q (.lst [])) (ad (.sl i)) (.lst ((List.range (S.stays i).length).map (fun j => V.ref (ad (.sy i j))) ++ [.ref q]))) C x p us r cnt { S with stays := fup S.stays i (S.stays i ++ [[]]) } dx fs (adS ad i (S.stays i).length q) la ca ∧
      KF (foot us.length ad S x) H (upd (upd H q (.lst [])) (ad (.sl i)) (.lst ((List.range (S.stays i).length).map (fun j => V.ref (ad (.sy i j))) ++ [.ref q]))) ∧
      ∀ c, foot us.length (adS ad i (S.stays i).length q) { S with stays := fup S.stays i (S.stays i ++ [[]]) } x c → foot us.length ad S x c ∨ H c = none := by
  have k1 : K0 H (upd H q (.lst [])) := K0.new nq
  have h1 := h.k0 k1
  have k2 : Kt (ad (.sl i)) (upd H q (.lst [])) (upd (upd H q (.lst [])) (ad (.sl i)) (.lst ((List.range (S.stays i).length).map (fun j => V.ref (ad (.sy i j))) ++ [.ref q]))) := h1.hn.ktu (t0 := .sl i) hi
  have old : ∀ t, alive us.length { S with stays := fup S.stays i (S.stays i ++ [[]]) } t → t ≠ .sy i (S.stays i).length → alive us.length S t := fun t ht hne => by
    cases t with
    | sy a b =>
      obtain ⟨ha, hb⟩ := ht
      refine ⟨ha, ?_⟩
      have hb' : b < (fup S.stays i (S.stays i ++ [[]]) a).length := hb
      by_cases e : a = i
      · subst e
        rw [fup_same, List.length_append] at hb'
        have : b ≠ (S.stays a).length := fun z => hne (by rw [z])
        have hb2 : b < (S.stays a).length + 1 := hb'
        omega
      · rw [fup_ne e] at hb'
        exact hb'
    | _ => exact ht
  have qne : ∀ t, alive us.length S t → ad t ≠ q := fun t ht z => by
    have e := h.hn.nd t ht
    rw [z, nq] at e; cases e
  have xsl := foot_ne h.hn (t := .sl i) hi h.hx
  refine ⟨⟨?_, ?_, ?_, ⟨fun t ht => ?_, fun t t' ht ht' e => ?_, fun j hj => ?_, fun j hj => ?_⟩⟩, ?_, fun c hc => ?_⟩
  · rw [upd_ne (Ne.symm xsl)]; exact h1.hx
  · exact k2.sqT h1.hp
  · exact ⟨h.hf.ahead, h.hf.root, h.hf.counted, h.hf.hears, h.hf.counts, h.hf.served, h.hf.letter_rows, h.hf.copy_rows, h.hf.stay_lists, h.hf.emitted, h.hf.letter_sum, h.hf.copy_sum, h.hf.no, h.hf.len⟩
  · by_cases e : t = .sy i (S.stays i).length
    · subst e
      rw [adS_same]
      have : q ≠ ad (.sl i) := (qne (.sl i) hi).symm
      rw [upd_ne this, upd_same]
      show some (HO.lst []) = some (.lst (((fup S.stays i (S.stays i ++ [[]]) i).getD (S.stays i).length []).map V.int))
      rw [fup_same, List.getD_eq_getElem?_getD, List.getElem?_append_right (Nat.le_refl _), Nat.sub_self]
      rfl
    · have ht0 := old t ht e
      rw [adS_ne e]
      by_cases e2 : t = .sl i
      · subst e2
        rw [upd_same]
        show _ = some (HO.lst ((List.range (fup S.stays i (S.stays i ++ [[]]) i).length).map fun j => V.ref (adS ad i (S.stays i).length q (.sy i j))))
        rw [fup_same, List.length_append]
        show _ = some (HO.lst ((List.range ((S.stays i).length + 1)).map fun j => V.ref (adS ad i (S.stays i).length q (.sy i j))))
        rw [List.range_succ, List.map_append]
        congr 2
        congr 1
        · refine List.map_congr_left fun j hj => ?_
          have hj2 := List.mem_range.mp hj
          rw [adS_ne (fun z => by cases z; omega)]
        · show _ = [V.ref (adS ad i (S.stays i).length q (.sy i (S.stays i).length))]
          rw [adS_same]
      · have ne : ad t ≠ ad (.sl i) := fun z => e2 (h.hn.inj t (.sl i) ht0 hi z)
        rw [upd_ne ne, upd_ne (qne t ht0), h.hn.nd t ht0]
        cases t with
        | sl j =>
          have hj : j ≠ i := fun z => e2 (by rw [z])
          show some (HO.lst _) = some (HO.lst ((List.range (fup S.stays i (S.stays i ++ [[]]) j).length).map fun k => V.ref (adS ad i (S.stays i).length q (.sy j k))))
          rw [fup_ne hj]
          congr 2
          refine List.map_congr_left fun k _ => ?_
          rw [adS_ne (fun z => by cases z; exact hj rfl)]
        | sy a b =>
          show some (HO.lst _) = some (HO.lst (((fup S.stays i (S.stays i ++ [[]]) a).getD b []).map V.int))
          by_cases ea : a = i
          · subst ea
            rw [fup_same, List.getD_eq_getElem?_getD, List.getD_eq_getElem?_getD, List.getElem?_append_left ht0.2]
          · rw [fup_ne ea]
        | _ => rfl
  · by_cases e1 : t = .sy i (S.stays i).length
    · by_cases e2 : t' = .sy i (S.stays i).length
      · rw [e1, e2]
      · rw [e1, adS_same, adS_ne e2] at e
        exact absurd e.symm (qne t' (old t' ht' e2))
    · by_cases e2 : t' = .sy i (S.stays i).length
      · rw [e2, adS_same, adS_ne e1] at e
        exact absurd e (qne t (old t ht e1))
      · rw [adS_ne e1, adS_ne e2] at e
        exact h.hn.inj t t' (old t ht e1) (old t' ht' e2) e
  · exact (h1.hn.lt j hj).mono fun _ _ => k2.sqT
  · exact (h1.hn.ct j hj).mono fun _ _ => k2.sqT
  · exact (k1.kf (F := foot us.length ad S x)).trans (k2.kf (F := fun c => c = ad (.sl i)) rfl) fun c hc => .inl (by rw [hc]; exact .inr ⟨.sl i, hi, rfl⟩)
  · rcases hc with rfl | ⟨t, ht, rfl⟩
    · exact .inl (.inl rfl)
    · by_cases e : t = .sy i (S.stays i).length
      · rw [e, adS_same]; exact .inr nq
      · rw [adS_ne e]; exact .inl (.inr ⟨t, old t ht e, rfl⟩)
end
theorem KF.of {F G : Addr → Prop} {H H' : Hp} (k : KF F H H') (h : ∀ c, F c → G c) : KF G H H' := ⟨k.tup, k.frz, fun c o e nf m => k.oth c o e (fun z => nf (h c z)) m, k.tab, k.dom⟩
section
variable {P : Program} {w : World} {K : PySem.W.Frag} {mg : Str → Option Value} {base : Heap}
def comeS (S : HS) (r : Int) (i : Nat) : HS := tellS { S with hears := fup S.hears i true, stays := fup S.stays i (S.stays i ++ [[]]) } r i (needS S i)
def goS (S : HS) (r : Int) (i : Nat) : HS := tellS { S with hears := fup S.hears i false } r i true
def spHGo (K : PySem.W.Frag) (C : Addr) : Sp := fun vs H Q _ => ∃ (x p : Addr) (us : List (Option Int)) (r : Int) (cnt : Bool) (S : HS) (F : Addr → Prop) (i : Nat), vs = [.ref x, .int i] ∧ Hear K H C x p us r cnt S F ∧ i < us.length ∧ (S.letters i).length < 1000000 ∧
  ∀ (F' : Addr → Prop) (H' : Hp), KF F H H' → (∀ c, F' c → F c ∨ H c = none) → Hear K H' C x p us r cnt (goS S r i) F' → Q .non H'
theorem HW.hears {K : PySem.W.Frag} {H : Hp} {C x p : Addr} {us : List (Option Int)} {r : Int} {cnt : Bool} {S : HS} {dx : Addr} {fs : List (Str × V)} {ad : Tg → Addr} {la ca : Nat → List Addr} (h : HW K H C x p us r cnt S dx fs ad la ca) {i : Nat} (v : Bool) :
    HW K (upd H (ad .h) (.lst (((List.range us.length).map fun j => V.bl (S.hears j)).set i (.bl v)))) C x p us r cnt { S with hears := fup S.hears i v } dx fs ad la ca ∧ KF (foot us.length ad S x) H (upd H (ad .h) (.lst (((List.range us.length).map fun j => V.bl (S.hears j)).set i (.bl v)))) := by
  have hp := h.put (t0 := .h) trivial (S' := { S with hears := fup S.hears i v }) (la' := la) (ca' := ca) (fun t => by cases t <;> exact Iff.rfl) (fun t ht _ => by cases t <;> first | rfl | exact absurd rfl ht) h.hn.lt h.hn.ct rfl rfl rfl
  have en : node us.length ad { S with hears := fup S.hears i v } la ca .h = .lst (((List.range us.length).map fun j => V.bl (S.hears j)).set i (.bl v)) := by
    rw [range_set]
    show HO.lst _ = HO.lst _
    congr 1
    refine List.map_congr_left fun j _ => ?_
    show V.bl (fup S.hears i v j) = fup (fun j => V.bl (S.hears j)) i (.bl v) j
    unfold fup
    split <;> rfl
  rw [en] at hp
  exact hp
theorem ok_hgo {C f : Addr} {fd : FuncData} {f_h_tell : Addr} {fd_h_tell : FuncData} (F : Fun K "go" "Hearing.go" sHGo f fd) (hC : HearN K C) (M_h_tell : Meth K C "tell_ahead" f_h_tell) (b_h_tell : Binds K fd_h_tell ["self", "place", "before"] []) (G_h_tell : FnOk P w K mg base CX0 5 f_h_tell fd_h_tell ["self", "place", "before"] (spHTell K C)) : FnOk P w K mg base CX0 6 f fd ["self", "place"] (spHGo K C) := by
  refine F.ok scHGo (fun vs H Q E h => ?_) (fun cdv A outer s H vs Q E hr h => ?_)
  · obtain ⟨x, p, us, r, cnt, S, F, i, rfl, _⟩ := h
    rfl
  · obtain ⟨x, p, us, r, cnt, S, F, i, rfl, hh, hi, hsz, q⟩ := h
    have hu := hu_of hr
    refine ⟨_, (pss_cons (ps_asg pe_bl (pg_sub (pe_fld (pv 0) rfl) (pv 1) set_list))
      (pss_one (ps_expr (pe_meth (pv 0) hC.c M_h_tell G_h_tell (hr.mono (by decide)) b_h_tell .nil pass0 (pa_cons (pv 1) (pa_cons pe_bl pa_nil)))))), ?_⟩
    obtain ⟨dx, fs, ad, la, ca, h, hF⟩ := hh.parts
    have h1 := h.hears (i := i) false
    refine ⟨_, rfl, x, C, dx, fs, _, rfl, h.hx, hC.c, hC.n _ (by simp), h.hf.hears, _, rfl, ad .h, _, (i : Int), i, rfl, rfl, h.hn.nd .h trivial, ?_, ?_⟩
    · rw [List.length_map, List.length_range]
      exact Evl.ixN_nat hi
    refine ⟨_, rfl, x, dx, fs, rfl, h1.1.hx, h.hf.no _ (by decide +kernel), _, rfl, x, p, us, r, cnt, _, _, i, true, rfl, h1.1.hear, hi, hsz, fun F' H' k' hF' hH' => q F' H' ?_ (fun c hc => ?_) hH'⟩
    · refine ((h1.2.of fun c hc => (hF c).mpr hc).trans k' fun c hc => .inl ((hF c).mpr ?_))
      exact hc
    · rcases hF' c hc with z | z
      · exact .inl ((hF c).mpr z)
      · exact .inr (h1.2.dom c z)
def spHCome (K : PySem.W.Frag) (C : Addr) : Sp := fun vs H Q _ => ∃ (x p : Addr) (us : List (Option Int)) (r : Int) (cnt : Bool) (S : HS) (F : Addr → Prop) (i : Nat), vs = [.ref x, .int i] ∧ Hear K H C x p us r cnt S F ∧ i < us.length ∧ (S.letters i).length < 1000000 ∧ (S.stays i).length < 1000000 ∧
  ∀ (F' : Addr → Prop) (H' : Hp), KF F H H' → (∀ c, F' c → F c ∨ H c = none) → Hear K H' C x p us r cnt (comeS S r i) F' → Q .non H'
theorem ok_hcome {C f : Addr} {fd : FuncData} {f_h_needed f_h_tell : Addr} {fd_h_needed fd_h_tell : FuncData} (F : Fun K "come" "Hearing.come" sHCome f fd) (hC : HearN K C) (M_h_needed : Meth K C "needed" f_h_needed) (b_h_needed : Binds K fd_h_needed ["self", "place"] []) (G_h_needed : FnOk P w K mg base CX0 4 f_h_needed fd_h_needed ["self", "place"] (spHNeeded K C))
    (M_h_tell : Meth K C "tell_ahead" f_h_tell) (b_h_tell : Binds K fd_h_tell ["self", "place", "before"] []) (G_h_tell : FnOk P w K mg base CX0 5 f_h_tell fd_h_tell ["self", "place", "before"] (spHTell K C)) : FnOk P w K mg base CX0 6 f fd ["self", "place"] (spHCome K C) := by
  refine F.ok scHCome (fun vs H Q E h => ?_) (fun cdv A outer s H vs Q E hr h => ?_)
  · obtain ⟨x, p, us, r, cnt, S, F, i, rfl, _⟩ := h
    rfl
  · obtain ⟨x, p, us, r, cnt, S, F, i, rfl, hh, hi, hsz, hst, q⟩ := h
    have hu := hu_of hr
    refine ⟨_, (pss_cons (ps_set (i := 2) scHCome.nd rfl (.inl rfl) (pe_meth (pv 0) hC.c M_h_needed G_h_needed (hr.mono (by decide)) b_h_needed .nil pass0 (pa_cons (pv 1) pa_nil)))
      (pss_cons (ps_asg pe_bl (pg_sub (pe_fld (pv 0) rfl) (pv 1) set_list))
      (pss_cons (ps_expr (pe_bm PySem.F.plainAttrs_list PySem.F.slot_list_append PySem.F.type_list_append mt_append (pe_ix ix_list (pe_fld (pv 0) rfl) (pv 1) (fun _ _ => rfl)) (pa_cons (pe_lst pa_nil) pa_nil)))
      (pss_one (ps_expr (pe_meth (pv 0) hC.c M_h_tell G_h_tell (hr.mono (by decide)) b_h_tell .nil pass0 (pa_cons (pv 1) (pa_cons (pv 2) pa_nil)))))))), ?_⟩
    obtain ⟨dx, fs, ad, la, ca, h, hF⟩ := hh.parts
    refine ⟨_, rfl, x, dx, fs, rfl, h.hx, h.hf.no _ (by decide +kernel), _, rfl, x, p, us, r, cnt, S, F, i, rfl, hh, hi, ?_⟩
    have h1 := h.hears (i := i) true
    refine ⟨_, rfl, x, C, dx, fs, _, rfl, h.hx, hC.c, hC.n _ (by simp), h.hf.hears, _, rfl, ad .h, _, (i : Int), i, rfl, rfl, h.hn.nd .h trivial, ?_, ?_⟩
    · rw [List.length_map, List.length_range]
      exact Evl.ixN_nat hi
    generalize upd H (ad .h) (.lst (((List.range us.length).map fun j => V.bl (S.hears j)).set i (.bl true))) = H1 at h1 ⊢
    refine ⟨_, rfl, x, C, dx, fs, _, rfl, h1.1.hx, hC.c, hC.n _ (by simp), h1.1.hf.stay_lists, _, rfl, ad .t, _, (i : Int), .ref (ad (.sl i)), rfl, rfl, .inl (.inl (h1.1.hn.nd .t trivial)), atI_nat (range_at _ hi), .inl ⟨rfl, _, .inl (.inl (h1.1.hn.nd (.sl i) hi))⟩, Nat.zero_le _, fun q1 nq1 => ?_⟩
    obtain ⟨h2, k2, f2⟩ := h1.1.stay hi nq1
    have e1 := (h1.1.k0 (K0.new nq1 (o := .lst []))).hn.nd (.sl i) hi
    refine ⟨ad (.sl i), _, .ref q1, rfl, rfl, e1, ?_, ?_⟩
    · show ((List.range (S.stays i).length).map _).length < _
      rw [List.length_map, List.length_range, sizeLine_eq]; omega
    have k12 : KF F H _ := (h1.2.of fun c hc => (hF c).mpr hc).trans (k2.of fun c hc => hc) fun c hc => .inl ((hF c).mpr hc)
    refine ⟨_, rfl, x, dx, fs, rfl, h2.hx, h.hf.no _ (by decide +kernel), _, rfl, _, rfl, x, p, us, r, cnt, _, _, i, needS S i, rfl, h2.hear, hi, hsz, fun F' H' k' hF' hH' => q F' H' ?_ (fun c hc => ?_) hH'⟩
    · refine k12.trans k' fun c hc => ?_
      rcases f2 c hc with z | z
      · exact .inl ((hF c).mpr z)
      · exact .inr (h1.2.dom c z)
    · rcases hF' c hc with z | z
      · rcases f2 c z with z | z
        · exact .inl ((hF c).mpr z)
        · exact .inr (h1.2.dom c z)
      · exact .inr (k12.dom c z)
end
end HK

set_option Elab.async false
set_option linter.all false
set_option maxRecDepth 100000
set_option maxHeartbeats 4000000
namespace HK
open PySem PySem.Spec PyProof.Rows L2 GAl GxR
open Evl (pss_cut)
abbrev sHTNumber : Stmt := methS 56 10
abbrev N_scHTNumber : List Str := ["self", "place", "number", "below", "count"]
theorem scHTNumber : FnScope N_scHTNumber ["self", "place", "number"] (defScope sHTNumber) := ⟨rfl, rfl, rfl, by decide +kernel, rfl, by decide +kernel, by decide +kernel⟩
def copyTo (num : Int) (S : HS) (q : Int × Int) : HS := { S with copies := fup S.copies q.1.toNat (S.copies q.1.toNat ++ [(num, q.2)]), csum := S.csum + 1 }
def hearNum (S : HS) (i : Nat) (num : Int) : HS := if S.hears i = true then { S with stays := fup S.stays i ((S.stays i).dropLast ++ [((S.stays i).getLast?.getD []) ++ [num]]) } else S
def takeNumS (S : HS) (i : Nat) (num : Int) : HS := (S.served i).foldl (copyTo num) (hearNum S i num)
theorem upd_swap {H : Hp} {a b : Addr} {u v : HO} (h : a ≠ b) : upd (upd H a u) b v = upd (upd H b v) a u := by
  funext c
  by_cases e1 : c = a
  · subst e1; rw [upd_ne h, upd_same, upd_same]
  · by_cases e2 : c = b
    · subst e2; rw [upd_same, upd_ne e1, upd_same]
    · rw [upd_ne e2, upd_ne e1, upd_ne e1, upd_ne e2]
section
variable {K : PySem.W.Frag} {H : Hp} {C x p : Addr} {us : List (Option Int)} {r : Int} {cnt : Bool} {S : HS} {dx : Addr} {fs : List (Str × V)} {ad : Tg → Addr} {la ca : Nat → List Addr}
/-- a number more in the stay that is going on -/
theorem HW.num (h : HW K H C x p us r cnt S dx fs ad la ca) {i : Nat} (hi : i < us.length) {l : List (List Int)} {l0 : List Int} (hl : S.stays i = l ++ [l0]) (num : Int) :
    H (ad (.sy i l.length)) = some (.lst (l0.map V.int)) ∧ HW K (upd H (ad (.sy i l.length)) (.lst (l0.map V.int ++ [.int num]))) C x p us r cnt { S with stays := fup S.stays i (l ++ [l0 ++ [num]]) } dx fs ad la ca ∧ KF (foot us.length ad S x) H (upd H (ad (.sy i l.length)) (.lst (l0.map V.int ++ [.int num]))) := by
  have ha : alive us.length S (.sy i l.length) := ⟨hi, by rw [hl, List.length_append]; exact Nat.lt_succ_self _⟩
  have e0 := h.hn.nd _ ha
  have e1 : node us.length ad S la ca (.sy i l.length) = .lst (l0.map V.int) := by
    show HO.lst (((S.stays i).getD l.length []).map V.int) = _
    rw [hl, List.getD_eq_getElem?_getD, List.getElem?_append_right (Nat.le_refl _), Nat.sub_self]
    rfl
  have len : ∀ j, (fup S.stays i (l ++ [l0 ++ [num]]) j).length = (S.stays j).length := fun j => by
    by_cases e : j = i
    · subst e; rw [fup_same, hl, List.length_append, List.length_append]; rfl
    · rw [fup_ne e]
  have hp := h.put ha (S' := { S with stays := fup S.stays i (l ++ [l0 ++ [num]]) }) (la' := la) (ca' := ca) (fun t => by
    cases t with
    | sy a b => exact and_congr Iff.rfl (by rw [len])
    | _ => exact Iff.rfl) (fun t ht hta => by
    cases t with
    | sl j =>
      show HO.lst ((List.range (fup S.stays i (l ++ [l0 ++ [num]]) j).length).map _) = _
      rw [len]; rfl
    | sy a b =>
      show HO.lst (((fup S.stays i (l ++ [l0 ++ [num]]) a).getD b []).map V.int) = HO.lst (((S.stays a).getD b []).map V.int)
      by_cases e : a = i
      · subst e
        have hb : b ≠ l.length := fun z => ht (by rw [z])
        have hb2 : b < l.length := by
          have := hta.2
          rw [hl, List.length_append] at this
          have h3 : b < l.length + 1 := this
          omega
        rw [fup_same, hl, List.getD_eq_getElem?_getD, List.getD_eq_getElem?_getD, List.getElem?_append_left hb2, List.getElem?_append_left hb2]
      · rw [fup_ne e]
    | _ => rfl) h.hn.lt h.hn.ct rfl rfl rfl
  have en : node us.length ad { S with stays := fup S.stays i (l ++ [l0 ++ [num]]) } la ca (.sy i l.length) = .lst (l0.map V.int ++ [.int num]) := by
    show HO.lst (((fup S.stays i (l ++ [l0 ++ [num]]) i).getD l.length []).map V.int) = _
    rw [fup_same, List.getD_eq_getElem?_getD, List.getElem?_append_right (Nat.le_refl _), Nat.sub_self]
    show HO.lst ((l0 ++ [num]).map V.int) = _
    rw [List.map_append]
    rfl
  rw [en] at hp
  exact ⟨e0.trans (by rw [e1]), hp⟩
/-- a copy more in a row -/
theorem HW.copy (h : HW K H C x p us r cnt S dx fs ad la ca) {j : Nat} (hj : j < us.length) {tp : Addr} {num c : Int} (hs : SqT K H tp [.int num, .int c]) :
    HW K (upd H (ad (.cr j)) (.lst ((ca j).map V.ref ++ [.ref tp]))) C x p us r cnt { S with copies := fup S.copies j (S.copies j ++ [(num, c)]) } dx fs ad la (fup ca j (ca j ++ [tp])) ∧ KF (foot us.length ad S x) H (upd H (ad (.cr j)) (.lst ((ca j).map V.ref ++ [.ref tp]))) := by
  have hp := h.put (t0 := .cr j) hj (S' := { S with copies := fup S.copies j (S.copies j ++ [(num, c)]) }) (la' := la) (ca' := fup ca j (ca j ++ [tp])) (fun t => by cases t <;> exact Iff.rfl) (fun t ht _ => by
    cases t with
    | cr k =>
      have : k ≠ j := fun z => ht (by rw [z])
      simp only [node, fup_ne this]
    | _ => rfl) h.hn.lt (fun k hk => by
    show TupRows K H (fup ca j (ca j ++ [tp]) k) (copV (fup S.copies j (S.copies j ++ [(num, c)]) k))
    by_cases e : k = j
    · subst e
      rw [fup_same, fup_same]
      unfold copV
      rw [List.map_append]
      exact TupRows.snoc (h.hn.ct k hk) hs
    · rw [fup_ne e, fup_ne e]
      exact h.hn.ct k hk) rfl rfl rfl
  have en : node us.length ad { S with copies := fup S.copies j (S.copies j ++ [(num, c)]) } la (fup ca j (ca j ++ [tp])) (.cr j) = .lst ((ca j).map V.ref ++ [.ref tp]) := by
    show HO.lst ((fup ca j (ca j ++ [tp]) j).map V.ref) = _
    rw [fup_same, List.map_append]
    rfl
  rw [en] at hp
  exact hp
end
section
variable {P : Program} {w : World} {K : PySem.W.Frag} {mg : Str → Option Value} {base : Heap}
/-- what taking a number asks for -/
structure NumOk (n : Nat) (S : HS) (i : Nat) : Prop where
  st : S.hears i = true → S.stays i ≠ [] ∧ ((S.stays i).getLast?.getD []).length < 1000000
  ks : ∀ q ∈ S.served i, 0 ≤ q.1 ∧ q.1 < (n : Int)
  few : ∀ j, j < n → (S.copies j).length + (S.served i).length < 1000000
  sl : (S.stays i).length < 1000000
def spHTNumber (K : PySem.W.Frag) (C : Addr) : Sp := fun vs H Q _ => ∃ (x p : Addr) (us : List (Option Int)) (r : Int) (cnt : Bool) (S : HS) (F : Addr → Prop) (i : Nat) (num : Int), vs = [.ref x, .int i, .int num] ∧ Hear K H C x p us r cnt S F ∧ i < us.length ∧ NumOk us.length S i ∧
  ∀ (F' : Addr → Prop) (H' : Hp), KF F H H' → (∀ c, F' c → F c ∨ H c = none) → Hear K H' C x p us r cnt (takeNumS S i num) F' → Q .non H'
theorem ok_htnumber {C f : Addr} {fd : FuncData} (F : Fun K "take_number" "Hearing.take_number" sHTNumber f fd) (hC : HearN K C) : FnOk P w K mg base CX0 1 f fd ["self", "place", "number"] (spHTNumber K C) := by
  refine F.ok scHTNumber (fun vs H Q E h => ?_) (fun cdv A outer s H vs Q E hr h => ?_)
  · obtain ⟨x, p, us, r, cnt, S, F, i, num, rfl, _⟩ := h
    rfl
  · obtain ⟨x, p, us, r, cnt, S, F, i, num, rfl, hh, hi, ho, q⟩ := h
    have hu := hu_of hr
    refine ⟨_, (pss_cut (ps_if (pt_val (pe_ix ix_list (pe_fld (pv 0) rfl) (pv 1) (fun _ _ => rfl))) (pss_one (ps_expr (pe_bm PySem.F.plainAttrs_list PySem.F.slot_list_append PySem.F.type_list_append mt_append (pe_ix ix_list (pe_ix ix_list (pe_fld (pv 0) rfl) (pv 1) (fun _ _ => rfl)) (pe_un un_neg pe_int) (fun _ _ => rfl)) (pa_cons (pv 2) pa_nil)))) pss_nil)
      (pss_one (ps_lock (ps_for PassesOwn.never rfl (pi_items (pe_ix ix_list (pe_fld (pv 0) rfl) (pv 1) (fun _ _ => rfl))) (pg_tup rfl (pgs_cons (pg_name (i := 3) scHTNumber.nd rfl (.inl rfl)) (pgs_cons (pg_name (i := 4) scHTNumber.nd rfl (.inl rfl)) pgs_nil)))
      (pss_cons (ps_expr (pe_bm PySem.F.plainAttrs_list PySem.F.slot_list_append PySem.F.type_list_append mt_append (pe_ix ix_list (pe_fld (pv 0) rfl) (pv 3) (fun _ _ => rfl)) (pa_cons (pe_tup (pa_cons (pv 2) (pa_cons (pv 4) pa_nil))) pa_nil)))
      (pss_one (ps_fldaug (pv 0) pe_int in_add))))))), ?_⟩
    obtain ⟨dx, fs, ad, la, ca, h, hF⟩ := hh.parts
    -- the stay that is going on
    refine ⟨fun σ' H1 => σ' = [some (.ref x), some (.int i), some (.int num), none, none] ∧ HW K H1 C x p us r cnt (hearNum S i num) dx fs ad la ca ∧ KF (foot us.length ad S x) H H1, ?_, ?_⟩
    · refine ⟨_, rfl, x, C, dx, fs, _, rfl, h.hx, hC.c, hC.n _ (by simp), h.hf.hears, _, rfl, ad .h, _, (i : Int), .bl (S.hears i), rfl, rfl, .inl (.inl (h.hn.nd .h trivial)), atI_nat (range_at _ hi), _, rfl, ?_⟩
      cases hb : S.hears i with
      | false =>
        refine iteF ⟨rfl, ?_, (K0.refl H).kf⟩
        unfold hearNum
        rw [hb, if_neg Bool.false_ne_true]
        exact h
      | true =>
        obtain ⟨hne, hlen⟩ := ho.st hb
        have hl : S.stays i = (S.stays i).dropLast ++ [(S.stays i).getLast hne] := (List.dropLast_concat_getLast hne).symm
        have hgl : (S.stays i).getLast?.getD [] = (S.stays i).getLast hne := by rw [List.getLast?_eq_some_getLast hne]; rfl
        rw [hgl] at hlen
        obtain ⟨e0, h1, k1⟩ := h.num hi hl num
        have hm : (S.stays i).length = (S.stays i).dropLast.length + 1 := by
          conv => lhs; rw [hl]
          rw [List.length_append]; rfl
        have eS : hearNum S i num = { S with stays := fup S.stays i ((S.stays i).dropLast ++ [(S.stays i).getLast hne ++ [num]]) } := by
          unfold hearNum
          rw [hb, if_pos rfl, hgl]
        rw [eS]
        have sq : SqL K H (ad (.sl i)) ((List.range (S.stays i).dropLast.length).map (fun j => V.ref (ad (.sy i j))) ++ [.ref (ad (.sy i (S.stays i).dropLast.length))]) := by
          refine .inl (.inl ?_)
          have := h.hn.nd (.sl i) hi
          rw [this]
          show some (HO.lst ((List.range (S.stays i).length).map fun j => V.ref (ad (.sy i j)))) = _
          rw [hm, List.range_succ, List.map_append]
          rfl
        refine iteT ⟨_, rfl, x, C, dx, fs, _, rfl, h.hx, hC.c, hC.n _ (by simp), h.hf.stay_lists, _, rfl, ad .t, _, (i : Int), .ref (ad (.sl i)), rfl, rfl, .inl (.inl (h.hn.nd .t trivial)), atI_nat (range_at _ hi), 1, rfl, ad (.sl i), _, -1, .ref (ad (.sy i (S.stays i).dropLast.length)), rfl, rfl, sq, L2.atI_last _ _, .inl ⟨rfl, _, .inl (.inl e0)⟩, _, rfl, ad (.sy i (S.stays i).dropLast.length), _, .int num, rfl, rfl, e0, ?_, rfl, h1, k1⟩
        rw [List.length_map, sizeLine_eq]; omega
    rintro σ' H1 ⟨rfl, h1, k1⟩
    have sv : (hearNum S i num).served = S.served := by unfold hearNum; split <;> rfl
    have cp : (hearNum S i num).copies = S.copies := by unfold hearNum; split <;> rfl
    have al1 : ∀ t, alive us.length (hearNum S i num) t ↔ alive us.length S t := fun t => by
      unfold hearNum
      by_cases hb : S.hears i = true
      · rw [if_pos hb]
        obtain ⟨hne, _⟩ := ho.st hb
        cases t with
        | sy a b =>
          refine and_congr Iff.rfl ?_
          show b < (fup S.stays i _ a).length ↔ _
          by_cases e : a = i
          · subst e
            rw [fup_same, List.length_append, List.length_dropLast]
            have := List.length_pos_iff.mpr hne
            show b < (S.stays a).length - 1 + 1 ↔ _
            rw [Nat.sub_add_cancel this]
          · rw [fup_ne e]
        | _ => exact Iff.rfl
      · rw [if_neg hb]
    have e1 := h1.hn.nd (.sd i) hi
    have e1' : H1 (ad (.sd i)) = some (.dK ((S.served i).map fun q => (.inl q.1, .int q.2))) := by
      rw [e1]
      show some (HO.dK (((hearNum S i num).served i).map _)) = _
      rw [sv]
    have ub : ∀ {G : Hp} {t : Tg} {u o : HO}, alive us.length S t → t ≠ .sd i → upd G (ad (.sd i)) u (ad t) = some o → G (ad t) = some o := fun {G t u o} ht hne e => by
      rw [upd_ne (fun z => hne (h.hn.inj t (.sd i) ht hi z))] at e
      exact e
    have xne : x ≠ ad (.sd i) := (foot_ne h.hn (t := .sd i) hi h.hx).symm
    refine ⟨ad (.sd i), _, e1', trivial, fun od => ?_⟩
    generalize hkv : (S.served i).map (fun q => ((.inl q.1 : Key), V.int q.2)) = kvs at e1'
    have hkl : kvs.length = (S.served i).length := by rw [← hkv, List.length_map]
    have hG : ∀ {t : Tg} {o : HO}, alive us.length S t → t ≠ .sd i → H1 (ad t) = some o → upd H1 (ad (.sd i)) (.frz od (.dK kvs)) (ad t) = some o := fun {t o} ht hne e => by
      rw [upd_ne (fun z => hne (h.hn.inj t (.sd i) ht hi z))]
      exact e
    refine ⟨_, rfl, x, C, dx, fs, _, rfl, by rw [upd_ne xne]; exact h1.hx, hC.c, hC.n _ (by simp), h1.hf.served, _, rfl, ad .s, _, (i : Int), .ref (ad (.sd i)), rfl, rfl, .inl (.inl (hG (t := .s) trivial (fun z => by cases z) (h1.hn.nd .s trivial))), atI_nat (range_at _ hi), ad (.sd i), od, kvs, rfl, upd_same, ?_⟩
    have same : upd (upd H1 (ad (.sd i)) (.frz od (.dK kvs))) (ad (.sd i)) (.dK kvs) = H1 := by
      rw [upd_upd]
      funext c
      by_cases e : c = ad (.sd i)
      · subst e; rw [upd_same, e1']
      · rw [upd_ne e]
    refine for_it walk_items (fun j σ' H' => ∃ y3 y4 fs' ca', σ' = [some (.ref x), some (.int i), some (.int num), y3, y4] ∧ H' (ad (.sd i)) = some (.frz od (.dK kvs)) ∧ HW K (upd H' (ad (.sd i)) (.dK kvs)) C x p us r cnt (((S.served i).take j).foldl (copyTo num) (hearNum S i num)) dx fs' ad la ca' ∧ KF (foot us.length ad S x) H (upd H' (ad (.sd i)) (.dK kvs)))
      ⟨none, none, fs, ca, rfl, upd_same, by rw [same, List.take_zero]; exact h1, by rw [same]; exact k1⟩ (fun j σ' H' _ hh => ?_) (fun j z σ' H' H2 hj hh y => ?_) (fun σ' H' hh => ?_)
    · obtain ⟨_, _, _, _, _, e, _⟩ := hh
      exact e
    · obtain ⟨y3, y4, fs', ca', rfl, ez, hw, kw⟩ := hh
      obtain ⟨T, k1', v1, rfl, nT, rfl, ek, ev⟩ := y
      have hjs : j < (S.served i).length := by omega
      obtain ⟨b, c, eq⟩ : ∃ b c, (S.served i)[j]? = some (b, c) := ⟨_, _, List.getElem?_eq_getElem hjs⟩
      have hk : kvs[j]? = some (.inl b, .int c) := by rw [← hkv, List.getElem?_map, eq]; rfl
      have ek' : k1' = .int b := by
        have z := ek
        simp only [hk, Option.map_some, Option.some.injEq] at z
        exact z.symm
      have ev' : v1 = .int c := by
        have z := ev
        simp only [hk, Option.map_some, Option.some.injEq] at z
        exact z.symm
      subst ek' ev'
      have hbm := List.mem_of_getElem? eq
      obtain ⟨b0, b1⟩ := ho.ks _ hbm
      obtain ⟨m, rfl⟩ := Int.eq_ofNat_of_zero_le b0
      have hm : m < us.length := by omega
      have htk : (S.served i).take (j + 1) = (S.served i).take j ++ [((m : Int), c)] := by rw [List.take_add_one, eq]; rfl
      -- how many copies there are
      have cl : ∀ l : List (Int × Int), ∀ S0 : HS, ((l.foldl (copyTo num) S0).copies m).length ≤ (S0.copies m).length + l.length := fun l => by
        induction l with
        | nil => exact fun S0 => Nat.le_refl _
        | cons q l ih =>
          intro S0
          have h1 := ih (copyTo num S0 q)
          have h2 : ((copyTo num S0 q).copies m).length ≤ (S0.copies m).length + 1 := by
            show (fup S0.copies q.1.toNat _ m).length ≤ _
            by_cases e : m = q.1.toNat
            · rw [e, fup_same, List.length_append]; exact Nat.le_refl _
            · rw [fup_ne e]; omega
          rw [List.foldl_cons, List.length_cons]
          omega
      have hcl := cl ((S.served i).take j) (hearNum S i num)
      have hcl2 := List.length_take_le' j (S.served i)
      have hfew := ho.few m hm
      rw [cp] at hcl
      have nTa : T ≠ ad (.sd i) := fun z => by rw [z, ez] at nT; cases nT
      have hw2 : HW K (upd (upd H' T (.tup [.int (m : Int), .int c])) (ad (.sd i)) (.dK kvs)) C x p us r cnt (((S.served i).take j).foldl (copyTo num) (hearNum S i num)) dx fs' ad la ca' := by
        rw [upd_swap nTa]
        exact hw.k0 (K0.new (by rw [upd_ne nTa]; exact nT))
      have kw2 : KF (foot us.length ad S x) H (upd (upd H' T (.tup [.int (m : Int), .int c])) (ad (.sd i)) (.dK kvs)) := by
        rw [upd_swap nTa]
        exact kw.trans ((K0.new (by rw [upd_ne nTa]; exact nT)).kf (F := fun _ => False)) fun c hc => hc.elim
      have ez2 : upd H' T (.tup [.int (m : Int), .int c]) (ad (.sd i)) = some (.frz od (.dK kvs)) := by rw [upd_ne nTa.symm]; exact ez
      have hT : SqT K (upd H' T (.tup [.int (m : Int), .int c])) T [.int (m : Int), .int c] := .inl (.inl upd_same)
      refine ⟨T, _, rfl, hT, rfl, _, _, rfl, _, _, rfl, rfl, ?_⟩
      generalize upd H' T (.tup [.int (m : Int), .int c]) = G at hw2 kw2 ez2 ⊢
      have gx : ∀ {G : Hp} {o : HO}, upd G (ad (.sd i)) (.dK kvs) x = some o → G x = some o := fun {G o} e => by rw [upd_ne xne] at e; exact e
      have gt : ∀ {G : Hp} {t : Tg} {o : HO}, alive us.length S t → t ≠ .sd i → upd G (ad (.sd i)) (.dK kvs) (ad t) = some o → G (ad t) = some o := fun {G t o} ht hne e => ub ht hne e
      refine ⟨_, rfl, x, C, dx, fs', _, rfl, gx hw2.hx, hC.c, hC.n _ (by simp), hw2.hf.copy_rows, _, rfl, ad .p, _, (m : Int), .ref (ad (.cr m)), rfl, rfl, .inl (.inl (gt (t := .p) trivial (fun z => by cases z) (hw2.hn.nd .p trivial))), atI_nat (range_at _ hm), .inl ⟨rfl, _, .inl (.inl (gt (t := .cr m) hm (fun z => by cases z) (hw2.hn.nd (.cr m) hm)))⟩, _, rfl, _, rfl, by show 2 ≤ sizeLine; decide, fun tp ntp => ?_⟩
      have ntpa : tp ≠ ad (.sd i) := fun z => by rw [z, ez2] at ntp; cases ntp
      have hw3 : HW K (upd (upd G tp (.tup [.int num, .int c])) (ad (.sd i)) (.dK kvs)) C x p us r cnt (((S.served i).take j).foldl (copyTo num) (hearNum S i num)) dx fs' ad la ca' := by
        rw [upd_swap ntpa]
        exact hw2.k0 (K0.new (by rw [upd_ne ntpa]; exact ntp))
      have kw3 : KF (foot us.length ad S x) H (upd (upd G tp (.tup [.int num, .int c])) (ad (.sd i)) (.dK kvs)) := by
        rw [upd_swap ntpa]
        exact kw2.trans ((K0.new (by rw [upd_ne ntpa]; exact ntp)).kf (F := fun _ => False)) fun c hc => hc.elim
      have ez3 : upd G tp (.tup [.int num, .int c]) (ad (.sd i)) = some (.frz od (.dK kvs)) := by rw [upd_ne ntpa.symm]; exact ez2
      have htp : SqT K (upd (upd G tp (.tup [.int num, .int c])) (ad (.sd i)) (.dK kvs)) tp [.int num, .int c] := .inl (.inl (by rw [upd_ne ntpa, upd_same]))
      generalize upd G tp (.tup [.int num, .int c]) = G3 at hw3 kw3 ez3 htp ⊢
      have al : ∀ l : List (Int × Int), ∀ S0 : HS, ∀ t, alive us.length (l.foldl (copyTo num) S0) t ↔ alive us.length S0 t := fun l => by
        induction l with
        | nil => exact fun S0 t => Iff.rfl
        | cons q l ih => exact fun S0 t => (ih (copyTo num S0 q) t).trans (by cases t <;> exact Iff.rfl)
      have alj : ∀ t, alive us.length (((S.served i).take j).foldl (copyTo num) (hearNum S i num)) t ↔ alive us.length S t := fun t => (al _ _ t).trans (al1 t)
      have hcp := hw3.copy hm htp
      have ncr : ad (.cr m) ≠ ad (.sd i) := fun z => by have := h.hn.inj (.cr m) (.sd i) hm hi z; cases this
      refine ⟨ad (.cr m), _, .ref tp, rfl, rfl, gt (t := .cr m) hm (fun z => by cases z) (hw3.hn.nd (.cr m) hm), ?_, ?_⟩
      · have l2 := (hw3.hn.ct m hm).1
        unfold copV at l2
        rw [List.length_map] at l2
        rw [List.length_map, l2, sizeLine_eq]
        omega
      have hw4 := hcp.1
      rw [← upd_swap ncr] at hw4
      have kw4 : KF (foot us.length ad S x) H (upd (upd G3 (ad (.cr m)) (.lst ((ca' m).map V.ref ++ [.ref tp]))) (ad (.sd i)) (.dK kvs)) := by
        rw [upd_swap ncr]
        exact kw3.trans hcp.2 fun c hc => .inl ((foot_eq alj).mp hc)
      have ez4 : upd G3 (ad (.cr m)) (.lst ((ca' m).map V.ref ++ [.ref tp])) (ad (.sd i)) = some (.frz od (.dK kvs)) := by rw [upd_ne ncr.symm]; exact ez3
      generalize upd G3 (ad (.cr m)) (.lst ((ca' m).map V.ref ++ [.ref tp])) = G4 at hw4 kw4 ez4 ⊢
      refine ⟨_, rfl, x, C, dx, fs', _, rfl, gx hw4.hx, hC.c, hC.n _ (by simp), hw4.hf.copy_sum, _, 1, rfl, rfl, dx, fs', gx hw4.hx, Nat.lt_of_le_of_lt hw4.hf.len (by decide), ?_⟩
      have hS : ((S.served i).take (j + 1)).foldl (copyTo num) (hearNum S i num) = copyTo num (((S.served i).take j).foldl (copyTo num) (hearNum S i num)) ((m : Int), c) := by
        rw [htk, List.foldl_append]; rfl
      generalize ((S.served i).take j).foldl (copyTo num) (hearNum S i num) = S0 at hw4 kw4 hS alj ⊢
      rw [hS]
      have h5 := hw4.fld (hw4.hf.setC (S0.csum + 1)) ⟨rfl, rfl, rfl, rfl, rfl, rfl⟩
      have h6 := h5.1
      have k6 := kw4.trans h5.2 (fun c hc => .inl ((foot_eq (S := S) (fun t => (by cases t <;> exact Iff.rfl : alive us.length _ t ↔ alive us.length S0 t).trans (alj t))).mp hc))
      rw [← upd_swap xne] at h6 k6
      exact ⟨_, _, _, _, rfl, (upd_ne xne.symm).trans ez4, h6, k6⟩
    · obtain ⟨y3, y4, fs', ca', rfl, ez, hw, kw⟩ := hh
      rw [List.take_of_length_le (by omega)] at hw
      have al : ∀ l : List (Int × Int), ∀ S0 : HS, ∀ t, alive us.length (l.foldl (copyTo num) S0) t ↔ alive us.length S0 t := fun l => by
        induction l with
        | nil => exact fun S0 t => Iff.rfl
        | cons q l ih => exact fun S0 t => (ih (copyTo num S0 q) t).trans (by cases t <;> exact Iff.rfl)
      have al2 : ∀ t, alive us.length (takeNumS S i num) t ↔ alive us.length S t := fun t => (al _ _ t).trans (al1 t)
      exact ⟨ez, q F _ (kw.of fun c hc => (hF c).mpr hc) (fun c hc => .inl hc) ⟨dx, fs', ad, la, ca', hw.hx, hw.hp, hw.hf, hw.hn, fun c => (hF c).trans (foot_eq al2).symm⟩⟩
end
end HK

set_option Elab.async false
set_option linter.all false
set_option maxRecDepth 100000
set_option maxHeartbeats 4000000
namespace HK
open PySem PySem.Spec PyProof.Rows L2 GAl GxR
open Evl (pss_cut)
abbrev sHMay : Stmt := methS 56 4
abbrev N_scHMay : List Str := ["self", "word", "place"]
theorem scHMay : FnScope N_scHMay ["self", "word", "place"] (defScope sHMay) := ⟨rfl, rfl, rfl, by decide +kernel, rfl, by decide +kernel, by decide +kernel⟩
abbrev sHEmit : Stmt := methS 56 11
abbrev N_scHEmit : List Str := ["self", "number"]
theorem scHEmit : FnScope N_scHEmit ["self"] (defScope sHEmit) := ⟨rfl, rfl, rfl, by decide +kernel, rfl, by decide +kernel, by decide +kernel⟩
abbrev sHTCopy : Stmt := methS 56 9
abbrev N_scHTCopy : List Str := ["self", "place", "number", "count"]
theorem scHTCopy : FnScope N_scHTCopy ["self", "place"] (defScope sHTCopy) := ⟨rfl, rfl, rfl, by decide +kernel, rfl, by decide +kernel, by decide +kernel⟩
section
variable {K : PySem.W.Frag} {H : Hp} {C x p : Addr} {us : List (Option Int)} {r : Int} {cnt : Bool} {S : HS} {dx : Addr} {fs : List (Str × V)} {ad : Tg → Addr} {la ca : Nat → List Addr}
/-- the first copy of a row is taken -/
theorem HW.popC (h : HW K H C x p us r cnt S dx fs ad la ca) {j : Nat} (hj : j < us.length) {num c : Int} {rest : List (Int × Int)} (hs : S.copies j = (num, c) :: rest) :
    ∃ tp ta, ca j = tp :: ta ∧ SqT K H tp [.int num, .int c] ∧ HW K (upd H (ad (.cr j)) (.lst (ta.map V.ref))) C x p us r cnt { S with copies := fup S.copies j rest } dx fs ad la (fup ca j ta) ∧ KF (foot us.length ad S x) H (upd H (ad (.cr j)) (.lst (ta.map V.ref))) := by
  have hr := h.hn.ct j hj
  obtain ⟨tp, ta, ec⟩ : ∃ tp ta, ca j = tp :: ta := by
    have l := hr.1
    rw [hs] at l
    cases hc : ca j with
    | nil => rw [hc] at l; cases l
    | cons a b => exact ⟨a, b, rfl⟩
  rw [ec, hs] at hr
  have hp := h.put (t0 := .cr j) hj (S' := { S with copies := fup S.copies j rest }) (la' := la) (ca' := fup ca j ta) (fun t => by cases t <;> exact Iff.rfl) (fun t ht _ => by
    cases t with
    | cr k =>
      have : k ≠ j := fun z => ht (by rw [z])
      simp only [node, fup_ne this]
    | _ => rfl) h.hn.lt (fun k hk => by
    show TupRows K H (fup ca j ta k) (copV (fup S.copies j rest k))
    by_cases e : k = j
    · subst e
      rw [fup_same, fup_same]
      exact hr.tail
    · rw [fup_ne e, fup_ne e]
      exact h.hn.ct k hk) rfl rfl rfl
  have en : node us.length ad { S with copies := fup S.copies j rest } la (fup ca j ta) (.cr j) = .lst (ta.map V.ref) := by
    show HO.lst ((fup ca j ta j).map V.ref) = _
    rw [fup_same]
  rw [en] at hp
  exact ⟨tp, ta, ec, hr.2 0 _ _ rfl rfl, hp⟩
/-- the first letter of a row is taken -/
theorem HW.popL (h : HW K H C x p us r cnt S dx fs ad la ca) {j : Nat} (hj : j < us.length) {b : Bool} {c : Int} {rest : List (Bool × Int)} (hs : S.letters j = (b, c) :: rest) :
    ∃ tp ta, la j = tp :: ta ∧ SqT K H tp [gw b, .int c] ∧ HW K (upd H (ad (.lr j)) (.lst (ta.map V.ref))) C x p us r cnt { S with letters := fup S.letters j rest } dx fs ad (fup la j ta) ca ∧ KF (foot us.length ad S x) H (upd H (ad (.lr j)) (.lst (ta.map V.ref))) := by
  have hr := h.hn.lt j hj
  obtain ⟨tp, ta, ec⟩ : ∃ tp ta, la j = tp :: ta := by
    have l := hr.1
    rw [hs] at l
    cases hc : la j with
    | nil => rw [hc] at l; cases l
    | cons a b => exact ⟨a, b, rfl⟩
  rw [ec, hs] at hr
  have hp := h.put (t0 := .lr j) hj (S' := { S with letters := fup S.letters j rest }) (la' := fup la j ta) (ca' := ca) (fun t => by cases t <;> exact Iff.rfl) (fun t ht _ => by
    cases t with
    | lr k =>
      have : k ≠ j := fun z => ht (by rw [z])
      simp only [node, fup_ne this]
    | _ => rfl) (fun k hk => by
    show TupRows K H (fup la j ta k) (letV gw (fup S.letters j rest k))
    by_cases e : k = j
    · subst e
      rw [fup_same, fup_same]
      exact hr.tail
    · rw [fup_ne e, fup_ne e]
      exact h.hn.lt k hk) h.hn.ct rfl rfl rfl
  have en : node us.length ad { S with letters := fup S.letters j rest } (fup la j ta) ca (.lr j) = .lst (ta.map V.ref) := by
    show HO.lst ((fup la j ta j).map V.ref) = _
    rw [fup_same]
  rw [en] at hp
  exact ⟨tp, ta, ec, hr.2 0 _ _ rfl rfl, hp⟩
end
/-- the four words of deeds with a place -/
inductive DW where
  | come | go | up | down
def DW.s : DW → Str
  | .come => Str.ofString "come"
  | .go => Str.ofString "go"
  | .up => Str.ofString "up"
  | .down => Str.ofString "down"
def mayS (S : HS) : DW → Nat → Bool
  | .come, i => !S.hears i
  | .go, i => S.hears i
  | .up, i => decide (0 < (S.letters i).length)
  | .down, i => decide (0 < (S.copies i).length)
section
variable {P : Program} {w : World} {K : PySem.W.Frag} {mg : Str → Option Value} {base : Heap}
def spHMay (K : PySem.W.Frag) (C : Addr) : Sp := fun vs H Q _ => ∃ (x p : Addr) (us : List (Option Int)) (r : Int) (cnt : Bool) (S : HS) (F : Addr → Prop) (i : Nat) (d : DW), vs = [.ref x, .str d.s, .int i] ∧ Hear K H C x p us r cnt S F ∧ i < us.length ∧ Q (.bl (mayS S d i)) H
theorem ok_hmay {C f : Addr} {fd : FuncData} (F : Fun K "may_be_done" "Hearing.may_be_done" sHMay f fd) (hC : HearN K C) (m_len : mg "len" = none) : FnOk P w K mg base CX0 1 f fd ["self", "word", "place"] (spHMay K C) := by
  refine F.ok scHMay (fun vs H Q E h => ?_) (fun cdv A outer s H vs Q E hr h => ?_)
  · obtain ⟨x, p, us, r, cnt, S, F, i, d, rfl, _⟩ := h
    rfl
  · obtain ⟨x, p, us, r, cnt, S, F, i, d, rfl, hh, hi, q⟩ := h
    have hu := hu_of hr
    refine ⟨_, (pss_cons (ps_if (pt_cmpR op_eq (pv 1) pe_str (nomark _)) (pss_one (ps_ret (pe_not (pe_ix ix_list (pe_fld (pv 0) rfl) (pv 2) (fun _ _ => rfl))))) pss_nil)
      (pss_cons (ps_if (pt_cmpR op_eq (pv 1) pe_str (nomark _)) (pss_one (ps_ret (pe_ix ix_list (pe_fld (pv 0) rfl) (pv 2) (fun _ _ => rfl)))) pss_nil)
      (pss_cons (ps_if (pt_cmpR op_eq (pv 1) pe_str (nomark _)) (pss_one (ps_ret (pe_cmpR op_gt (pe_callB call_len_seq (by rfl) m_len PySem.boot_len (pa_cons (pe_ix ix_list (pe_fld (pv 0) rfl) (pv 2) (fun _ _ => rfl)) pa_nil)) pe_int (nomark _)))) pss_nil)
      (pss_one (ps_ret (pe_cmpR op_gt (pe_callB call_len_seq (by rfl) m_len PySem.boot_len (pa_cons (pe_ix ix_list (pe_fld (pv 0) rfl) (pv 2) (fun _ _ => rfl)) pa_nil)) pe_int (nomark _))))))), ?_⟩
    obtain ⟨dx, fs, ad, la, ca, h, hF⟩ := hh.parts
    have l1 : (la i).length = (S.letters i).length := by rw [(h.hn.lt i hi).1]; unfold letV; rw [List.length_map]
    have l2 : (ca i).length = (S.copies i).length := by rw [(h.hn.ct i hi).1]; unfold copV; rw [List.length_map]
    have pos : ∀ n : Nat, decide ((0 : Int) < (n : Int)) = decide (0 < n) := fun n => by
      by_cases h : 0 < n
      · rw [decide_eq_true h, decide_eq_true (by omega)]
      · rw [decide_eq_false h, decide_eq_false (by omega)]
    cases d with
    | come =>
      refine ⟨_, rfl, rfl, _, rfl, ?_⟩
      rw [show decide (V.str DW.come.s = V.str (Str.ofString "come")) = true from by decide +kernel]
      refine iteT ⟨_, rfl, x, C, dx, fs, _, rfl, h.hx, hC.c, hC.n _ (by simp), h.hf.hears, _, rfl, ad .h, _, (i : Int), .bl (S.hears i), rfl, rfl, .inl (.inl (h.hn.nd .h trivial)), atI_nat (range_at _ hi), _, rfl, ?_⟩
      exact q
    | go =>
      refine ⟨_, rfl, rfl, _, rfl, ?_⟩
      rw [show decide (V.str DW.go.s = V.str (Str.ofString "come")) = false from by decide +kernel]
      refine iteF ⟨_, rfl, rfl, _, rfl, ?_⟩
      rw [show decide (V.str DW.go.s = V.str (Str.ofString "go")) = true from by decide +kernel]
      refine iteT ⟨_, rfl, x, C, dx, fs, _, rfl, h.hx, hC.c, hC.n _ (by simp), h.hf.hears, _, rfl, ad .h, _, (i : Int), .bl (S.hears i), rfl, rfl, .inl (.inl (h.hn.nd .h trivial)), atI_nat (range_at _ hi), ?_⟩
      exact q
    | up =>
      refine ⟨_, rfl, rfl, _, rfl, ?_⟩
      rw [show decide (V.str DW.up.s = V.str (Str.ofString "come")) = false from by decide +kernel]
      refine iteF ⟨_, rfl, rfl, _, rfl, ?_⟩
      rw [show decide (V.str DW.up.s = V.str (Str.ofString "go")) = false from by decide +kernel]
      refine iteF ⟨_, rfl, rfl, _, rfl, ?_⟩
      rw [show decide (V.str DW.up.s = V.str (Str.ofString "up")) = true from by decide +kernel]
      refine iteT ⟨_, rfl, x, C, dx, fs, _, rfl, h.hx, hC.c, hC.n _ (by simp), h.hf.letter_rows, _, rfl, ad .l, _, (i : Int), .ref (ad (.lr i)), rfl, rfl, .inl (.inl (h.hn.nd .l trivial)), atI_nat (range_at _ hi), ad (.lr i), _, rfl, .inl (.inl (.inl (h.hn.nd (.lr i) hi))), _, 0, rfl, rfl, ?_⟩
      rw [List.length_map, l1]
      show Q (.bl (decide ((0 : Int) < ((S.letters i).length : Int)))) H
      rw [pos]
      exact q
    | down =>
      refine ⟨_, rfl, rfl, _, rfl, ?_⟩
      rw [show decide (V.str DW.down.s = V.str (Str.ofString "come")) = false from by decide +kernel]
      refine iteF ⟨_, rfl, rfl, _, rfl, ?_⟩
      rw [show decide (V.str DW.down.s = V.str (Str.ofString "go")) = false from by decide +kernel]
      refine iteF ⟨_, rfl, rfl, _, rfl, ?_⟩
      rw [show decide (V.str DW.down.s = V.str (Str.ofString "up")) = false from by decide +kernel]
      refine iteF ⟨_, rfl, x, C, dx, fs, _, rfl, h.hx, hC.c, hC.n _ (by simp), h.hf.copy_rows, _, rfl, ad .p, _, (i : Int), .ref (ad (.cr i)), rfl, rfl, .inl (.inl (h.hn.nd .p trivial)), atI_nat (range_at _ hi), ad (.cr i), _, rfl, .inl (.inl (.inl (h.hn.nd (.cr i) hi))), _, 0, rfl, rfl, ?_⟩
      rw [List.length_map, l2]
      show Q (.bl (decide ((0 : Int) < ((S.copies i).length : Int)))) H
      rw [pos]
      exact q
def emitS (S : HS) (i : Nat) : HS := takeNumS { S with emitted := S.emitted + 1 } i S.emitted
def spHEmit (K : PySem.W.Frag) (C : Addr) : Sp := fun vs H Q _ => ∃ (x p : Addr) (us : List (Option Int)) (i : Nat) (cnt : Bool) (S : HS) (F : Addr → Prop), vs = [.ref x] ∧ Hear K H C x p us (i : Int) cnt S F ∧ i < us.length ∧ NumOk us.length S i ∧
  ∀ (F' : Addr → Prop) (H' : Hp), KF F H H' → (∀ c, F' c → F c ∨ H c = none) → Hear K H' C x p us (i : Int) cnt (emitS S i) F' → Q (.int S.emitted) H'
theorem ok_hemit {C f : Addr} {fd : FuncData} {f_h_tnumber : Addr} {fd_h_tnumber : FuncData} (F : Fun K "emit" "Hearing.emit" sHEmit f fd) (hC : HearN K C) (M_h_tnumber : Meth K C "take_number" f_h_tnumber) (b_h_tnumber : Binds K fd_h_tnumber ["self", "place", "number"] []) (G_h_tnumber : FnOk P w K mg base CX0 1 f_h_tnumber fd_h_tnumber ["self", "place", "number"] (spHTNumber K C)) : FnOk P w K mg base CX0 2 f fd ["self"] (spHEmit K C) := by
  refine F.ok scHEmit (fun vs H Q E h => ?_) (fun cdv A outer s H vs Q E hr h => ?_)
  · obtain ⟨x, p, us, i, cnt, S, F, rfl, _⟩ := h
    rfl
  · obtain ⟨x, p, us, i, cnt, S, F, rfl, hh, hi, ho, q⟩ := h
    have hu := hu_of hr
    refine ⟨_, (pss_cons (ps_set (i := 1) scHEmit.nd rfl (.inl rfl) (pe_fld (pv 0) rfl))
      (pss_cons (ps_fldaug (pv 0) pe_int in_add)
      (pss_cons (ps_expr (pe_meth (pv 0) hC.c M_h_tnumber G_h_tnumber (hr.mono (by decide)) b_h_tnumber .nil pass0 (pa_cons (pe_fld (pv 0) rfl) (pa_cons (pv 1) pa_nil))))
      (pss_one (ps_ret (pv 1)))))), ?_⟩
    obtain ⟨dx, fs, ad, la, ca, h, hF⟩ := hh.parts
    have h1 := h.fld (h.hf.setE (S.emitted + 1)) ⟨rfl, rfl, rfl, rfl, rfl, rfl⟩
    refine ⟨_, rfl, x, C, dx, fs, _, rfl, h.hx, hC.c, hC.n _ (by simp), h.hf.emitted, ?_⟩
    refine ⟨_, rfl, x, C, dx, fs, _, rfl, h.hx, hC.c, hC.n _ (by simp), h.hf.emitted, _, 1, rfl, rfl, dx, fs, h.hx, Nat.lt_of_le_of_lt h.hf.len (by decide), ?_⟩
    refine ⟨_, rfl, x, dx, _, rfl, h1.1.hx, h1.1.hf.no _ (by decide +kernel), _, rfl, x, C, dx, _, _, rfl, h1.1.hx, hC.c, hC.n _ (by simp), h1.1.hf.root, _, rfl, x, p, us, i, cnt, _, _, i, S.emitted, rfl, h1.1.hear, hi, ⟨ho.st, ho.ks, ho.few, ho.sl⟩, fun F' H' k' hF' hH' => ?_⟩
    refine ⟨_, rfl, q F' H' ?_ (fun c hc => ?_) hH'⟩
    · exact (h1.2.of fun c hc => (hF c).mpr hc).trans k' fun c hc => .inl ((hF c).mpr hc)
    · rcases hF' c hc with z | z
      · exact .inl ((hF c).mpr z)
      · exact .inr (h1.2.dom c z)
def gotS (S : HS) (cnt : Bool) (i : Nat) (num c : Int) (rest : List (Int × Int)) : HS :=
  if needS S i = true ∧ (c = S.counts i ∨ cnt = false) then takeNumS { S with copies := fup S.copies i rest } i num else { S with copies := fup S.copies i rest }
def spHTCopy (K : PySem.W.Frag) (C : Addr) : Sp := fun vs H Q _ => ∃ (x p : Addr) (us : List (Option Int)) (r : Int) (cnt : Bool) (S : HS) (F : Addr → Prop) (i : Nat) (num c : Int) (rest : List (Int × Int)), vs = [.ref x, .int i] ∧ Hear K H C x p us r cnt S F ∧ i < us.length ∧ S.copies i = (num, c) :: rest ∧ NumOk us.length S i ∧
  ∀ (F' : Addr → Prop) (H' : Hp), KF F H H' → (∀ c, F' c → F c ∨ H c = none) → Hear K H' C x p us r cnt (gotS S cnt i num c rest) F' → Q .non H'
theorem ok_htcopy {C f : Addr} {fd : FuncData} {f_h_needed f_h_tnumber : Addr} {fd_h_needed fd_h_tnumber : FuncData} (F : Fun K "take_copy" "Hearing.take_copy" sHTCopy f fd) (hC : HearN K C) (M_h_needed : Meth K C "needed" f_h_needed) (b_h_needed : Binds K fd_h_needed ["self", "place"] []) (G_h_needed : FnOk P w K mg base CX0 4 f_h_needed fd_h_needed ["self", "place"] (spHNeeded K C))
    (M_h_tnumber : Meth K C "take_number" f_h_tnumber) (b_h_tnumber : Binds K fd_h_tnumber ["self", "place", "number"] []) (G_h_tnumber : FnOk P w K mg base CX0 1 f_h_tnumber fd_h_tnumber ["self", "place", "number"] (spHTNumber K C)) : FnOk P w K mg base CX0 5 f fd ["self", "place"] (spHTCopy K C) := by
  refine F.ok scHTCopy (fun vs H Q E h => ?_) (fun cdv A outer s H vs Q E hr h => ?_)
  · obtain ⟨x, p, us, r, cnt, S, F, i, num, c, rest, rfl, _⟩ := h
    rfl
  · obtain ⟨x, p, us, r, cnt, S, F, i, num, c, rest, rfl, hh, hi, hc, ho, q⟩ := h
    have hu := hu_of hr
    refine ⟨_, (pss_cons (ps_asg (pe_bm PySem.F.plainAttrs_list PySem.F.slot_list_pop PySem.F.type_list_pop mt_popAt (pe_ix ix_list (pe_fld (pv 0) rfl) (pv 1) (fun _ _ => rfl)) (pa_cons pe_int pa_nil)) (pg_tup rfl (pgs_cons (pg_name (i := 2) scHTCopy.nd rfl (.inl rfl)) (pgs_cons (pg_name (i := 3) scHTCopy.nd rfl (.inl rfl)) pgs_nil))))
      (pss_one (ps_if (PW.pt (pw_and (pt_val (pe_meth (pv 0) hC.c M_h_needed G_h_needed (hr.mono (by decide)) b_h_needed .nil pass0 (pa_cons (pv 1) pa_nil))) (pw_and1 (PW.pt (pw_or (pt_cmpR op_eq (pv 3) (pe_ix ix_list (pe_fld (pv 0) rfl) (pv 1) (fun _ _ => rfl)) (nomark _)) (pw_or1 (pt_not (pt_val (pe_fld (pv 0) rfl))))))))) (pss_one (ps_expr (pe_meth (pv 0) hC.c M_h_tnumber G_h_tnumber (hr.mono (by decide)) b_h_tnumber .nil pass0 (pa_cons (pv 1) (pa_cons (pv 2) pa_nil))))) pss_nil))), ?_⟩
    obtain ⟨dx, fs, ad, la, ca, h, hF⟩ := hh.parts
    obtain ⟨tp, ta, ec, ht, h1, k1⟩ := h.popC hi hc
    have e1 := h.hn.nd (.cr i) hi
    have e2 : H (ad (.cr i)) = some (.lst (V.ref tp :: ta.map V.ref)) := by
      rw [e1]
      show some (HO.lst ((ca i).map V.ref)) = _
      rw [ec]; rfl
    have few1 : ∀ j, ((fup S.copies i rest) j).length ≤ (S.copies j).length := fun j => by
      by_cases e : j = i
      · subst e; rw [fup_same, hc]; exact Nat.le_succ _
      · rw [fup_ne e]; exact Nat.le_refl _
    have ho1 : NumOk us.length { S with copies := fup S.copies i rest } i := ⟨ho.st, ho.ks, fun j hj => Nat.lt_of_le_of_lt (Nat.add_le_add_right (few1 j) _) (ho.few j hj), ho.sl⟩
    refine ⟨_, rfl, x, C, dx, fs, _, rfl, h.hx, hC.c, hC.n _ (by simp), h.hf.copy_rows, _, rfl, ad .p, _, (i : Int), .ref (ad (.cr i)), rfl, rfl, .inl (.inl (h.hn.nd .p trivial)), atI_nat (range_at _ hi), .inl ⟨rfl, _, .inl (.inl e2)⟩, ad (.cr i), _, 0, 0, .ref tp, rfl, rfl, e2, by decide, by decide, by rw [PyProof.Rows.seqIndex_at (by omega) (by rw [List.length_cons]; omega)]; rfl, rfl, ?_⟩
    have ht1 : SqT K (upd H (ad (.cr i)) (.lst (ta.map V.ref))) tp [.int num, .int c] := k1.sqT ht
    generalize hG : upd H (ad (.cr i)) (.lst (ta.map V.ref)) = G at h1 k1 ht1
    have hG' : upd H (ad (.cr i)) (.lst ((V.ref tp :: ta.map V.ref).eraseIdx 0)) = G := hG
    rw [hG']
    refine ⟨tp, _, rfl, ht1, rfl, _, _, rfl, _, _, rfl, rfl, ?_⟩
    have kF : KF F H G := k1.of fun c hc => (hF c).mpr hc
    have hF1 : ∀ c, foot us.length ad { S with copies := fup S.copies i rest } x c → F c := fun c hc => (hF c).mpr ((foot_eq (S := S) (fun t => by cases t <;> exact Iff.rfl)).mp hc)
    have skip : ¬ (needS S i = true ∧ (c = S.counts i ∨ cnt = false)) → Q .non G := fun z => q _ G kF (fun c hc => .inl (hF1 c hc)) (by unfold gotS; rw [if_neg z]; exact h1.hear)
    have take : (needS S i = true ∧ (c = S.counts i ∨ cnt = false)) → spHTNumber K C [.ref x, .int i, .int num] G (fun _ H' => Q .non H') E := fun z => by
      refine ⟨x, p, us, r, cnt, _, _, i, num, rfl, h1.hear, hi, ho1, fun F' H' k' hF' hH' => ?_⟩
      refine q F' H' (kF.trans k' fun c hc => .inl (hF1 c hc)) (fun c hc => ?_) (by unfold gotS; rw [if_pos z]; exact hH')
      rcases hF' c hc with z | z
      · exact .inl (hF1 c z)
      · exact .inr (kF.dom c z)
    have e3 : needS { S with copies := fup S.copies i rest } i = needS S i := rfl
    refine ⟨_, rfl, x, dx, fs, rfl, h1.hx, h1.hf.no _ (by decide +kernel), _, rfl, x, p, us, r, cnt, _, _, i, rfl, h1.hear, hi, ?_⟩
    rw [e3]
    refine ⟨_, rfl, ?_⟩
    cases hn : needS S i with
    | false => exact iteF (skip fun z => by rw [hn] at z; cases z.1)
    | true =>
      refine iteT ⟨_, rfl, _, rfl, x, C, dx, fs, _, rfl, h1.hx, hC.c, hC.n _ (by simp), h1.hf.counts, _, rfl, ad .c, _, (i : Int), .int (S.counts i), rfl, rfl, .inl (.inl (h1.hn.nd .c trivial)), atI_nat (range_at _ hi), rfl, _, rfl, ?_⟩
      by_cases hcc : c = S.counts i
      · rw [decide_eq_true (show V.int c = V.int (S.counts i) by rw [hcc])]
        exact iteT ⟨_, rfl, x, dx, fs, rfl, h1.hx, h1.hf.no _ (by decide +kernel), _, rfl, _, rfl, take ⟨hn, .inl hcc⟩⟩
      · rw [decide_eq_false (show ¬ V.int c = V.int (S.counts i) from fun z => hcc (V.int.inj z))]
        refine iteF ⟨_, rfl, x, C, dx, fs, _, rfl, h1.hx, hC.c, hC.n _ (by simp), h1.hf.counted, _, rfl, ?_⟩
        cases hcn : cnt with
        | true =>
          subst hcn
          exact iteF (skip fun z => z.2.elim hcc fun y => Bool.noConfusion y)
        | false =>
          subst hcn
          exact iteT ⟨_, rfl, x, dx, fs, rfl, h1.hx, h1.hf.no _ (by decide +kernel), _, rfl, _, rfl, take ⟨hn, .inr rfl⟩⟩
end
end HK

set_option Elab.async false
set_option linter.all false
set_option maxRecDepth 100000
set_option maxHeartbeats 4000000
namespace HK
open PySem PySem.Spec PyProof.Rows L2 GAl GxR
open Evl (pss_cut)
abbrev sHTLetter : Stmt := methS 56 8
abbrev N_scHTLetter : List Str := ["self", "place", "word", "count", "taker", "before"]
theorem scHTLetter : FnScope N_scHTLetter ["self", "place"] (defScope sHTLetter) := ⟨rfl, rfl, rfl, by decide +kernel, rfl, by decide +kernel, by decide +kernel⟩
def dropI (l : List (Int × Int)) (k : Int) : List (Int × Int) := l.filter fun q => decide (q.1 ≠ k)
def srv (q : Int × Int) : Key × V := (.inl q.1, .int q.2)
theorem putK_app {kvs : List (Key × V)} {k : Key} {v : V} (h : k ∉ kvs.map (·.1)) : putK kvs k v = kvs ++ [(k, v)] := by
  unfold putK
  rw [if_neg]
  intro z
  obtain ⟨q, hq, e⟩ := List.any_eq_true.mp z
  exact h (List.mem_map.mpr ⟨q, hq, of_decide_eq_true e⟩)
theorem dropK_srv (l : List (Int × Int)) (k : Int) : dropK (l.map srv) (.inl k : Key) = (dropI l k).map srv := by
  unfold dropK dropI
  rw [List.filter_map]
  congr 1
  refine List.filter_congr fun q _ => ?_
  show decide ((Sum.inl q.1 : Key) ≠ .inl k) = decide (q.1 ≠ k)
  exact decide_eq_decide.mpr ⟨fun z y => z (congrArg Sum.inl y), fun z y => z (Sum.inl.inj y)⟩
theorem keys_srv {l : List (Int × Int)} {k : Int} : (.inl k : Key) ∈ (l.map srv).map (·.1) ↔ k ∈ l.map (·.1) := by
  rw [List.map_map]
  constructor
  · intro z
    obtain ⟨q, hq, e⟩ := List.mem_map.mp z
    exact List.mem_map.mpr ⟨q, hq, Sum.inl.inj e⟩
  · intro z
    obtain ⟨q, hq, e⟩ := List.mem_map.mp z
    exact List.mem_map.mpr ⟨q, hq, congrArg Sum.inl e⟩
section
variable {K : PySem.W.Frag} {H : Hp} {C x p : Addr} {us : List (Option Int)} {r : Int} {cnt : Bool} {S : HS} {dx : Addr} {fs : List (Str × V)} {ad : Tg → Addr} {la ca : Nat → List Addr}
/-- whom a place serves is written -/
theorem HW.serve (h : HW K H C x p us r cnt S dx fs ad la ca) {j : Nat} (hj : j < us.length) (l : List (Int × Int)) :
    HW K (upd H (ad (.sd j)) (.dK (l.map srv))) C x p us r cnt { S with served := fup S.served j l } dx fs ad la ca ∧ KF (foot us.length ad S x) H (upd H (ad (.sd j)) (.dK (l.map srv))) := by
  have hp := h.put (t0 := .sd j) hj (S' := { S with served := fup S.served j l }) (la' := la) (ca' := ca) (fun t => by cases t <;> exact Iff.rfl) (fun t ht _ => by
    cases t with
    | sd k =>
      have : k ≠ j := fun z => ht (by rw [z])
      simp only [node, fup_ne this]
    | _ => rfl) h.hn.lt h.hn.ct rfl rfl rfl
  have en : node us.length ad { S with served := fup S.served j l } la ca (.sd j) = .dK (l.map srv) := by
    show HO.dK ((fup S.served j l j).map _) = _
    rw [fup_same]
    rfl
  rw [en] at hp
  exact hp
end
def tkS (S : HS) (j i : Nat) (b : Bool) (c : Int) (rest : List (Bool × Int)) : HS := { S with letters := fup S.letters i rest, served := fup S.served j (if b = true then S.served j ++ [((i : Int), c)] else dropI (S.served j) i) }
def tletS (S : HS) (r : Int) (j i : Nat) (b : Bool) (c : Int) (rest : List (Bool × Int)) : HS := tellS (tkS S j i b c rest) r j (needS S j)
section
variable {P : Program} {w : World} {K : PySem.W.Frag} {mg : Str → Option Value} {base : Heap}
def spHTLetter (K : PySem.W.Frag) (C : Addr) : Sp := fun vs H Q _ => ∃ (x p : Addr) (us : List (Option Int)) (r : Int) (cnt : Bool) (S : HS) (F : Addr → Prop) (i j : Nat) (b : Bool) (c : Int) (rest : List (Bool × Int)), vs = [.ref x, .int i] ∧ Hear K H C x p us r cnt S F ∧ i < us.length ∧ j < us.length ∧ us[i]? = some (some (j : Int)) ∧ S.letters i = (b, c) :: rest ∧ (S.letters j).length < 1000000 ∧ (S.served j).length < 1000000 ∧ (b = true ↔ (i : Int) ∉ (S.served j).map (·.1)) ∧
  ∀ (F' : Addr → Prop) (H' : Hp), KF F H H' → (∀ c, F' c → F c ∨ H c = none) → Hear K H' C x p us r cnt (tletS S r j i b c rest) F' → Q .non H'
theorem ok_htletter {C f : Addr} {fd : FuncData} {f_h_needed f_h_tell : Addr} {fd_h_needed fd_h_tell : FuncData} (F : Fun K "take_letter" "Hearing.take_letter" sHTLetter f fd) (hC : HearN K C) (M_h_needed : Meth K C "needed" f_h_needed) (b_h_needed : Binds K fd_h_needed ["self", "place"] []) (G_h_needed : FnOk P w K mg base CX0 4 f_h_needed fd_h_needed ["self", "place"] (spHNeeded K C))
    (M_h_tell : Meth K C "tell_ahead" f_h_tell) (b_h_tell : Binds K fd_h_tell ["self", "place", "before"] []) (G_h_tell : FnOk P w K mg base CX0 5 f_h_tell fd_h_tell ["self", "place", "before"] (spHTell K C)) : FnOk P w K mg base CX0 6 f fd ["self", "place"] (spHTLetter K C) := by
  refine F.ok scHTLetter (fun vs H Q E h => ?_) (fun cdv A outer s H vs Q E hr h => ?_)
  · obtain ⟨x, p, us, r, cnt, S, F, i, j, b, c, rest, rfl, _⟩ := h
    rfl
  · obtain ⟨x, p, us, r, cnt, S, F, i, j, b, c, rest, rfl, hh, hi, hj, hij, hl, hsz, hsv, hb, q⟩ := h
    have hu := hu_of hr
    refine ⟨_, (pss_cons (ps_asg (pe_bm PySem.F.plainAttrs_list PySem.F.slot_list_pop PySem.F.type_list_pop mt_popAt (pe_ix ix_list (pe_fld (pv 0) rfl) (pv 1) (fun _ _ => rfl)) (pa_cons pe_int pa_nil)) (pg_tup rfl (pgs_cons (pg_name (i := 2) scHTLetter.nd rfl (.inl rfl)) (pgs_cons (pg_name (i := 3) scHTLetter.nd rfl (.inl rfl)) pgs_nil))))
      (pss_cons (ps_set (i := 4) scHTLetter.nd rfl (.inl rfl) (pe_ix ix_tup (pe_fld (pv 0) rfl) (pv 1) (fun _ _ => rfl)))
      (pss_cons (ps_set (i := 5) scHTLetter.nd rfl (.inl rfl) (pe_meth (pv 0) hC.c M_h_needed G_h_needed (hr.mono (by decide)) b_h_needed .nil pass0 (pa_cons (pv 4) pa_nil)))
      (pss_cons (ps_if (pt_cmpR op_eq (pv 2) pe_str (nomark _)) (pss_one (ps_dput hu (pe_ix ix_list (pe_fld (pv 0) rfl) (pv 4) (fun _ _ => rfl)) (pv 1) (pv 3) rfl)) (pss_one (ps_ddel (pe_ix ix_list (pe_fld (pv 0) rfl) (pv 4) (fun _ _ => rfl)) (pv 1))))
      (pss_one (ps_expr (pe_meth (pv 0) hC.c M_h_tell G_h_tell (hr.mono (by decide)) b_h_tell .nil pass0 (pa_cons (pv 4) (pa_cons (pv 5) pa_nil))))))))), ?_⟩
    obtain ⟨dx, fs, ad, la, ca, h, hF⟩ := hh.parts
    obtain ⟨tp, ta, ec, ht, h1, k1⟩ := h.popL hi hl
    have e1 := h.hn.nd (.lr i) hi
    have e2 : H (ad (.lr i)) = some (.lst (V.ref tp :: ta.map V.ref)) := by
      rw [e1]
      show some (HO.lst ((la i).map V.ref)) = _
      rw [ec]; rfl
    refine ⟨_, rfl, x, C, dx, fs, _, rfl, h.hx, hC.c, hC.n _ (by simp), h.hf.letter_rows, _, rfl, ad .l, _, (i : Int), .ref (ad (.lr i)), rfl, rfl, .inl (.inl (h.hn.nd .l trivial)), atI_nat (range_at _ hi), .inl ⟨rfl, _, .inl (.inl e2)⟩, ad (.lr i), _, 0, 0, .ref tp, rfl, rfl, e2, by decide, by decide, by rw [PyProof.Rows.seqIndex_at (by omega) (by rw [List.length_cons]; omega)]; rfl, rfl, ?_⟩
    have ht1 : SqT K (upd H (ad (.lr i)) (.lst (ta.map V.ref))) tp [gw b, .int c] := k1.sqT ht
    generalize hG : upd H (ad (.lr i)) (.lst (ta.map V.ref)) = G at h1 k1 ht1
    have hG' : upd H (ad (.lr i)) (.lst ((V.ref tp :: ta.map V.ref).eraseIdx 0)) = G := hG
    rw [hG']
    have kF : KF F H G := k1.of fun c hc => (hF c).mpr hc
    have hF1 : ∀ c, foot us.length ad { S with letters := fup S.letters i rest } x c → F c := fun c hc => (hF c).mpr ((foot_eq (S := S) (fun t => by cases t <;> exact Iff.rfl)).mp hc)
    refine ⟨tp, _, rfl, ht1, rfl, _, _, rfl, _, _, rfl, rfl, ?_⟩
    refine ⟨_, rfl, x, C, dx, fs, _, rfl, h1.hx, hC.c, hC.n _ (by simp), h1.hf.ahead, _, rfl, p, _, (i : Int), .int (j : Int), rfl, rfl, h1.hp, atI_nat (by rw [List.getElem?_map, hij]; rfl), ?_⟩
    refine ⟨_, rfl, x, dx, fs, rfl, h1.hx, h1.hf.no _ (by decide +kernel), _, rfl, x, p, us, r, cnt, _, _, j, rfl, h1.hear, hj, ?_⟩
    have sv1 : G (ad (.sd j)) = some (.dK ((S.served j).map srv)) := h1.hn.nd (.sd j) hj
    have le1 : ((fup S.letters i rest) j).length ≤ (S.letters j).length := by
      by_cases e : j = i
      · subst e; rw [fup_same, hl]; exact Nat.le_succ _
      · rw [fup_ne e]; exact Nat.le_refl _
    cases b with
    | true =>
      refine ⟨_, rfl, rfl, _, rfl, ?_⟩
      rw [show decide (gw true = V.str (Str.ofString "graft")) = true from by decide +kernel]
      have nk : (.inl (i : Int) : Key) ∉ ((S.served j).map srv).map (·.1) := fun z => (hb.mp rfl) (keys_srv.mp z)
      obtain ⟨h2, k2⟩ := h1.serve hj (S.served j ++ [((i : Int), c)])
      refine iteT ⟨_, rfl, _, rfl, x, C, dx, fs, _, rfl, h1.hx, hC.c, hC.n _ (by simp), h1.hf.served, _, rfl, ad .s, _, (j : Int), .ref (ad (.sd j)), rfl, rfl, .inl (.inl (h1.hn.nd .s trivial)), atI_nat (range_at _ hj), _, rfl, ad (.sd j), _, rfl, DPut.k (k := .inl (i : Int)) sv1 (by rw [List.length_map, sizeLine_eq]; omega), ?_⟩
      rw [putK_app nk]
      have e3 : (S.served j).map srv ++ [((.inl (i : Int) : Key), V.int c)] = (S.served j ++ [((i : Int), c)]).map srv := by rw [List.map_append]; rfl
      rw [e3]
      refine ⟨_, rfl, x, dx, fs, rfl, h2.hx, h2.hf.no _ (by decide +kernel), _, rfl, _, rfl, x, p, us, r, cnt, _, _, j, needS S j, rfl, h2.hear, hj, Nat.lt_of_le_of_lt le1 hsz, fun F' H' k' hF' hH' => q F' H' ?_ (fun c hc => ?_) hH'⟩
      · exact (kF.trans k2 fun c hc => .inl (hF1 c hc)).trans k' fun c hc => .inl (hF1 c ((foot_eq (fun t => by cases t <;> exact Iff.rfl)).mp hc))
      · rcases hF' c hc with z | z
        · exact .inl (hF1 c ((foot_eq (fun t => by cases t <;> exact Iff.rfl)).mp z))
        · exact .inr (kF.dom c (k2.dom c z))
    | false =>
      refine ⟨_, rfl, rfl, _, rfl, ?_⟩
      rw [show decide (gw false = V.str (Str.ofString "graft")) = false from by decide +kernel]
      have ik : (i : Int) ∈ (S.served j).map (·.1) := by
        by_cases z : (i : Int) ∈ (S.served j).map (·.1)
        · exact z
        · exact absurd (hb.mpr z) Bool.false_ne_true
      have vk : (valV ((S.served j).map srv) (.inl (i : Int) : Key)).isSome = true := by
        rw [← valV_any]
        obtain ⟨y, hy, e⟩ := List.mem_map.mp (keys_srv.mpr ik)
        exact List.any_eq_true.mpr ⟨y, hy, decide_eq_true e⟩
      obtain ⟨h2, k2⟩ := h1.serve hj (dropI (S.served j) i)
      refine iteF ⟨_, rfl, x, C, dx, fs, _, rfl, h1.hx, hC.c, hC.n _ (by simp), h1.hf.served, _, rfl, ad .s, _, (j : Int), .ref (ad (.sd j)), rfl, rfl, .inl (.inl (h1.hn.nd .s trivial)), atI_nat (range_at _ hj), _, rfl, ad (.sd j), _, .inl (i : Int), rfl, sv1, rfl, vk, ?_⟩
      rw [dropK_srv]
      refine ⟨_, rfl, x, dx, fs, rfl, h2.hx, h2.hf.no _ (by decide +kernel), _, rfl, _, rfl, x, p, us, r, cnt, _, _, j, needS S j, rfl, h2.hear, hj, Nat.lt_of_le_of_lt le1 hsz, fun F' H' k' hF' hH' => q F' H' ?_ (fun c hc => ?_) hH'⟩
      · exact (kF.trans k2 fun c hc => .inl (hF1 c hc)).trans k' fun c hc => .inl (hF1 c ((foot_eq (fun t => by cases t <;> exact Iff.rfl)).mp hc))
      · rcases hF' c hc with z | z
        · exact .inl (hF1 c ((foot_eq (fun t => by cases t <;> exact Iff.rfl)).mp z))
        · exact .inr (kF.dom c (k2.dom c z))
end
end HK

set_option Elab.async false
set_option linter.all false
set_option maxRecDepth 100000
set_option maxHeartbeats 4000000
namespace HK
open PySem PySem.Spec PyProof.Rows L2 GAl GxR
open Evl (pss_cut)
abbrev sIsDeed : Stmt := topS 55
abbrev N_scIsDeed : List Str := ["thing"]
theorem scIsDeed : FnScope N_scIsDeed ["thing"] (defScope sIsDeed) := ⟨rfl, rfl, rfl, by decide +kernel, rfl, by decide +kernel, by decide +kernel⟩
def dWords : List Str := [DW.come.s, DW.go.s, DW.up.s, DW.down.s]
def isDeedD : PyData → Bool
  | .tuple (.str z :: r) => if z = Str.ofString "emit" then decide (r.length = 0) else decide (z ∈ dWords) && decide (r.length = 1)
  | _ => false
theorem iteNF {A B : Prop} (h : A) : if (!false) = true then A else B := h
theorem iteNT {A B : Prop} (h : B) : if (!true) = true then A else B := h
theorem lenB {v : V} {vs : List V} {ds : List PyData} (h : vs.length = ds.length) : decide (ds.length = 0) = decide (V.int ((v :: vs).length : Int) = V.int 1) := by
  rw [List.length_cons, h]
  exact decide_eq_decide.mpr ⟨fun z => by rw [z]; rfl, fun z => by have := V.int.inj z; omega⟩
theorem lenC {v : V} {vs : List V} {ds : List PyData} (h : vs.length = ds.length) : decide (ds.length = 1) = decide (V.int ((v :: vs).length : Int) = V.int 2) := by
  rw [List.length_cons, h]
  exact decide_eq_decide.mpr ⟨fun z => by rw [z]; rfl, fun z => by have := V.int.inj z; omega⟩
theorem inV_words {z : Str} : ∀ {l : List Str}, inV (V.str z) (l.map V.str) = decide (z ∈ l)
  | [] => by rw [decide_eq_false (List.not_mem_nil)]; rfl
  | a :: l => by
    have ih := inV_words (z := z) (l := l)
    show ((a == z) || inV (V.str z) (l.map V.str)) = _
    rw [ih]
    by_cases e : z = a
    · subst e
      rw [decide_eq_true (List.mem_cons_self ..), beq_self_eq_true, Bool.true_or]
    · rw [beq_false_of_ne (fun y => e y.symm), Bool.false_or]
      exact decide_eq_decide.mpr ⟨fun y => List.mem_cons_of_mem _ y, fun y => (List.mem_cons.mp y).resolve_left e⟩
theorem tys_strH {T : String} (h : T ∈ tys) : kitB T "str" = some (T == "str") := by
  simp only [tys, List.mem_cons, List.not_mem_nil, or_false] at h
  rcases h with rfl | rfl | rfl | rfl | rfl | rfl | rfl <;> decide +kernel
section
variable {P : Program} {w : World} {K : PySem.W.Frag} {mg : Str → Option Value} {base : Heap}
def spIsDeed (K : PySem.W.Frag) : Sp := fun vs H Q _ => ∃ (v : V) (d : PyData), vs = [v] ∧ Dp K H v d ∧ Q (.bl (isDeedD d)) H
theorem ok_isdeed {f aPW : Addr} {fd : FuncData} (F : Fun K "is_deed" "is_deed" sIsDeed f fd) (m_isinstance : mg "isinstance" = none) (m_tuple : mg "tuple" = none) (m_str : mg "str" = none) (m_len : mg "len" = none) (c_PLACE_WORDS : mg "PLACE_WORDS" = some (.ref aPW)) (hPW : ∀ H : Hp, SqT K H aPW (dWords.map V.str)) : FnOk P w K mg base CX0 1 f fd ["thing"] (spIsDeed K) := by
  refine F.ok scIsDeed (fun vs H Q E h => ?_) (fun cdv A outer s H vs Q E hr h => ?_)
  · obtain ⟨v, d, rfl, _⟩ := h
    rfl
  · obtain ⟨v, d, rfl, hd, q⟩ := h
    have hu := hu_of hr
    refine ⟨_, (pss_cons (ps_if (pt_not (PW.pt (pw_and (pt_val (pe_callB call_isi (by rfl) m_isinstance boot_isinstance (pa_cons (pv 0) (pa_cons (pe_bltn (v := .ty "tuple") (by rfl) m_tuple (by decide +kernel) rfl) pa_nil)))) (pw_and (pt_cmpR op_gt (pe_callB call_len_seq (by rfl) m_len PySem.boot_len (pa_cons (pv 0) pa_nil)) pe_int (nomark _)) (pw_and1 (pt_val (pe_callB call_isi (by rfl) m_isinstance boot_isinstance (pa_cons (pe_ix ix_tup (pv 0) pe_int (fun _ _ => rfl)) (pa_cons (pe_bltn (v := .ty "str") (by rfl) m_str (by decide +kernel) rfl) pa_nil))))))))) (pss_one (ps_ret pe_bl)) pss_nil)
      (pss_cons (ps_if (pt_cmpR op_eq (pe_ix ix_tup (pv 0) pe_int (fun _ _ => rfl)) pe_str (nomark _)) (pss_one (ps_ret (pe_cmpR op_eq (pe_callB call_len_seq (by rfl) m_len PySem.boot_len (pa_cons (pv 0) pa_nil)) pe_int (nomark _)))) pss_nil)
      (pss_one (ps_ret (pe_and (pe_cmpR op_in_seq (pe_ix ix_tup (pv 0) pe_int (fun _ _ => rfl)) (pe_glob (v := .ref aPW) (by rfl) c_PLACE_WORDS rfl) rfl) (pe_one (pe_cmpR op_eq (pe_callB call_len_seq (by rfl) m_len PySem.boot_len (pa_cons (pv 0) pa_nil)) pe_int (nomark _)))))))), ?_⟩
    refine ⟨v, rfl, v, .ty "tuple", _, _, _, rfl, .ty "tuple", dp_ty hd, kit_ty (tys_tuple (tyD_mem d)), _, rfl, ite2 (fun e => ?_) (fun e => ?_)⟩
    · obtain ⟨ds, rfl⟩ : ∃ ds, d = .tuple ds := by cases d <;> first | exact ⟨_, rfl⟩ | (simp [tyD] at e)
      obtain ⟨p, xs, rfl, hS, hall⟩ := dp_tup hd
      have hln : xs.length = ds.length := dpAll_len hall
      cases hall with
      | nil => exact ⟨_, rfl, p, _, rfl, .inr hS, _, 0, rfl, rfl, false, rfl, iteF (iteNF q)⟩
      | @cons v vs d ds h1 h2 =>
        have hl2 : vs.length = ds.length := dpAll_len h2
        refine ⟨_, rfl, p, _, rfl, .inr hS, _, 0, rfl, rfl, true, congrArg V.bl (decide_eq_true (by rw [List.length_cons]; omega)), iteT ?_⟩
        refine ⟨_, rfl, p, _, 0, v, rfl, rfl, hS, atI_nat (j := 0) rfl, v, .ty "str", _, _, _, rfl, .ty "str", dp_ty h1, kit_ty (tys_strH (tyD_mem d)), _, rfl, ite2 (fun e => ?_) (fun e => ?_)⟩
        · have e2 : isDeedD (.tuple (d :: ds)) = false := by cases d <;> first | rfl | (simp [tyD] at e)
          rw [e2] at q
          exact q
        · obtain ⟨z, rfl⟩ : ∃ z, d = .str z := by cases d <;> first | exact ⟨_, rfl⟩ | (simp [tyD] at e)
          cases h1
          have e3 : isDeedD (.tuple (.str z :: ds)) = if z = Str.ofString "emit" then decide (ds.length = 0) else decide (z ∈ dWords) && decide (ds.length = 1) := rfl
          refine ⟨_, rfl, p, _, 0, _, rfl, rfl, hS, atI_nat (j := 0) rfl, rfl, _, rfl, ?_⟩
          by_cases hz : z = Str.ofString "emit"
          · rw [decide_eq_true (show V.str z = V.str (Str.ofString "emit") by rw [hz])]
            refine iteT ⟨_, rfl, p, _, rfl, .inr hS, rfl, ?_⟩
            rw [e3, if_pos hz] at q
            exact qeq q (lenB hl2)
          · rw [decide_eq_false (show ¬ V.str z = V.str (Str.ofString "emit") from fun y => hz (V.str.inj y))]
            rw [e3, if_neg hz] at q
            refine iteF ⟨_, rfl, p, _, 0, _, rfl, rfl, hS, atI_nat (j := 0) rfl, aPW, _, rfl, .inr (hPW H), rfl, rfl, ?_⟩
            rw [inV_words]
            by_cases hw : z ∈ dWords
            · rw [decide_eq_true hw]
              rw [decide_eq_true hw, Bool.true_and] at q
              refine ⟨_, rfl, iteT ⟨_, rfl, p, _, rfl, .inr hS, rfl, ?_⟩⟩
              exact qeq q (lenC hl2)
            · rw [decide_eq_false hw]
              rw [decide_eq_false hw, Bool.false_and] at q
              exact ⟨_, rfl, iteF q⟩
    · have e2 : isDeedD d = false := by cases d <;> first | rfl | (simp [tyD] at e)
      rw [e2] at q
      exact iteNF q
end
end HK

set_option Elab.async false
set_option linter.all false
set_option maxRecDepth 100000
set_option maxHeartbeats 2000000
namespace HK
open PySem PySem.Spec PyProof.Rows L2 GAl GxR
/-! the words of places, as a fact that a head can be asked for -/
theorem strsB_ok : ∀ {xs : List Str} {vs : List Value}, strsB xs vs = true → Vals (xs.map V.str) vs
  | [], [], _ => .nil
  | [], v :: vs, h => by cases v <;> cases h
  | x :: xs, [], h => by cases h
  | x :: xs, v :: vs, h => by
    cases v with
    | str y t =>
      obtain ⟨h1, h2⟩ := He.ba (show (decide (x = y) && strsB xs vs) = true from h)
      have e := of_decide_eq_true h1
      subst e
      exact .cons ⟨t, rfl⟩ (strsB_ok h2)
    | _ => cases h
theorem pwB_ok {K : PySem.W.Frag} (h : pwB K = true) (H : Hp) : SqT K H (He.ga K "PLACE_WORDS") (dWords.map V.str) := by
  unfold pwB at h
  cases e : K.lookup (He.ga K "PLACE_WORDS") with
  | none => rw [e] at h; cases h
  | some o =>
    rw [e] at h
    obtain ⟨h1, h2⟩ := He.ba h
    unfold dataB at h2
    cases ed : o.data with
    | seq its n =>
      rw [ed] at h2
      obtain ⟨h3, h4⟩ := He.ba h2
      exact .inr ⟨o, its, n, e, of_decide_eq_true h1, ed, Nat.le_trans (of_decide_eq_true h4) (by decide), strsB_ok h3⟩
    | _ => rw [ed] at h2; cases h2
end HK

set_option Elab.async false
set_option linter.all false
set_option maxRecDepth 100000
set_option maxHeartbeats 2000000
namespace HK
open PySem PySem.Spec PyProof.Rows L2 GAl GxR
open Evl (pss_cut)
theorem pickI (P : Int → Prop) : ∀ {xs : List Int} {d : Int}, (∀ x ∈ xs, P x) → 0 ≤ d → d < xs.length → ∃ y : Int, atI (xs.map V.int) d = some (.int y) ∧ P y := by
  intro xs d h h0 h1
  obtain ⟨k, rfl⟩ := Int.eq_ofNat_of_zero_le h0
  have hk : k < xs.length := by omega
  exact ⟨xs[k], atI_nat (by rw [List.getElem?_map, List.getElem?_eq_getElem hk]; rfl), h _ (List.getElem_mem hk)⟩
section
variable {P : Program} {w : World} {K : PySem.W.Frag} {mg : Str → Option Value} {base : Heap}
def spENet (K : PySem.W.Frag) : Sp := fun vs H Q _ => ∃ (t sc : Addr) (ns : List Int) (b : Int), vs = [.ref t] ∧ Tray K H t sc ns b ∧ b ≤ 500000 ∧
  ∀ (a : Addr) (n : Int) (rs : List R4) (H' : Hp), Kt t H H' → Tray K H' t sc ns (b + 1200) → NetAt K H' a n rs → Good n rs → rs.length ≤ 156 → Q (.ref a) H'
/-- between the turns -/
structure NIe (K : PySem.W.Frag) (H : Hp) (t sc ra : Addr) (ns : List Int) (n : Int) (i j : Nat) (c : Int) (H3 : Hp) : Prop where
  kt : Kt t H H3
  tp : Tray K H3 t sc ns c
  ex : ∃ xs rs, H3 ra = some (.lst xs) ∧ Roads K H3 xs rs ∧ Good n rs ∧ (∀ r ∈ rs, r.s < i ∨ (r.s = i ∧ r.e < j)) ∧ rs.length ≤ 12 * i + j
end
end HK

set_option Elab.async false
set_option linter.all false
set_option maxRecDepth 100000
set_option maxHeartbeats 2000000
namespace HK
open PySem PySem.Spec PyProof.Rows L2 GAl GxR
open Evl (pss_cut)
open TL (tl numL len_tl tl_num numL_len tl_append tl_join join_eq joinL ext_tl)
/-- a number's text -/
def sOf (i : Int) : Str := Str.ofString (toString i)
def R4.is (r : R4) : List Int := [r.s, r.e, r.c, r.l]
theorem R4.vs_is (r : R4) : r.vs = r.is.map V.int := rfl
def rowS (r : R4) : Str := Txt.join (Str.ofString " ") (r.is.map sOf)
def headS (n : Int) : Str := Str.ofString "PLACES " ++ sOf n
def netS (n : Int) (rs : List R4) : Str := Txt.join (Str.ofString "\n") (headS n :: rs.map rowS)
def Sm (i : Int) : Prop := 0 ≤ i ∧ i ≤ 1000
theorem Sm.log {i : Int} (h : Sm i) : i.natAbs.log2 < 1920 := by
  have h1 := Nat.log2_le_self i.natAbs
  obtain ⟨h2, h3⟩ := h
  omega
theorem sOf_tl {i : Int} (h : 0 ≤ i) : tl (sOf i) = numL i.toNat := by
  obtain ⟨n, rfl⟩ := Int.eq_ofNat_of_zero_le h
  exact tl_num n
theorem sOf_len {i : Int} (h : Sm i) : (sOf i).length ≤ 4 := by
  rw [len_tl, sOf_tl h.1]
  refine numL_len (by decide) ?_
  obtain ⟨h2, h3⟩ := h
  have : (10 : Nat) ^ 4 = 10000 := by decide
  omega
theorem RoadOk.sm {n : Int} {r : R4} (h : RoadOk n r) (hn : n ≤ 12) : ∀ i ∈ r.is, Sm i := by
  intro i hi
  have := h.s0; have := h.s1; have := h.e0; have := h.e1; have := h.c0; have := h.c1; have := h.l0; have := h.l1
  simp only [R4.is, List.mem_cons, List.not_mem_nil, or_false] at hi
  rcases hi with rfl | rfl | rfl | rfl <;> exact ⟨by omega, by omega⟩
theorem tl_rowS (r : R4) : tl (rowS r) = tl (sOf r.s) ++ (tl (Str.ofString " ") ++ (tl (sOf r.e) ++ (tl (Str.ofString " ") ++ (tl (sOf r.c) ++ (tl (Str.ofString " ") ++ tl (sOf r.l)))))) := by
  unfold rowS
  rw [join_eq, tl_join]
  rfl
theorem rowS_f (r : R4) : Str.empty ++ sOf r.s ++ Str.ofString " " ++ sOf r.e ++ Str.ofString " " ++ sOf r.c ++ Str.ofString " " ++ sOf r.l = rowS r := by
  refine ext_tl ?_
  rw [tl_rowS]
  simp only [tl_append, List.append_assoc]
  rfl
theorem sp_len : (Str.ofString " ").length = 1 := by decide
theorem lf_len : (Str.ofString "\n").length = 1 := by decide
theorem pl_len : (Str.ofString "PLACES ").length = 7 := by decide
theorem app_len (x y : Str) : (x ++ y).length = x.length + y.length := by
  rw [len_tl, len_tl, len_tl, tl_append, List.length_append]
theorem rowS_len {n : Int} {r : R4} (h : RoadOk n r) (hn : n ≤ 12) : (rowS r).length ≤ 19 := by
  have z := h.sm hn
  have a := sOf_len (z r.s (by simp [R4.is]))
  have b := sOf_len (z r.e (by simp [R4.is]))
  have c := sOf_len (z r.c (by simp [R4.is]))
  have d := sOf_len (z r.l (by simp [R4.is]))
  rw [← rowS_f]
  simp only [app_len, sp_len]
  have : Str.empty.length = 0 := by decide
  omega
theorem headS_len {n : Int} (h : Sm n) : (headS n).length ≤ 11 := by
  have a := sOf_len h
  unfold headS
  rw [app_len, pl_len]
  omega
theorem sum_le {c : Nat} : ∀ {ys : List Str}, (∀ y ∈ ys, y.length ≤ c) → (ys.map (·.length)).sum ≤ c * ys.length
  | [], _ => Nat.zero_le _
  | y :: ys, h => by
    have := h y (List.mem_cons_self ..)
    have := sum_le (ys := ys) fun z hz => h z (List.mem_cons_of_mem _ hz)
    simp only [List.map_cons, List.sum_cons, List.length_cons, Nat.mul_add]
    omega
theorem net_fits {n : Int} {rs : List R4} (G : Good n rs) (hl : rs.length ≤ 156) : ((headS n :: rs.map rowS).map (·.length)).sum + (headS n :: rs.map rowS).length * (Str.ofString "\n").length ≤ 16777216 := by
  have n1 := G.n1
  have n2 := G.n2
  have h := sum_le (c := 19) (ys := headS n :: rs.map rowS) fun y hy => by
    rcases List.mem_cons.mp hy with rfl | hy
    · exact Nat.le_trans (headS_len ⟨by omega, by omega⟩) (by decide)
    · obtain ⟨r, hr, rfl⟩ := List.mem_map.mp hy
      exact rowS_len (G.ok r hr) n2
  rw [lf_len]
  simp only [List.length_cons, List.length_map] at h ⊢
  omega
section
variable {P : Program} {w : World} {K : PySem.W.Frag} {mg : Str → Option Value} {base : Heap}
def spText (K : PySem.W.Frag) : Sp := fun vs H Q _ => ∃ (a : Addr) (n : Int) (rs : List R4), vs = [.ref a] ∧ NetAt K H a n rs ∧ Good n rs ∧ rs.length ≤ 156 ∧ ∀ H', K0 H H' → Q (.str (netS n rs)) H'
def spShow (K : PySem.W.Frag) (Pn Pr : Addr) : Sp := fun vs H Q _ => ∃ (a : Addr) (n : Int) (rs : List R4), vs = [.ref a] ∧ NetAt K H a n rs ∧ Good n rs ∧ rs.length ≤ 156 ∧ TabG H Pn ∧ TabG H Pr ∧ ∀ H', K0 H H' → Q (.str (netS n rs)) H'
theorem fit_app {acc y : Str} {c : Nat} (h : acc.length + y.length ≤ c) (hc : c ≤ sizeLine) : (acc ++ y).length ≤ sizeLine := by
  rw [app_len]; omega
end
end HK

set_option Elab.async false
set_option linter.all false
set_option maxRecDepth 100000
set_option maxHeartbeats 2000000
namespace HK
open PySem PySem.Spec PyProof.Rows L2 GAl GxR
open Evl (pss_cut)
open TL (tl numL len_tl tl_num numL_len tl_append tl_join join_eq joinL ext_tl)
abbrev sIsNum : Stmt := topS 61
abbrev N_scIsNum : List Str := ["word", "figure"]
theorem scIsNum : FnScope N_scIsNum ["word"] (defScope sIsNum) := ⟨rfl, rfl, rfl, by decide +kernel, rfl, by decide +kernel, by decide +kernel⟩
def figsS : Str := Str.ofString "0123456789"
def isNum (z : Str) : Bool := (decide (1 ≤ z.length) && decide (z.length ≤ 6)) && ((tl z).all (fun c => decide (c ∈ figsS.cps.toList))) && (decide (z = Str.ofString "0") || !decide ((tl z).head? = some 48))
section
variable {P : Program} {w : World} {K : PySem.W.Frag} {mg : Str → Option Value} {base : Heap}
def spIsNum (K : PySem.W.Frag) (Pw : Addr) : Sp := fun vs H Q _ => ∃ z : Str, vs = [.str z] ∧ z.length ≤ sizeLine ∧ TabG H Pw ∧ ∀ H', K0 H H' → Q (.bl (isNum z)) H'
theorem ok_isnum {f c Pw : Addr} {fd : FuncData} {t6 tF : Tok} (F : FunC K "is_number" "is_number" sIsNum f fd c) (TB : TabB base mg c Pw) (m_len : mg "len" = none) (m_all : mg "all" = none)
    (c_MOST_FIGURES : mg "MOST_FIGURES" = some (.int 6 t6)) (c_FIGURES : mg "FIGURES" = some (.str (Str.ofString "0123456789") tF)) : FnOk P w K mg base CX0 3 f fd ["word"] (spIsNum K Pw) := by
  refine F.ok scIsNum (fun vs H Q E h => ?_) (fun A outer s H vs Q E hr h => ?_)
  · obtain ⟨a, rfl, _⟩ := h
    rfl
  · obtain ⟨z, rfl, hz, tw, q⟩ := h
    have hu := hu_of hr
    refine ⟨_, (pss_cons (ps_if (pt_not (PW.pt (pw_and (pt_chain op_le op_le pe_int (pe_callB call_len_str (by rfl) m_len PySem.boot_len (pa_cons (pv 0) pa_nil)) (pe_glob (v := .int 6) (by rfl) c_MOST_FIGURES ⟨_, rfl⟩)) (pw_and1 (pt_val (pe_allG (own := [("figure", 1)]) (k := 1) (g := (gName 1)) (tt := tYes) (te := (tOp rInS (tVar 1) (tC (.str (Str.ofString "0123456789"))))) (hr.mono (by decide)) (by rfl) m_all rfl scIsNum.nd TB rfl (gsc_by (N := N_scIsNum) (sc := defScope sIsNum) (by decide +kernel)) (pi_str (pv 0)) (fun A' hr' _ _ _ _ _ _ => (pg_name (i := 1) scIsNum.nd rfl (.inl rfl))) (fun A' hr' _ _ _ _ _ _ => pts_nil) (fun A' hr' _ _ _ _ _ _ => (pe_cmpR op_inS (pv 1) (pe_glob (v := .str (Str.ofString "0123456789")) (by rfl) c_FIGURES ⟨_, rfl⟩) rfl)))))))) (pss_one (ps_ret pe_bl)) pss_nil)
      (pss_one (ps_ret (pe_or (pe_cmpR op_eq (pv 0) pe_str (nomark _)) (pe_one (pe_cmpR op_ne (pe_ix ix_str (pv 0) pe_int (fun _ _ => rfl)) pe_str (nomark _))))))), ?_⟩
    have q' : ∀ {b : Bool} {H' : Hp}, isNum z = b → K0 H H' → Q (.bl b) H' := fun {b H'} e k => by rw [← e]; exact q H' k
    refine ⟨_, rfl, z, rfl, hz, 1, _, rfl, rfl, _, rfl, ite2 (fun e1 => ⟨_, 6, rfl, rfl, _, rfl, ite2 (fun e2 => ?_) (fun e2 => ?_)⟩) (fun e1 => ?_)⟩
    · refine ⟨_, rfl, z, rfl, tw, fun H2 hT2 => ?_⟩
      have k2 : K0 H H2 := K0.tbd tw hT2
      refine ⟨fun i m H3 => i + m = z.cps.size ∧ K0 H H3 ∧ ∀ c ∈ (tl z).take i, c ∈ figsS.cps.toList, ⟨z.cps.size, by omega, k2, fun c hc => by rw [List.take_zero] at hc; cases hc⟩, fun i m H3 hWi => ?_⟩
      obtain ⟨em, k3, hall⟩ := hWi
      by_cases hi : i < z.cps.size
      · refine .inr ⟨hi, fun H' => K0 H H' ∧ ∀ c ∈ (tl z).take (i + 1), c ∈ figsS.cps.toList, fun H' hN => ⟨m - 1, by omega, by omega, hN⟩, fun x H' hy => ?_⟩
        obtain ⟨rfl, c, hc, rfl⟩ := hy
        have hct : (tl z)[i]? = some c := by
          show z.cps.toList[i]? = some c
          rw [Array.getElem?_toList]; exact hc
        refine ⟨rfl, tyes ⟨_, rfl, c, figsS, rfl, rfl, _, rfl, ite2 (fun e => ?_) (fun e => ?_)⟩⟩
        · refine ⟨k3, fun d hd => ?_⟩
          rw [List.take_add_one, hct] at hd
          rcases List.mem_append.mp hd with h | h
          · exact hall d h
          · cases List.mem_singleton.mp h
            exact of_decide_eq_true e
        · refine ⟨_, rfl, iteT (q' ?_ k3)⟩
          have e' : ((tl z).all (fun c => decide (c ∈ figsS.cps.toList))) = false := by
            rw [List.all_eq_false]
            exact ⟨c, List.mem_of_getElem? hct, e⟩
          unfold isNum
          rw [e', Bool.and_false, Bool.false_and]
      · have hsz : (tl z).length = z.cps.size := by show z.cps.toList.length = _; simp
        rw [List.take_of_length_le (by omega)] at hall
        have e' : ((tl z).all (fun c => decide (c ∈ figsS.cps.toList))) = true := List.all_eq_true.mpr fun c hc => decide_eq_true (hall c hc)
        have hlen : 1 ≤ z.length ∧ z.length ≤ 6 := by
          have := of_decide_eq_true e1
          have := of_decide_eq_true e2
          omega
        refine .inl ⟨Nat.le_of_not_lt hi, _, rfl, iteF ?_⟩
        have eN : isNum z = (decide (z = Str.ofString "0") || !decide ((tl z).head? = some 48)) := by
          unfold isNum
          rw [e', decide_eq_true hlen.1, decide_eq_true hlen.2]
          rfl
        have hz0 : ∃ c l, tl z = c :: l := by
          cases hh : tl z with
          | nil => rw [len_tl, hh] at hlen; exact absurd hlen.1 (by decide)
          | cons c l => exact ⟨c, l, rfl⟩
        obtain ⟨c, l, hcl⟩ := hz0
        refine ⟨_, rfl, rfl, _, rfl, ite2 (fun e => q' ?_ k3) (fun e => ⟨_, rfl, z, 0, c, rfl, rfl, hz, atI_nat (j := 0) (by show (tl z)[0]? = some c; rw [hcl]; rfl), rfl, ?_⟩)⟩
        · have ez : z = Str.ofString "0" := V.str.inj (of_decide_eq_true e)
          rw [eN, decide_eq_true ez, Bool.true_or]
        · refine q' ?_ k3
          have ez : ¬ z = Str.ofString "0" := fun h => e (decide_eq_true (by rw [h]))
          rw [eN, decide_eq_false ez, Bool.false_or]
          congr 1
          rw [hcl]
          by_cases hc : c = 48
          · subst hc
            rw [decide_eq_true (show V.str ⟨#[48]⟩ = V.str (Str.ofString "0") from rfl)]
            rfl
          · rw [decide_eq_false (show ¬ V.str ⟨#[c]⟩ = V.str (Str.ofString "0") from fun h => hc (by
              have h1 : tl ⟨#[c]⟩ = tl (Str.ofString "0") := congrArg tl (V.str.inj h)
              have h2 : [c] = [48] := h1
              exact (List.cons.inj h2).1))]
            exact decide_eq_false (fun h => hc (Option.some.inj h))
    · exact iteT (q' (by
        have : ¬ z.length ≤ 6 := fun h => e2 (decide_eq_true (by omega))
        unfold isNum
        rw [decide_eq_false this, Bool.and_false, Bool.false_and, Bool.false_and]) (K0.refl _))
    · exact ⟨_, rfl, iteF (iteT (q' (by
        have : ¬ 1 ≤ z.length := fun h => e1 (decide_eq_true (by omega))
        unfold isNum
        rw [decide_eq_false this, Bool.false_and, Bool.false_and, Bool.false_and]) (K0.refl _)))⟩
end
end HK

set_option Elab.async false
set_option linter.all false
set_option maxRecDepth 100000
set_option maxHeartbeats 2000000
namespace HK
open PySem PySem.Spec PyProof.Rows L2 GAl GxR
open TL (tl numL len_tl tl_num numL_len tl_append tl_join join_eq joinL ext_tl numL_free split_join int_num)
/-! what is written is read back -/
def isNumL (l : List Nat) : Bool := (decide (1 ≤ l.length) && decide (l.length ≤ 6)) && (l.all (fun c => decide (48 ≤ c ∧ c ≤ 57))) && (decide (l = [48]) || !decide (l.head? = some 48))
theorem all_num : (List.range 1001).all (fun n => isNumL (numL n)) = true := by decide +kernel
theorem fig_iff (c : Nat) (h : 48 ≤ c ∧ c ≤ 57) : c ∈ figsS.cps.toList := by
  have e : figsS.cps.toList = [48, 49, 50, 51, 52, 53, 54, 55, 56, 57] := rfl
  rw [e]
  simp only [List.mem_cons, List.not_mem_nil, or_false]
  omega
theorem isNum_sOf {i : Int} (h : Sm i) : isNum (sOf i) = true := by
  have h1 : isNumL (numL i.toNat) = true := List.all_eq_true.mp all_num i.toNat (List.mem_range.mpr (by obtain ⟨a, b⟩ := h; omega))
  have h2 := sOf_tl h.1
  unfold isNumL at h1
  unfold isNum
  simp only [Bool.and_eq_true, Bool.or_eq_true, decide_eq_true_eq, List.all_eq_true] at h1 ⊢
  rw [len_tl, h2]
  refine ⟨⟨h1.1.1, fun c hc => fig_iff c (h1.1.2 c hc)⟩, ?_⟩
  rcases h1.2 with h3 | h3
  · exact .inl (ext_tl (by rw [h2, h3]; rfl))
  · exact .inr h3
theorem int_sOf {i : Int} (h : Sm i) : PySem.intText? (sOf i) = some i := by
  obtain ⟨h1, h2⟩ := h
  obtain ⟨n, rfl⟩ := Int.eq_ofNat_of_zero_le h1
  refine int_num (Nat.le_trans (numL_len (k := 4) (by decide) ?_) (by decide))
  have : (10 : Nat) ^ 4 = 10000 := by decide
  omega
theorem sOf_free {i : Int} {s : Nat} (h : Sm i) (hs : s < 48 ∨ 57 < s) : s ∉ tl (sOf i) := by
  rw [sOf_tl h.1]
  exact numL_free hs
def headL (n : Int) : List Str := [Str.ofString "PLACES", sOf n]
theorem headS_join (n : Int) : headS n = Txt.join (Str.ofString " ") (headL n) := by
  refine ext_tl ?_
  rw [join_eq, tl_join]
  unfold headS headL
  rw [tl_append]
  rfl
theorem split_head {n : Int} (h : Sm n) : Txt.split (headS n) (Str.ofString " ") = headL n := by
  rw [headS_join]
  refine split_join (s := 32) (S := []) rfl (by decide +kernel) (by simp [headL]) fun p hp => ?_
  simp only [headL, List.mem_cons, List.not_mem_nil, or_false] at hp
  rcases hp with rfl | rfl
  · decide
  · exact sOf_free h (by decide)
theorem split_row {r : R4} (h : ∀ i ∈ r.is, Sm i) : Txt.split (rowS r) (Str.ofString " ") = r.is.map sOf := by
  refine split_join (s := 32) (S := []) rfl (by decide +kernel) (by simp [R4.is]) fun p hp => ?_
  obtain ⟨i, hi, rfl⟩ := List.mem_map.mp hp
  exact sOf_free (h i hi) (by decide)
theorem split_net {n : Int} {rs : List R4} (G : Good n rs) : Txt.split (netS n rs) (Str.ofString "\n") = headS n :: rs.map rowS := by
  have n1 := G.n1
  have n2 := G.n2
  refine split_join (s := 10) (S := []) rfl (by decide +kernel) (by simp) fun p hp => ?_
  rcases List.mem_cons.mp hp with rfl | hp
  · unfold headS
    rw [tl_append]
    intro hm
    rcases List.mem_append.mp hm with h | h
    · exact absurd h (by decide)
    · exact sOf_free (s := 10) ⟨by omega, by omega⟩ (by decide) h
  · obtain ⟨r, hr, rfl⟩ := List.mem_map.mp hp
    have sm := (G.ok r hr).sm n2
    have f : ∀ {i : Int}, i ∈ r.is → 10 ∉ tl (sOf i) := fun hi => sOf_free (sm _ hi) (by decide)
    have b : 10 ∉ tl (Str.ofString " ") := by decide
    rw [tl_rowS]
    intro hm
    simp only [List.mem_append] at hm
    rcases hm with h | h | h | h | h | h | h
    · exact f (by simp [R4.is]) h
    · exact b h
    · exact f (by simp [R4.is]) h
    · exact b h
    · exact f (by simp [R4.is]) h
    · exact b h
    · exact f (by simp [R4.is]) h
theorem netS_len {n : Int} {rs : List R4} (G : Good n rs) (hl : rs.length ≤ 156) : (netS n rs).length + 2 ≤ sizeLine := by
  have key : ∀ {ys : List Str} {c : Nat}, (∀ y ∈ ys, y.length ≤ c) → (Txt.join (Str.ofString "\n") ys).length ≤ (c + 1) * ys.length := by
    intro ys c h
    rw [join_eq]
    induction ys with
    | nil => exact Nat.zero_le _
    | cons y ys ih =>
      have h1 := h y (List.mem_cons_self ..)
      have h2 := ih fun z hz => h z (List.mem_cons_of_mem _ hz)
      cases ys with
      | nil =>
        show y.length ≤ _
        simp only [List.length_cons, List.length_nil]
        omega
      | cons z zs =>
        show (y ++ Str.ofString "\n" ++ Str.join (Str.ofString "\n") (z :: zs)).length ≤ _
        rw [app_len, app_len, lf_len]
        have : (c + 1) * (y :: z :: zs).length = (c + 1) + (c + 1) * (z :: zs).length := by
          rw [List.length_cons (a := y), Nat.mul_add, Nat.mul_one, Nat.add_comm]
        omega
  have n1 := G.n1
  have n2 := G.n2
  have := key (ys := headS n :: rs.map rowS) (c := 19) fun y hy => by
    rcases List.mem_cons.mp hy with rfl | hy
    · exact Nat.le_trans (headS_len ⟨by omega, by omega⟩) (by decide)
    · obtain ⟨r, hr, rfl⟩ := List.mem_map.mp hy
      exact rowS_len (G.ok r hr) n2
  refine Nat.le_trans (m := 20 * 157 + 2) ?_ (by decide)
  unfold netS
  have e : (headS n :: rs.map rowS).length ≤ 157 := by
    simp only [List.length_cons, List.length_map]
    omega
  have := Nat.mul_le_mul_left 20 e
  omega
end HK

set_option Elab.async false
set_option linter.all false
set_option maxRecDepth 100000
set_option maxHeartbeats 4000000
namespace HK
open PySem PySem.Spec PyProof.Rows L2 GAl GxR
open Evl (pss_cut)
open TL (tl numL len_tl tl_num numL_len tl_append tl_join join_eq joinL ext_tl numL_free split_join int_num)
/-! ### rows of a desk -/
abbrev sIsName : Stmt := topS 73
abbrev N_scIsName : List Str := ["word", "letter"]
theorem scIsName : FnScope N_scIsName ["word"] (defScope sIsName) := ⟨rfl, rfl, rfl, by decide +kernel, rfl, by decide +kernel, by decide +kernel⟩
abbrev sIsRow : Stmt := topS 72
abbrev N_scIsRow : List Str := ["thing", "line", "feed", "text", "least", "most", "words", "part"]
theorem scIsRow : FnScope N_scIsRow ["thing"] (defScope sIsRow) := ⟨rfl, rfl, rfl, by decide +kernel, rfl, by decide +kernel, by decide +kernel⟩
abbrev sUnderD : Stmt := topS 71
abbrev N_scUnderD : List Str := ["things", "name"]
theorem scUnderD : FnScope N_scUnderD ["things", "name"] (defScope sUnderD) := ⟨rfl, rfl, rfl, by decide +kernel, rfl, by decide +kernel, by decide +kernel⟩
def lettersS : Str := Str.ofString "abcdefghijklmnopqrstuvwxyz"
def NameOk (z : Str) : Prop := 1 ≤ z.length ∧ z.length ≤ 8 ∧ ∀ c ∈ tl z, c ∈ lettersS.cps.toList
def oVL : Option Int → V
  | none => .non
  | some i => .int i
def LensOk (K : PySem.W.Frag) (aL : Addr) : Prop := ∀ w ∈ hWords, ∃ t : Addr, PySem.W.nsIn K aL w = some (some (.ref t)) ∧ ∀ H, SqT K H t [.int (lenMin w), oVL (lenMax w)]
def dash : Str := Str.ofString "-"
def sp : Str := Str.ofString " "
def rowT (w nm : Str) (ps : List Str) : Str := Txt.join sp (w :: nm :: ps)
/-- a row about a hearing -/
structure RowOk (w nm : Str) (ps : List Str) : Prop where
  wm : w ∈ hWords
  nm : NameOk nm
  pp : ∀ p ∈ ps, (isNum p = true ∨ (p = dash ∧ w = Str.ofString "ways")) ∧ p.length ≤ 6 ∧ 32 ∉ tl p ∧ 10 ∉ tl p
  mn : lenMin w ≤ (ps.length : Int)
  mx : ∀ m, lenMax w = some m → (ps.length : Int) ≤ m
  n8 : ps.length ≤ 8
theorem hWords_free {w : Str} (h : w ∈ hWords) : 32 ∉ tl w ∧ 10 ∉ tl w ∧ w.length ≤ 6 ∧ w ≠ Str.ofString "net" := by
  simp only [hWords, List.mem_cons, List.not_mem_nil, or_false] at h
  rcases h with rfl | rfl | rfl | rfl | rfl | rfl | rfl | rfl <;> exact ⟨by decide, by decide, by decide, by decide +kernel⟩
theorem NameOk.free {z : Str} (h : NameOk z) {s : Nat} (hs : s < 97) : s ∉ tl z := fun hm => by
  have := h.2.2 s hm
  have e : lettersS.cps.toList = [97, 98, 99, 100, 101, 102, 103, 104, 105, 106, 107, 108, 109, 110, 111, 112, 113, 114, 115, 116, 117, 118, 119, 120, 121, 122] := rfl
  rw [e] at this
  simp only [List.mem_cons, List.not_mem_nil, or_false] at this
  omega
theorem RowOk.split {w nm : Str} {ps : List Str} (h : RowOk w nm ps) : Txt.split (rowT w nm ps) sp = w :: nm :: ps := by
  refine split_join (s := 32) (S := []) rfl (by decide +kernel) (by simp) fun p hp => ?_
  rcases List.mem_cons.mp hp with rfl | hp
  · exact (hWords_free h.wm).1
  · rcases List.mem_cons.mp hp with rfl | hp
    · exact h.nm.free (by decide)
    · exact (h.pp p hp).2.2.1
theorem join_free {s : Nat} (hs : s ≠ 32) : ∀ {l : List Str}, (∀ p ∈ l, s ∉ tl p) → s ∉ tl (Txt.join sp l) := fun {l} h => by
  rw [join_eq]
  induction l with
  | nil => exact List.not_mem_nil
  | cons y ys ih =>
    cases ys with
    | nil => exact h y (List.mem_cons_self ..)
    | cons z zs =>
      show s ∉ tl (y ++ sp ++ Str.join sp (z :: zs))
      rw [tl_append, tl_append]
      intro hm
      rcases List.mem_append.mp hm with hm | hm
      · rcases List.mem_append.mp hm with hm | hm
        · exact h y (List.mem_cons_self ..) hm
        · have : tl sp = [32] := rfl
          rw [this] at hm
          exact hs (List.mem_singleton.mp hm)
      · exact ih (fun p hp => h p (List.mem_cons_of_mem _ hp)) hm
theorem RowOk.part {w nm : Str} {ps : List Str} (h : RowOk w nm ps) : Txt.partition (rowT w nm ps) (Str.ofString "\n") = (rowT w nm ps, Str.empty, Str.empty) := by
  refine TL.partition_none (s := 10) (S := []) rfl (join_free (by decide) fun p hp => ?_)
  rcases List.mem_cons.mp hp with rfl | hp
  · exact (hWords_free h.wm).2.1
  · rcases List.mem_cons.mp hp with rfl | hp
    · exact h.nm.free (by decide)
    · exact (h.pp p hp).2.2.2
theorem join_len {c : Nat} : ∀ {l : List Str}, (∀ p ∈ l, p.length ≤ c) → (Txt.join sp l).length ≤ (c + 1) * l.length := fun {l} h => by
  rw [join_eq]
  induction l with
  | nil => exact Nat.zero_le _
  | cons y ys ih =>
    have h1 := h y (List.mem_cons_self ..)
    have h2 := ih fun z hz => h z (List.mem_cons_of_mem _ hz)
    cases ys with
    | nil =>
      show y.length ≤ _
      simp only [List.length_cons, List.length_nil]
      omega
    | cons z zs =>
      show (y ++ sp ++ Str.join sp (z :: zs)).length ≤ _
      rw [app_len, app_len, show sp.length = 1 from rfl]
      have : (c + 1) * (y :: z :: zs).length = (c + 1) + (c + 1) * (z :: zs).length := by
        rw [List.length_cons (a := y), Nat.mul_add, Nat.mul_one, Nat.add_comm]
      omega
theorem RowOk.len {w nm : Str} {ps : List Str} (h : RowOk w nm ps) : (rowT w nm ps).length ≤ 90 := by
  have := join_len (c := 8) (l := w :: nm :: ps) fun p hp => by
    rcases List.mem_cons.mp hp with rfl | hp
    · have := (hWords_free h.wm).2.2.1; omega
    · rcases List.mem_cons.mp hp with rfl | hp
      · exact h.nm.2.1
      · have := (h.pp p hp).2.1; omega
  have := h.n8
  unfold rowT
  simp only [List.length_cons] at *
  omega
theorem cut_twoR {x y : V} {l : List V} : cutV (x :: y :: l) (some 2) none = l := by
  unfold cutV
  rw [HT.sIx_none, show HT.sIx (x :: y :: l).length 0 (some 2) = 2 from (HT.sIx_nat _ 0 2).trans (Nat.min_eq_left (by simp))]
  show l.take _ = l
  exact List.take_of_length_le (by simp)
section
variable {P : Program} {w : World} {K : PySem.W.Frag} {mg : Str → Option Value} {base : Heap}
def spIsName (K : PySem.W.Frag) (Pa : Addr) : Sp := fun vs H Q _ => ∃ z : Str, vs = [.str z] ∧ NameOk z ∧ TabG H Pa ∧ ∀ H', K0 H H' → Q (.bl true) H'
theorem ok_isname {f c Pa : Addr} {fd : FuncData} {t8 tS : Tok} (F : FunC K "is_name" "is_name" sIsName f fd c) (TB : TabB base mg c Pa) (m_len : mg "len" = none) (m_all : mg "all" = none)
    (c_LONGEST_NAME : mg "LONGEST_NAME" = some (.int 8 t8)) (c_SMALL_LETTERS : mg "SMALL_LETTERS" = some (.str (Str.ofString "abcdefghijklmnopqrstuvwxyz") tS)) : FnOk P w K mg base CX0 3 f fd ["word"] (spIsName K Pa) := by
  refine F.ok scIsName (fun vs H Q E h => ?_) (fun A outer s H vs Q E hr h => ?_)
  · obtain ⟨a, rfl, _⟩ := h
    rfl
  · obtain ⟨z, rfl, hz, tw, q⟩ := h
    have hu := hu_of hr
    refine ⟨_, (pss_one (ps_ret (pe_and (pe_chain op_le op_le pe_int (pe_callB call_len_str (by rfl) m_len PySem.boot_len (pa_cons (pv 0) pa_nil)) (pe_glob (v := .int 8) (by rfl) c_LONGEST_NAME ⟨_, rfl⟩)) (pe_one (pe_allG (own := [("letter", 1)]) (k := 0) (g := (gName 1)) (tt := tYes) (te := (tOp rInS (tVar 1) (tC (.str (Str.ofString "abcdefghijklmnopqrstuvwxyz"))))) (hr.mono (by decide)) (by rfl) m_all rfl scIsName.nd TB rfl (gsc_by (N := N_scIsName) (sc := defScope sIsName) (by decide +kernel)) (pi_str (pv 0)) (fun A' hr' _ _ _ _ _ _ => (pg_name (i := 1) scIsName.nd rfl (.inl rfl))) (fun A' hr' _ _ _ _ _ _ => pts_nil) (fun A' hr' _ _ _ _ _ _ => (pe_cmpR op_inS (pv 1) (pe_glob (v := .str (Str.ofString "abcdefghijklmnopqrstuvwxyz")) (by rfl) c_SMALL_LETTERS ⟨_, rfl⟩) rfl))))))), ?_⟩
    obtain ⟨h1, h2, h3⟩ := hz
    refine ⟨_, rfl, z, rfl, Nat.le_trans h2 (by decide), 1, _, rfl, rfl, _, rfl, ?_⟩
    rw [decide_eq_true (show (1 : Int) ≤ (z.length : Int) by omega)]
    refine iteT ⟨_, 8, rfl, rfl, _, rfl, ?_⟩
    rw [decide_eq_true (show (z.length : Int) ≤ 8 by omega)]
    refine iteT ⟨_, rfl, z, rfl, tw, fun H2 hT2 => ?_⟩
    have k2 : K0 H H2 := K0.tbd tw hT2
    refine ⟨fun i m H3 => i + m = z.cps.size ∧ K0 H H3, ⟨z.cps.size, by omega, k2⟩, fun i m H3 hWi => ?_⟩
    obtain ⟨em, k3⟩ := hWi
    by_cases hi : i < z.cps.size
    · refine .inr ⟨hi, fun H' => K0 H H', fun H' hN => ⟨m - 1, by omega, by omega, hN⟩, fun x H' hy => ?_⟩
      obtain ⟨rfl, c, hc, rfl⟩ := hy
      have hct : (tl z)[i]? = some c := by
        show z.cps.toList[i]? = some c
        rw [Array.getElem?_toList]; exact hc
      refine ⟨rfl, tyes ⟨_, rfl, c, lettersS, rfl, rfl, ?_⟩⟩
      have hm := h3 c (List.mem_of_getElem? hct)
      refine ⟨true, congrArg V.bl (decide_eq_true hm), iteT k3⟩
    · exact .inl ⟨Nat.le_of_not_lt hi, q _ k3⟩
def spUnderD (K : PySem.W.Frag) : Sp := fun vs H Q _ => ∃ (d : Addr) (nm : Str) (v : V), vs = [.ref d, .str nm] ∧ H d = some (.dK [(.inr nm, v)]) ∧ Q v H
theorem ok_under {f : Addr} {fd : FuncData} (F : Fun K "under" "under" sUnderD f fd) : FnOk P w K mg base CX0 1 f fd ["things", "name"] (spUnderD K) := by
  refine F.ok scUnderD (fun vs H Q E h => ?_) (fun cdv A outer s H vs Q E hr h => ?_)
  · obtain ⟨d, nm, v, rfl, _⟩ := h
    rfl
  · obtain ⟨d, nm, v, rfl, hd, q⟩ := h
    have hu := hu_of hr
    refine ⟨_, (pss_cons (ps_if (pt_cmp (pc_dnotin hu (pv 1) (pv 0))) pss_never pss_nil)
      (pss_one (ps_ret (pe_dget hu (pv 0) (pv 1) (fun _ _ => rfl))))), ?_⟩
    have e : valV [((.inr nm : Key), v)] (.inr nm : Key) = some v := by unfold valV; simp
    have dg : DGet H d (.str nm) (some v) := by
      rw [← e]
      exact DGet.k (k := .inr nm) hd
    refine ⟨_, rfl, _, rfl, d, _, rfl, dg, ?_⟩
    exact ⟨_, rfl, iteF ⟨_, rfl, _, rfl, d, v, rfl, dg, q⟩⟩
/-- a row about a hearing is a row -/
def spIsRow (K : PySem.W.Frag) (Pa Pi Pw : Addr) : Sp := fun vs H Q _ => ∃ (w nm : Str) (ps : List Str), vs = [.str (rowT w nm ps)] ∧ RowOk w nm ps ∧ TabG H Pa ∧ TabG H Pi ∧ TabG H Pw ∧ ∀ H', K0 H H' → Q (.bl true) H'
theorem ok_isrow {f c Pa Pi Pw aLN : Addr} {fd : FuncData} {es : Array DictEntry} {n : Nat} {f_isname f_isnum : Addr} {fd_isname fd_isnum : FuncData} (F : FunC K "is_row" "is_row" sIsRow f fd c) (TB : TabB base mg c Pw) (KDL : KDict K w aLN es n) (hLN : LensOk K aLN) (c_LENGTHS : mg "LENGTHS" = some (.ref aLN))
    (k_isname : PySem.W.keepIn K (.ref f_isname) = true) (b_isname : Binds K fd_isname ["word"] []) (g_isname : mg "is_name" = some (.ref f_isname)) (G_isname : FnOk P w K mg base CX0 3 f_isname fd_isname ["word"] (spIsName K Pa))
    (k_isnum : PySem.W.keepIn K (.ref f_isnum) = true) (b_isnum : Binds K fd_isnum ["word"] []) (g_isnum : mg "is_number" = some (.ref f_isnum)) (G_isnum : FnOk P w K mg base CX0 3 f_isnum fd_isnum ["word"] (spIsNum K Pi)) (m_len : mg "len" = none) (m_all : mg "all" = none) (m_isinstance : mg "isinstance" = none) (m_str : mg "str" = none) : FnOk P w K mg base CX0 5 f fd ["thing"] (spIsRow K Pa Pi Pw) := by
  refine F.ok scIsRow (fun vs H Q E h => ?_) (fun A outer s H vs Q E hr h => ?_)
  · obtain ⟨w, nm, ps, rfl, _⟩ := h
    rfl
  · obtain ⟨wd, nm, ps, rfl, hR, ta, ti, tw, q⟩ := h
    have hu := hu_of hr
    refine ⟨_, (pss_cons (ps_if (pt_not (pt_val (pe_callB call_isi (by rfl) m_isinstance boot_isinstance (pa_cons (pv 0) (pa_cons (pe_bltn (v := .ty "str") (by rfl) m_str (by decide +kernel) rfl) pa_nil))))) (pss_one (ps_ret pe_bl)) pss_nil)
      (pss_cons (ps_asg (pe_partition (pv 0) pe_str) (pg_tup rfl (pgs_cons (pg_name (i := 1) scIsRow.nd rfl (.inl rfl)) (pgs_cons (pg_name (i := 2) scIsRow.nd rfl (.inl rfl)) (pgs_cons (pg_name (i := 3) scIsRow.nd rfl (.inl rfl)) pgs_nil)))))
      (pss_cons (ps_set (i := 6) scIsRow.nd rfl (.inr rfl) (pe_split (pv 1) pe_str))
      (pss_cons (ps_if (PW.pt (pw_or (pt_cmpR op_lt (pe_callB call_len_seq (by rfl) m_len PySem.boot_len (pa_cons (pv 6) pa_nil)) pe_int (nomark _)) (pw_or (pt_cmpR (op_notIn_kd KDL) (pe_ix ix_list (pv 6) pe_int (fun _ _ => rfl)) (pe_glob (v := .ref aLN) (by rfl) c_LENGTHS rfl) rfl) (pw_or1 (pt_not (pt_val (pe_call G_isname (hr.mono (by decide)) (by rfl) g_isname k_isname b_isname .nil pass0 (pa_cons (pe_ix ix_list (pv 6) pe_int (fun _ _ => rfl)) pa_nil)))))))) (pss_one (ps_ret pe_bl)) pss_nil)
      (pss_cons (ps_if (pt_cmpR op_ne (pe_cmpR op_ne (pv 2) pe_str (nomark _)) (pe_cmpR op_eq (pe_ix ix_list (pv 6) pe_int (fun _ _ => rfl)) pe_str (nomark _)) (nomark _)) (pss_one (ps_ret pe_bl)) pss_nil)
      (pss_cons (ps_asg (pe_ix ix_kdict (pe_glob (v := .ref aLN) (by rfl) c_LENGTHS rfl) (pe_ix ix_list (pv 6) pe_int (fun _ _ => rfl)) (fun _ _ => rfl)) (pg_tup rfl (pgs_cons (pg_name (i := 4) scIsRow.nd rfl (.inl rfl)) (pgs_cons (pg_name (i := 5) scIsRow.nd rfl (.inl rfl)) pgs_nil))))
      (pss_cons (ps_if (PW.pt (pw_or (pt_cmpR op_lt (pe_op op_sub (pe_callB call_len_seq (by rfl) m_len PySem.boot_len (pa_cons (pv 6) pa_nil)) pe_int) (pv 4) (nomark _)) (pw_or1 (PW.pt (pw_and (pt_cmp (pc_notN (pv 5))) (pw_and1 (pt_cmpR op_gt (pe_op op_sub (pe_callB call_len_seq (by rfl) m_len PySem.boot_len (pa_cons (pv 6) pa_nil)) pe_int) (pv 5) (nomark _)))))))) (pss_one (ps_ret pe_bl)) pss_nil)
      (pss_one (ps_ret (pe_allG (own := [("part", 7)]) (k := 3) (g := (gName 7)) (tt := tYes) (te := (tOrV (tCall (spIsNum K Pi) [] E0 (tCons (tVar 7) tNil)) (tAndV (tOp rEq (tVar 7) (tC (.str (Str.ofString "-")))) (tOp rEq (tOp (rIxL K) (tVar 6) (tC (.int 0))) (tC (.str (Str.ofString "ways"))))))) (hr.mono (by decide)) (by rfl) m_all rfl scIsRow.nd TB rfl (gsc_by (N := N_scIsRow) (sc := defScope sIsRow) (by decide +kernel)) (pi_list (pe_slice sl_list (pv 6) (po_some pe_int) po_none)) (fun A' hr' _ _ _ _ _ _ => (pg_name (i := 7) scIsRow.nd rfl (.inl rfl))) (fun A' hr' _ _ _ _ _ _ => pts_nil) (fun A' hr' _ _ _ _ _ _ => (pe_or (pe_call G_isnum (hr'.mono (by decide)) (by rfl) g_isnum k_isnum b_isnum .nil pass0 (pa_cons (pv 7) pa_nil)) (pe_one (pe_and (pe_cmpR op_eq (pv 7) pe_str (nomark _)) (pe_one (pe_cmpR op_eq (pe_ix ix_list (pv 6) pe_int (fun _ _ => rfl)) pe_str (nomark _))))))))))))))))), ?_⟩
    have hlen := hR.len
    have hsplit := hR.split
    have hpart := hR.part
    obtain ⟨t, ht1, ht2⟩ := hLN wd hR.wm
    refine ⟨_, rfl, .str (rowT wd nm ps), .ty "str", .type "str", _, true, rfl, .ty "str", .base (.str _), kit_ty rfl, _, rfl, iteF ?_⟩
    refine ⟨_, rfl, ⟨_, rfl⟩, _, _, rfl, rfl, by decide, Nat.le_trans hlen (by decide), fun tp ntp => ?_⟩
    rw [hpart]
    have k1 := K0.new ntp (o := .tup [.str (rowT wd nm ps), .str Str.empty, .str Str.empty])
    refine ⟨tp, _, rfl, .inl (.inl upd_same), rfl, _, _, rfl, _, _, rfl, _, _, rfl, rfl, ?_⟩
    refine ⟨_, rfl, ⟨_, rfl⟩, _, _, rfl, rfl, by decide, Nat.le_trans (Nat.add_le_add_right hlen 2) (by decide), ?_⟩
    rw [show Txt.split (rowT wd nm ps) (Str.ofString " ") = wd :: nm :: ps from hsplit]
    dsimp only
    intro wl nwl
    have k2 := K0.new nwl (o := .lst ((wd :: nm :: ps).map V.str))
    have k12 := k1.trans k2
    have hw : (upd (upd H tp (.tup [.str (rowT wd nm ps), .str Str.empty, .str Str.empty])) wl (.lst ((wd :: nm :: ps).map V.str))) wl = some (.lst ((wd :: nm :: ps).map V.str)) := upd_same
    generalize upd (upd H tp (.tup [.str (rowT wd nm ps), .str Str.empty, .str Str.empty])) wl (.lst ((wd :: nm :: ps).map V.str)) = G at k12 hw
    clear k2 nwl
    have wlen : ((wd :: nm :: ps).map V.str).length = ps.length + 2 := by rw [List.length_map]; rfl
    have w0 : ∀ {G : Hp}, atI ((wd :: nm :: ps).map V.str) 0 = some (.str wd) := fun {G} => atI_nat (j := 0) rfl
    refine ⟨_, rfl, wl, _, rfl, .inl (.inl (.inl hw)), _, 2, rfl, rfl, _, rfl, ?_⟩
    rw [wlen, decide_eq_false (show ¬ (((ps.length + 2 : Nat) : Int) < 2) by omega)]
    refine iteF ⟨_, rfl, wl, _, 0, .str wd, rfl, rfl, .inl (.inl hw), atI_nat (j := 0) rfl, wd, _, rfl, rfl, ht1, _, rfl, iteF ?_⟩
    refine ⟨_, rfl, wl, _, 1, .str nm, rfl, rfl, .inl (.inl hw), atI_nat (j := 1) rfl, nm, rfl, hR.nm, k12.tab _ ta, fun G2 k3 => ⟨true, rfl, iteF ?_⟩⟩
    have hw2 := k3.oth _ _ hw (fun _ z => by cases z)
    refine ⟨_, rfl, rfl, _, rfl, wl, _, 0, .str wd, rfl, rfl, .inl (.inl hw2), atI_nat (j := 0) rfl, rfl, rfl, _, rfl, ?_⟩
    have hnn := (hWords_free hR.wm).2.2.2
    rw [show decide (V.str wd = V.str (Str.ofString "net")) = false from decide_eq_false fun z => hnn (V.str.inj z)]
    refine iteF ?_
    refine ⟨_, rfl, wl, _, 0, .str wd, rfl, rfl, .inl (.inl hw2), atI_nat (j := 0) rfl, aLN, wd, .ref t, rfl, rfl, ⟨es, n, _, KDL.at_, KDL.lit, ht1, rfl⟩, t, _, rfl, ht2 _, rfl, _, _, rfl, _, _, rfl, rfl, ?_⟩
    refine ⟨_, rfl, wl, _, rfl, .inl (.inl (.inl hw2)), _, 2, rfl, rfl, _, rfl, _, _, rfl, rfl, _, rfl, ?_⟩
    have hmn := hR.mn
    rw [wlen, decide_eq_false (show ¬ (((ps.length + 2 : Nat) : Int) - 2 < lenMin wd) by omega)]
    refine iteF ?_
    rcases hx : lenMax wd with _ | mx
    · refine ⟨_, rfl, _, rfl, iteF (iteF ?_)⟩
      refine ⟨_, rfl, 2, rfl, wl, _, rfl, .inl (.inl hw2), fun L nL => ?_⟩
      rw [show cutV ((wd :: nm :: ps).map V.str) (some 2) none = ps.map V.str from cut_twoR]
      refine ⟨L, rfl, ⟨_, .inl (.inl upd_same)⟩, ((K0.new nL).tab _ (k3.tab _ (k12.tab _ tw))), fun H2 hT2 => ?_⟩
      have k4 := K0.new nL (o := .lst (ps.map V.str))
      have k5 : K0 G2 H2 := k4.trans (K0.tbd (k4.tab _ (k3.tab _ (k12.tab _ tw))) hT2)
      have hL2 := (K0.tbd (k4.tab _ (k3.tab _ (k12.tab _ tw))) hT2).oth _ _ (upd_same (H := G2) (a := L) (o := .lst (ps.map V.str))) (fun _ z => by cases z)
      refine ⟨fun i m H3 => i + m = ps.length ∧ K0 H2 H3, ⟨ps.length, by omega, K0.refl _⟩, fun i m H3 hW => ?_⟩
      obtain ⟨em, k6⟩ := hW
      have hA : SqL K H3 L (ps.map V.str) := .inl (.inl (k6.oth _ _ hL2 (fun _ z => by cases z)))
      have hw3 : H3 wl = some (.lst ((wd :: nm :: ps).map V.str)) := (k5.trans k6).oth _ _ hw2 (fun _ z => by cases z)
      by_cases hi : i < ps.length
      · have h1 : i < (ps.map V.str).length := by rw [List.length_map]; omega
        have g1 : (ps.map V.str)[i]? = some (ps.map V.str)[i] := List.getElem?_eq_getElem h1
        refine .inr ⟨⟨_, _, hA, g1⟩, fun H' => K0 H2 H', fun H' hN => ⟨m - 1, by omega, by omega, hN⟩, fun x H' hy => ?_⟩
        obtain ⟨rfl, fx⟩ := hy
        have ex : x = .str ps[i] := by
          have := fx _ hA
          rw [List.getElem?_map, List.getElem?_eq_getElem hi] at this
          exact (Option.some.inj this).symm
        subst ex
        obtain ⟨p1, p2, _, _⟩ := hR.pp _ (List.getElem_mem hi)
        refine ⟨rfl, tyes ⟨_, rfl, ps[i], rfl, Nat.le_trans p2 (by decide), (k6.tab _ (k5.tab _ (k3.tab _ (k12.tab _ ti)))), fun H4 k7 => ?_⟩⟩
        have hw4 := k7.oth _ _ hw3 (fun _ z => by cases z)
        refine ⟨_, rfl, ?_⟩
        cases hn : isNum ps[i] with
        | true => exact iteT ⟨true, rfl, iteT (k6.trans k7)⟩
        | false =>
          have hd : ps[i] = dash ∧ wd = Str.ofString "ways" := p1.resolve_left fun z => by rw [hn] at z; cases z
          refine iteF ⟨_, rfl, rfl, _, rfl, ?_⟩
          rw [hd.1, decide_eq_true (show V.str dash = V.str (Str.ofString "-") from rfl)]
          refine iteT ⟨_, rfl, wl, _, 0, .str wd, rfl, rfl, .inl (.inl hw4), atI_nat (j := 0) rfl, rfl, ?_⟩
          rw [hd.2, decide_eq_true rfl]
          exact ⟨true, rfl, iteT (k6.trans k7)⟩
      · exact .inl ⟨⟨_, hA, by rw [List.length_map]; omega⟩, q _ (((k12.trans k3).trans k5).trans k6)⟩
    · refine ⟨_, rfl, _, rfl, iteT ⟨_, rfl, wl, _, rfl, .inl (.inl (.inl hw2)), _, 2, rfl, rfl, _, rfl, _, _, rfl, rfl, _, rfl, ?_⟩⟩
      have hmx := hR.mx mx hx
      rw [wlen, decide_eq_false (show ¬ (mx < ((ps.length + 2 : Nat) : Int) - 2) by omega)]
      refine iteF ?_
      refine ⟨_, rfl, 2, rfl, wl, _, rfl, .inl (.inl hw2), fun L nL => ?_⟩
      rw [show cutV ((wd :: nm :: ps).map V.str) (some 2) none = ps.map V.str from cut_twoR]
      refine ⟨L, rfl, ⟨_, .inl (.inl upd_same)⟩, ((K0.new nL).tab _ (k3.tab _ (k12.tab _ tw))), fun H2 hT2 => ?_⟩
      have k4 := K0.new nL (o := .lst (ps.map V.str))
      have k5 : K0 G2 H2 := k4.trans (K0.tbd (k4.tab _ (k3.tab _ (k12.tab _ tw))) hT2)
      have hL2 := (K0.tbd (k4.tab _ (k3.tab _ (k12.tab _ tw))) hT2).oth _ _ (upd_same (H := G2) (a := L) (o := .lst (ps.map V.str))) (fun _ z => by cases z)
      refine ⟨fun i m H3 => i + m = ps.length ∧ K0 H2 H3, ⟨ps.length, by omega, K0.refl _⟩, fun i m H3 hW => ?_⟩
      obtain ⟨em, k6⟩ := hW
      have hA : SqL K H3 L (ps.map V.str) := .inl (.inl (k6.oth _ _ hL2 (fun _ z => by cases z)))
      have hw3 : H3 wl = some (.lst ((wd :: nm :: ps).map V.str)) := (k5.trans k6).oth _ _ hw2 (fun _ z => by cases z)
      by_cases hi : i < ps.length
      · have h1 : i < (ps.map V.str).length := by rw [List.length_map]; omega
        have g1 : (ps.map V.str)[i]? = some (ps.map V.str)[i] := List.getElem?_eq_getElem h1
        refine .inr ⟨⟨_, _, hA, g1⟩, fun H' => K0 H2 H', fun H' hN => ⟨m - 1, by omega, by omega, hN⟩, fun x H' hy => ?_⟩
        obtain ⟨rfl, fx⟩ := hy
        have ex : x = .str ps[i] := by
          have := fx _ hA
          rw [List.getElem?_map, List.getElem?_eq_getElem hi] at this
          exact (Option.some.inj this).symm
        subst ex
        obtain ⟨p1, p2, _, _⟩ := hR.pp _ (List.getElem_mem hi)
        refine ⟨rfl, tyes ⟨_, rfl, ps[i], rfl, Nat.le_trans p2 (by decide), (k6.tab _ (k5.tab _ (k3.tab _ (k12.tab _ ti)))), fun H4 k7 => ?_⟩⟩
        have hw4 := k7.oth _ _ hw3 (fun _ z => by cases z)
        refine ⟨_, rfl, ?_⟩
        cases hn : isNum ps[i] with
        | true => exact iteT ⟨true, rfl, iteT (k6.trans k7)⟩
        | false =>
          have hd : ps[i] = dash ∧ wd = Str.ofString "ways" := p1.resolve_left fun z => by rw [hn] at z; cases z
          refine iteF ⟨_, rfl, rfl, _, rfl, ?_⟩
          rw [hd.1, decide_eq_true (show V.str dash = V.str (Str.ofString "-") from rfl)]
          refine iteT ⟨_, rfl, wl, _, 0, .str wd, rfl, rfl, .inl (.inl hw4), atI_nat (j := 0) rfl, rfl, ?_⟩
          rw [hd.2, decide_eq_true rfl]
          exact ⟨true, rfl, iteT (k6.trans k7)⟩
      · exact .inl ⟨⟨_, hA, by rw [List.length_map]; omega⟩, q _ (((k12.trans k3).trans k5).trans k6)⟩
end
end HK

set_option Elab.async false
set_option linter.all false
set_option maxRecDepth 100000
set_option maxHeartbeats 4000000
namespace HK
open PySem PySem.Spec PyProof.Rows L2 GAl GxR
open Evl (pss_cut)
abbrev sHNeedDeed : Stmt := methS 56 2
abbrev N_scHNeedDeed : List Str := ["self", "deed", "word", "place"]
theorem scHNeedDeed : FnScope N_scHNeedDeed ["self", "deed"] (defScope sHNeedDeed) := ⟨rfl, rfl, rfl, by decide +kernel, rfl, by decide +kernel, by decide +kernel⟩
abbrev sHDo : Stmt := methS 56 1
abbrev N_scHDo : List Str := ["self", "deed", "word", "place"]
theorem scHDo : FnScope N_scHDo ["self", "deed"] (defScope sHDo) := ⟨rfl, rfl, rfl, by decide +kernel, rfl, by decide +kernel, by decide +kernel⟩
inductive Deed where
  | emit
  | pl (d : DW) (i : Nat)
def Deed.vs : Deed → List V
  | .emit => [.str (Str.ofString "emit")]
  | .pl d i => [.str d.s, .int i]
def Deed.d : Deed → PyData
  | .emit => .tuple [.str (Str.ofString "emit")]
  | .pl d i => .tuple [.str d.s, .int i]
theorem Deed.dp {K : PySem.W.Frag} {H : Hp} {a : Addr} {e : Deed} (h : SqT K H a e.vs) : Dp K H (.ref a) e.d := by
  cases e with
  | emit => exact .tup h (.cons (.str _) .nil)
  | pl d i => exact .tup h (.cons (.str _) (.cons (.int _) .nil))
theorem Deed.is (e : Deed) : isDeedD e.d = true := by
  cases e with
  | emit => decide +kernel
  | pl d i =>
    show (if d.s = Str.ofString "emit" then decide ((1 : Nat) = 0) else decide (d.s ∈ dWords) && decide ((1 : Nat) = 1)) = true
    cases d <;> decide +kernel
/-- a deed that can be done, and what fits -/
def CanDo (us : List (Option Int)) (r : Int) (S : HS) : Deed → Prop
  | .emit => ∃ i : Nat, r = (i : Int) ∧ i < us.length ∧ NumOk us.length S i
  | .pl .come i => i < us.length ∧ S.hears i = false ∧ (S.letters i).length < 1000000 ∧ (S.stays i).length < 1000000
  | .pl .go i => i < us.length ∧ S.hears i = true ∧ (S.letters i).length < 1000000
  | .pl .up i => i < us.length ∧ (i : Int) ≠ r ∧ ∃ (j : Nat) (b : Bool) (c : Int) (rest : List (Bool × Int)), j < us.length ∧ us[i]? = some (some (j : Int)) ∧ S.letters i = (b, c) :: rest ∧ (S.letters j).length < 1000000 ∧ (S.served j).length < 1000000 ∧ (b = true ↔ (i : Int) ∉ (S.served j).map (·.1))
  | .pl .down i => i < us.length ∧ (i : Int) ≠ r ∧ ∃ (n c : Int) (rest : List (Int × Int)), S.copies i = (n, c) :: rest ∧ NumOk us.length S i
def doS (us : List (Option Int)) (r : Int) (cnt : Bool) (S : HS) : Deed → HS
  | .emit => emitS S r.toNat
  | .pl .come i => comeS S r i
  | .pl .go i => goS S r i
  | .pl .up i => match S.letters i, us[i]? with
    | (b, c) :: rest, some (some j) => tletS S r j.toNat i b c rest
    | _, _ => S
  | .pl .down i => match S.copies i with
    | (n, c) :: rest => gotS S cnt i n c rest
    | _ => S
def doV (S : HS) : Deed → V
  | .emit => .int S.emitted
  | .pl _ _ => .non
theorem CanDo.may {us : List (Option Int)} {r : Int} {S : HS} {d : DW} {i : Nat} (h : CanDo us r S (.pl d i)) : i < us.length ∧ mayS S d i = true ∧ ((d.s = DW.up.s ∨ d.s = DW.down.s) → (i : Int) ≠ r) := by
  cases d with
  | come =>
    refine ⟨h.1, ?_, fun z => absurd z (by decide +kernel)⟩
    show (!S.hears i) = true
    rw [h.2.1]; rfl
  | go => exact ⟨h.1, h.2.1, fun z => absurd z (by decide +kernel)⟩
  | up =>
    obtain ⟨a, b, j, bb, c, rest, _, _, e, _⟩ := h
    refine ⟨a, ?_, fun _ => b⟩
    show decide (0 < (S.letters i).length) = true
    rw [e]; rfl
  | down =>
    obtain ⟨a, b, n, c, rest, e, _⟩ := h
    refine ⟨a, ?_, fun _ => b⟩
    show decide (0 < (S.copies i).length) = true
    rw [e]; rfl
section
variable {P : Program} {w : World} {K : PySem.W.Frag} {mg : Str → Option Value} {base : Heap}
def spHNeedDeed (K : PySem.W.Frag) (C : Addr) : Sp := fun vs H Q _ => ∃ (x p : Addr) (us : List (Option Int)) (r : Int) (cnt : Bool) (S : HS) (F : Addr → Prop) (a : Addr) (e : Deed), vs = [.ref x, .ref a] ∧ Hear K H C x p us r cnt S F ∧ SqT K H a e.vs ∧ CanDo us r S e ∧ ∀ H', K0 H H' → Q .non H'
theorem ok_hneeddeed {C f : Addr} {fd : FuncData} {f_isdeed f_h_needplace f_h_may : Addr} {fd_isdeed fd_h_needplace fd_h_may : FuncData} (F : Fun K "need_deed" "Hearing.need_deed" sHNeedDeed f fd) (hC : HearN K C) (k_isdeed : PySem.W.keepIn K (.ref f_isdeed) = true) (b_isdeed : Binds K fd_isdeed ["thing"] []) (g_isdeed : mg "is_deed" = some (.ref f_isdeed)) (G_isdeed : FnOk P w K mg base CX0 1 f_isdeed fd_isdeed ["thing"] (spIsDeed K))
    (M_h_needplace : Meth K C "need_place" f_h_needplace) (b_h_needplace : Binds K fd_h_needplace ["self", "place"] []) (G_h_needplace : FnOk P w K mg base CX0 3 f_h_needplace fd_h_needplace ["self", "place"] (spHNeedPlace K C))
    (M_h_may : Meth K C "may_be_done" f_h_may) (b_h_may : Binds K fd_h_may ["self", "word", "place"] []) (G_h_may : FnOk P w K mg base CX0 1 f_h_may fd_h_may ["self", "word", "place"] (spHMay K C)) : FnOk P w K mg base CX0 4 f fd ["self", "deed"] (spHNeedDeed K C) := by
  refine F.ok scHNeedDeed (fun vs H Q E h => ?_) (fun cdv A outer s H vs Q E hr h => ?_)
  · obtain ⟨x, p, us, r, cnt, S, F, a, e, rfl, _⟩ := h
    rfl
  · obtain ⟨x, p, us, r, cnt, S, F, a, e, rfl, hh, ha, hcan, q⟩ := h
    have hu := hu_of hr
    refine ⟨_, (pss_cons (ps_if (pt_not (pt_val (pe_call G_isdeed (hr.mono (by decide)) (by rfl) g_isdeed k_isdeed b_isdeed .nil pass0 (pa_cons (pv 1) pa_nil)))) pss_never pss_nil)
      (pss_cons (ps_if (pt_cmpR op_eq (pe_ix ix_tup (pv 1) pe_int (fun _ _ => rfl)) pe_str (nomark _)) (pss_one ps_retN) pss_nil)
      (pss_cons (ps_asg (pv 1) (pg_tup rfl (pgs_cons (pg_name (i := 2) scHNeedDeed.nd rfl (.inl rfl)) (pgs_cons (pg_name (i := 3) scHNeedDeed.nd rfl (.inl rfl)) pgs_nil))))
      (pss_cons (ps_expr (pe_meth (pv 0) hC.c M_h_needplace G_h_needplace (hr.mono (by decide)) b_h_needplace .nil pass0 (pa_cons (pv 3) pa_nil)))
      (pss_cons (ps_if (PW.pt (pw_and (pt_cmpR op_in_seq (pv 2) (pe_tup (pa_cons pe_str (pa_cons pe_str pa_nil))) rfl) (pw_and1 (pt_cmpR op_eq (pv 3) (pe_fld (pv 0) rfl) (nomark _))))) pss_never pss_nil)
      (pss_one (ps_if (pt_not (pt_val (pe_meth (pv 0) hC.c M_h_may G_h_may (hr.mono (by decide)) b_h_may .nil pass0 (pa_cons (pv 2) (pa_cons (pv 3) pa_nil))))) pss_never pss_nil))))))), ?_⟩
    have hh' := hh
    obtain ⟨dx, fs, ad, la, ca, h, hF⟩ := hh'.parts
    refine ⟨_, rfl, _, _, rfl, Deed.dp ha, true, congrArg V.bl e.is, iteNT ?_⟩
    cases e with
    | emit =>
      refine ⟨_, rfl, a, _, 0, _, rfl, rfl, ha, atI_nat (j := 0) rfl, rfl, true, rfl, iteT ?_⟩
      exact q H (K0.refl H)
    | pl d i =>
      obtain ⟨hi, hm, hud⟩ := hcan.may
      refine ⟨_, rfl, a, _, 0, _, rfl, rfl, ha, atI_nat (j := 0) rfl, rfl, false, by cases d <;> decide +kernel, iteF ?_⟩
      refine ⟨_, rfl, a, _, rfl, ha, rfl, _, _, rfl, _, _, rfl, rfl, ?_⟩
      refine ⟨_, rfl, x, dx, fs, rfl, h.hx, h.hf.no _ (by decide +kernel), _, rfl, x, p, us, r, cnt, S, F, i, rfl, hh, hi, ?_⟩
      refine ⟨_, rfl, by show 2 ≤ sizeLine; decide, fun tp ntp => ⟨tp, _, rfl, .inr (.inl (.inl upd_same)), rfl, rfl, ?_⟩⟩
      have k := K0.new ntp (o := .tup [.str (Str.ofString "up"), .str (Str.ofString "down")])
      have hh1 := hh.k0 k
      have h1 := h.k0 k
      generalize upd H tp (.tup [.str (Str.ofString "up"), .str (Str.ofString "down")]) = G at k hh1 h1 ⊢
      have fin : tIfS (tNot (tB (tMeth C (Str.ofString "may_be_done") (spHMay K C) [] E0 (tVar 0) (tCons (tVar 2) (tCons (tVar 3) tNil))))) tNever tNext { nx := fun x H' => Q V.non H', rt := Q } [some (.ref x), some (.ref a), some (.str d.s), some (.int i)] G := by
        refine ⟨_, rfl, x, dx, fs, rfl, h1.hx, h1.hf.no _ (by decide +kernel), _, rfl, _, rfl, x, p, us, r, cnt, S, F, i, d, rfl, hh1, hi, true, congrArg V.bl hm, iteNT (q G k)⟩
      cases d with
      | come => exact ⟨false, congrArg V.bl (show inV (V.str DW.come.s) [.str (Str.ofString "up"), .str (Str.ofString "down")] = false from by decide +kernel), iteF (iteF fin)⟩
      | go => exact ⟨false, congrArg V.bl (show inV (V.str DW.go.s) [.str (Str.ofString "up"), .str (Str.ofString "down")] = false from by decide +kernel), iteF (iteF fin)⟩
      | up => exact ⟨true, congrArg V.bl (show inV (V.str DW.up.s) [.str (Str.ofString "up"), .str (Str.ofString "down")] = true from by decide +kernel), iteT ⟨_, rfl, _, rfl, x, C, dx, fs, .int r, rfl, h1.hx, hC.c, hC.n _ (by simp), h1.hf.root, rfl, false, congrArg V.bl (decide_eq_false fun z => hud (.inl rfl) (V.int.inj z)), iteF fin⟩⟩
      | down => exact ⟨true, congrArg V.bl (show inV (V.str DW.down.s) [.str (Str.ofString "up"), .str (Str.ofString "down")] = true from by decide +kernel), iteT ⟨_, rfl, _, rfl, x, C, dx, fs, .int r, rfl, h1.hx, hC.c, hC.n _ (by simp), h1.hf.root, rfl, false, congrArg V.bl (decide_eq_false fun z => hud (.inr rfl) (V.int.inj z)), iteF fin⟩⟩
def spHDo (K : PySem.W.Frag) (C : Addr) : Sp := fun vs H Q _ => ∃ (x p : Addr) (us : List (Option Int)) (r : Int) (cnt : Bool) (S : HS) (F : Addr → Prop) (a : Addr) (e : Deed), vs = [.ref x, .ref a] ∧ Hear K H C x p us r cnt S F ∧ SqT K H a e.vs ∧ CanDo us r S e ∧
  ∀ (F' : Addr → Prop) (H' : Hp), KF F H H' → (∀ c, F' c → F c ∨ H c = none) → Hear K H' C x p us r cnt (doS us r cnt S e) F' → Q (doV S e) H'
theorem ok_hdo {C f : Addr} {fd : FuncData} {f_h_needdeed f_h_emit f_h_come f_h_go f_h_tletter f_h_tcopy : Addr} {fd_h_needdeed fd_h_emit fd_h_come fd_h_go fd_h_tletter fd_h_tcopy : FuncData} (F : Fun K "do" "Hearing.do" sHDo f fd) (hC : HearN K C) (M_h_needdeed : Meth K C "need_deed" f_h_needdeed) (b_h_needdeed : Binds K fd_h_needdeed ["self", "deed"] []) (G_h_needdeed : FnOk P w K mg base CX0 4 f_h_needdeed fd_h_needdeed ["self", "deed"] (spHNeedDeed K C))
    (M_h_emit : Meth K C "emit" f_h_emit) (b_h_emit : Binds K fd_h_emit ["self"] []) (G_h_emit : FnOk P w K mg base CX0 2 f_h_emit fd_h_emit ["self"] (spHEmit K C))
    (M_h_come : Meth K C "come" f_h_come) (b_h_come : Binds K fd_h_come ["self", "place"] []) (G_h_come : FnOk P w K mg base CX0 6 f_h_come fd_h_come ["self", "place"] (spHCome K C))
    (M_h_go : Meth K C "go" f_h_go) (b_h_go : Binds K fd_h_go ["self", "place"] []) (G_h_go : FnOk P w K mg base CX0 6 f_h_go fd_h_go ["self", "place"] (spHGo K C))
    (M_h_tletter : Meth K C "take_letter" f_h_tletter) (b_h_tletter : Binds K fd_h_tletter ["self", "place"] []) (G_h_tletter : FnOk P w K mg base CX0 6 f_h_tletter fd_h_tletter ["self", "place"] (spHTLetter K C))
    (M_h_tcopy : Meth K C "take_copy" f_h_tcopy) (b_h_tcopy : Binds K fd_h_tcopy ["self", "place"] []) (G_h_tcopy : FnOk P w K mg base CX0 5 f_h_tcopy fd_h_tcopy ["self", "place"] (spHTCopy K C)) : FnOk P w K mg base CX0 7 f fd ["self", "deed"] (spHDo K C) := by
  refine F.ok scHDo (fun vs H Q E h => ?_) (fun cdv A outer s H vs Q E hr h => ?_)
  · obtain ⟨x, p, us, r, cnt, S, F, a, e, rfl, _⟩ := h
    rfl
  · obtain ⟨x, p, us, r, cnt, S, F, a, e, rfl, hh, ha, hcan, q0⟩ := h
    have hu := hu_of hr
    refine ⟨_, (pss_cons (ps_expr (pe_meth (pv 0) hC.c M_h_needdeed G_h_needdeed (hr.mono (by decide)) b_h_needdeed .nil pass0 (pa_cons (pv 1) pa_nil)))
      (pss_cons (ps_if (pt_cmpR op_eq (pe_ix ix_tup (pv 1) pe_int (fun _ _ => rfl)) pe_str (nomark _)) (pss_one (ps_ret (pe_meth0 (pv 0) hC.c M_h_emit G_h_emit (hr.mono (by decide)) b_h_emit .nil pass0))) pss_nil)
      (pss_cons (ps_asg (pv 1) (pg_tup rfl (pgs_cons (pg_name (i := 2) scHDo.nd rfl (.inl rfl)) (pgs_cons (pg_name (i := 3) scHDo.nd rfl (.inl rfl)) pgs_nil))))
      (pss_cons (ps_if (pt_cmpR op_eq (pv 2) pe_str (nomark _)) (pss_one (ps_expr (pe_meth (pv 0) hC.c M_h_come G_h_come (hr.mono (by decide)) b_h_come .nil pass0 (pa_cons (pv 3) pa_nil)))) (pss_one (ps_if (pt_cmpR op_eq (pv 2) pe_str (nomark _)) (pss_one (ps_expr (pe_meth (pv 0) hC.c M_h_go G_h_go (hr.mono (by decide)) b_h_go .nil pass0 (pa_cons (pv 3) pa_nil)))) (pss_one (ps_if (pt_cmpR op_eq (pv 2) pe_str (nomark _)) (pss_one (ps_expr (pe_meth (pv 0) hC.c M_h_tletter G_h_tletter (hr.mono (by decide)) b_h_tletter .nil pass0 (pa_cons (pv 3) pa_nil)))) (pss_one (ps_expr (pe_meth (pv 0) hC.c M_h_tcopy G_h_tcopy (hr.mono (by decide)) b_h_tcopy .nil pass0 (pa_cons (pv 3) pa_nil)))))))))
      (pss_one (ps_ret pe_non)))))), ?_⟩
    have hh' := hh
    obtain ⟨dx, fs, ad, la, ca, h0, hF0⟩ := hh'.parts
    refine ⟨_, rfl, x, dx, fs, rfl, h0.hx, h0.hf.no _ (by decide +kernel), _, rfl, x, p, us, r, cnt, S, F, a, e, rfl, hh, ha, hcan, fun G k1 => ?_⟩
    have q : ∀ (F' : Addr → Prop) (H' : Hp), KF F G H' → (∀ c, F' c → F c ∨ G c = none) → Hear K H' C x p us r cnt (doS us r cnt S e) F' → Q (doV S e) H' := fun F' H' k' hF' hH' =>
      q0 F' H' ((k1.kf (F := F)).trans k' fun c hc => .inl hc) (fun c hc => (hF' c hc).imp id ((k1.kf (F := F)).dom c)) hH'
    have hh1 := hh.k0 k1
    have ha1 := k1.sqT ha
    have h := h0.k0 k1
    cases e with
    | emit =>
      obtain ⟨i, rfl, hi, ho⟩ := hcan
      refine ⟨_, rfl, a, _, 0, _, rfl, rfl, ha1, atI_nat (j := 0) rfl, rfl, true, rfl, iteT ?_⟩
      exact ⟨_, rfl, x, dx, fs, rfl, h.hx, h.hf.no _ (by decide +kernel), x, p, us, i, cnt, S, F, rfl, hh1, hi, ho, fun F' H' k' hF' hH' => q F' H' k' hF' hH'⟩
    | pl d i =>
      refine ⟨_, rfl, a, _, 0, _, rfl, rfl, ha1, atI_nat (j := 0) rfl, rfl, false, by cases d <;> decide +kernel, iteF ?_⟩
      refine ⟨_, rfl, a, _, rfl, ha1, rfl, _, _, rfl, _, _, rfl, rfl, ?_⟩
      cases d with
      | come =>
        obtain ⟨hi, _, hl, hs⟩ := hcan
        refine ⟨_, rfl, rfl, true, by decide +kernel, iteT ?_⟩
        exact ⟨_, rfl, x, dx, fs, rfl, h.hx, h.hf.no _ (by decide +kernel), _, rfl, x, p, us, r, cnt, S, F, i, rfl, hh1, hi, hl, hs, fun F' H' k' hF' hH' => q F' H' k' hF' hH'⟩
      | go =>
        obtain ⟨hi, _, hl⟩ := hcan
        refine ⟨_, rfl, rfl, false, by decide +kernel, iteF ⟨_, rfl, rfl, true, by decide +kernel, iteT ?_⟩⟩
        exact ⟨_, rfl, x, dx, fs, rfl, h.hx, h.hf.no _ (by decide +kernel), _, rfl, x, p, us, r, cnt, S, F, i, rfl, hh1, hi, hl, fun F' H' k' hF' hH' => q F' H' k' hF' hH'⟩
      | up =>
        obtain ⟨hi, _, j, b, c, rest, hj, hij, el, hl, hs, hb⟩ := hcan
        refine ⟨_, rfl, rfl, false, by decide +kernel, iteF ⟨_, rfl, rfl, false, by decide +kernel, iteF ⟨_, rfl, rfl, true, by decide +kernel, iteT ?_⟩⟩⟩
        have e : doS us r cnt S (.pl .up i) = tletS S r j i b c rest := by
          show (match S.letters i, us[i]? with
            | (b, c) :: rest, some (some j) => tletS S r j.toNat i b c rest
            | _, _ => S) = _
          rw [el, hij]
          rfl
        exact ⟨_, rfl, x, dx, fs, rfl, h.hx, h.hf.no _ (by decide +kernel), _, rfl, x, p, us, r, cnt, S, F, i, j, b, c, rest, rfl, hh1, hi, hj, hij, el, hl, hs, hb, fun F' H' k' hF' hH' => q F' H' k' hF' (by rw [e]; exact hH')⟩
      | down =>
        obtain ⟨hi, _, n, c, rest, el, ho⟩ := hcan
        refine ⟨_, rfl, rfl, false, by decide +kernel, iteF ⟨_, rfl, rfl, false, by decide +kernel, iteF ⟨_, rfl, rfl, false, by decide +kernel, iteF ?_⟩⟩⟩
        have e : doS us r cnt S (.pl .down i) = gotS S cnt i n c rest := by
          show (match S.copies i with
            | (n, c) :: rest => gotS S cnt i n c rest
            | _ => S) = _
          rw [el]
        exact ⟨_, rfl, x, dx, fs, rfl, h.hx, h.hf.no _ (by decide +kernel), _, rfl, x, p, us, r, cnt, S, F, i, n, c, rest, rfl, hh1, hi, el, ho, fun F' H' k' hF' hH' => q F' H' k' hF' (by rw [e]; exact hH')⟩
end
end HK

set_option Elab.async false
set_option linter.all false
set_option maxRecDepth 100000
set_option maxHeartbeats 2000000
/-! list(d.values()); set(t) of a tuple of whole numbers -/
namespace HkL
open PySem PySem.Spec PyProof.Rows L2
section
variable {X : Cx} {e : Expr} {te : TE} {p apos cpos pos : Pos}
def tListVals (te : TE) : TE := fun σ H Q => te σ H fun x H1 => ∃ (d : Addr) (kvs : List (Key × V)), x = .ref d ∧ Rd H1 d (.dK kvs) ∧ kvs.length ≤ sizeLine ∧ ∀ q, H1 q = none → Q (.ref q) (upd H1 q (.lst (kvs.map (·.2))))
theorem dict_at {pins : List (Addr × Obj)} {σ : L2.St} {H : Hp} {s : Shared} {d : Addr} {kvs : List (Key × V)} (I : Inv X pins σ H s) (h : Rd H d (.dK kvs)) : ∃ vs ep, KV kvs vs ∧ s.heap.DictAt (mixKind X.prog X.w) d vs ep ∧ (d == sysModules) = false := by
  rcases h with h | ⟨o, h⟩
  · obtain ⟨z, lo, vs, rk, hd⟩ := (show ObjOk X.prog X.w H s.heap d (.dK kvs) from I.hok d _ h)
    obtain ⟨ep, hat⟩ := hd.dictAt
    exact ⟨vs, ep, rk, hat, lo⟩
  · obtain ⟨hs, hgd, hx, es, ep, vs, hdt, hsz, kv, hm⟩ := I.frzK h
    exact ⟨vs, ep, kv, hm, hs⟩
theorem pe_listVals (hc : X.calm = true) (he : PE X e te) (hg : Gl X "list") (hm : X.mg "list" = none) (hv : bootBuiltins "list" = some (.type "list")) (hbase : attributeBase e "values" X.env (eval e X.env) = eval e X.env := by rfl) (hline : (apos.endLine == cpos.line) = true := by rfl)
    (hs : starEach [.Call (.Attribute e "values" apos) [] [] cpos] X.env = (false, eval (.Call (.Attribute e "values" apos) [] [] cpos) X.env) :: starEach [] X.env := by rfl) :
    PE X (.Call (.Name "list" p) [.Call (.Attribute e "values" apos) [] [] cpos] [] pos) (tListVals te) := by
  refine ⟨fun pins s σ H Q I hq => ?_⟩
  refine wpAny_Call_Name_kw (ld_blt I hg hm hv ?_)
  refine PyProof.Rows.callWith_type1 ?_ hs rfl
  rw [hs]
  show wpAny _ _ (spliced ((false, eval (.Call (.Attribute e "values" apos) [] [] cpos) X.env) :: backTo pos (starEach [] X.env))) _ _ s
  refine Calls.spliced_cons ?_
  refine wpAny_Call_method (T := "dict") (id := "dict.values") hbase rfl hline F.plainAttrs_dict F.slot_dict_values F.type_dict_values (thn (he.run pins s σ H _ I hq) fun u s1 ⟨x, H1, I1, rx, d, kvs, ex, hd, hz, q⟩ => ?_)
  subst ex
  obtain rfl : u = Value.ref d := rx
  obtain ⟨vs, ep, kv, hat, hs0⟩ := dict_at I1 hd
  have hdo := hat.dictOf
  have lk : kvs.length = vs.length := Paired.length kv
  have I2 : Inv X pins σ H1 { s1 with heap := s1.heap.push { cls := .type "dict_values", data := .fields #[.ref d] } } := I1.kept (t' := s1.toks) fun b ob q => Heap.get?_push_of_some _ q
  refine ⟨hdo.typeIs, hdo.mapOf.noDict, ?_⟩
  show wpAny _ _ (callWith cpos (.builtin "dict.values") [.ref d] [] []) _ X.xe s1
  refine method_meetsIn F.slot_dict_values F.entry_dict_values rfl (PySem.evalArgs_none ⟨rfl, hdo.typeIs, F.args_dict_values_1 _, _, meets_dict_values (mixKind X.prog X.w) d hs0, ⟨vs, hdo⟩, ?_⟩)
  refine Calls.spliced_nil ?_
  refine PySem.W.kdl_call (PySem.W.kdl_values (knd := mixKind X.prog X.w) (kvs := vs) (ep := ep) (r := s1.heap.objs.size) (d := d)) (I1.ok.hd hc) ⟨⟨_, Heap.get?_push_size _ rfl, rfl, rfl⟩, hat.push _⟩ (by rw [← lk]; exact hz) fun h' tk acc' c' hkeep hS hacc => ?_
  refine ⟨.ref _, upd H1 _ (.lst (kvs.map (·.2))), I2.laid hkeep (Nat.le_refl _) (show ObjOk X.prog X.w _ _ _ (.lst (kvs.map (·.2))) from ⟨?_, acc'.toList, c', ?_, ?_⟩), rfl, q _ (I2.hok.fresh (Nat.le_refl _))⟩
  · rw [List.length_map]; exact hz
  · have el : acc'.toList.length = acc'.size := by simp
    refine vals_of_at (by rw [List.length_map, el, hacc.1, lk]) fun j x w h1 h2 => ?_
    obtain ⟨k, hky⟩ := hacc.2 j w (by rw [← Array.getElem?_toList]; exact h2)
    rw [List.getElem?_map] at h1
    cases e2 : kvs[j]? with
    | none => rw [e2] at h1; cases h1
    | some pk =>
      rw [e2] at h1
      cases h1
      obtain ⟨qv, g1, g2, g3⟩ := LiI.paired_get kv e2
      rw [hky] at g1
      cases g1
      exact g3
  · rw [Array.toArray_toList]; exact hS
/-- tuple(l), tuple(t) -/
def rTup (K : PySem.W.Frag) : List V → Hp → VK → Prop := fun xs H Q => ∃ p ys, xs = [.ref p] ∧ ((SqL K H p ys ∧ ∀ l, H l = none → Q (.ref l) (upd H l (.tup ys))) ∨ (SqT K H p ys ∧ Q (.ref p) H))
theorem call_tupR : CallR X (.type "tuple") (rTup X.K) := call_tuple_of
/-- set(t) -/
def rSetT (K : PySem.W.Frag) (w : World) : List V → Hp → VK → Prop := fun vs H Q => ∃ (l : Addr) (ns : List Int), vs = [.ref l] ∧ SqT K H l (ns.map V.int) ∧ ns.length ≤ 1000 ∧ ∀ (p : Addr) (c : Nat), H p = none → c ≤ ns.length → Q (.ref p) (upd H p (SetO w p (fun j => decide (j ∈ ns)) c))
theorem cr_setT (hc : X.calm = true) : CallR X (.type "set") (rSetT X.K X.w) := by
  intro pins s σ H vs us Q I r h
  obtain ⟨l, ns, rfl, hl, hb, q⟩ := h
  cases r with
  | cons r rr =>
    cases rr
    cases r
    obtain ⟨its, rv, pt, hz⟩ := I.tuple hl
    have hi : IntsAre its.toArray.toList ns := ints_of_vals rv
    refine call_set_tupI ns (I.ok.hd hc) (show s.heap.IsTuple l its.toArray from pt) hi (by unfold scanBound; omega) fun h' tk c R1 hcn k => ?_
    exact ⟨.ref _, upd H s.heap.objs.size (SetO X.w s.heap.objs.size (fun j => decide (j ∈ ns)) c), I.laid k (Nat.le_refl _) (setO_new R1), rfl, q _ c (I.hok.fresh (Nat.le_refl _)) hcn⟩
end
end HkL

set_option Elab.async false
set_option linter.all false
set_option maxRecDepth 100000
set_option maxHeartbeats 4000000
namespace HK
open PySem PySem.Spec PyProof.Rows L2 GAl GxR
open Evl (pss_cut)
abbrev sHStays : Stmt := methS 56 16
abbrev N_scHStays : List Str := ["self", "place", "stay"]
theorem scHStays : FnScope N_scHStays ["self", "place"] (defScope sHStays) := ⟨rfl, rfl, rfl, by decide +kernel, rfl, by decide +kernel, by decide +kernel⟩
def rListOf (K : PySem.W.Frag) : List V → Hp → VK → Prop := fun xs H Q => ∃ p ys, xs = [.ref p] ∧ (SqL K H p ys ∨ SqT K H p ys) ∧ ∀ l, H l = none → Q (.ref l) (upd H l (.lst ys))
/-- rows of lists of numbers -/
def LstRows (H : Hp) (as : List Addr) (vs : List (List Int)) : Prop := as.length = vs.length ∧ ∀ (j : Nat) (a : Addr) (v : List Int), as[j]? = some a → vs[j]? = some v → H a = some (.lst (v.map V.int))
theorem LstRows.k0 {H H' : Hp} {as : List Addr} {vs : List (List Int)} (h : LstRows H as vs) (k : K0 H H') : LstRows H' as vs := ⟨h.1, fun j a v e1 e2 => k.oth a _ (h.2 j a v e1 e2) (fun _ z => by cases z)⟩
theorem LstRows.snoc {H : Hp} {as : List Addr} {vs : List (List Int)} {a : Addr} {v : List Int} (h : LstRows H as vs) (s : H a = some (.lst (v.map V.int))) : LstRows H (as ++ [a]) (vs ++ [v]) := by
  refine ⟨by rw [List.length_append, List.length_append, h.1]; rfl, fun j b u e1 e2 => ?_⟩
  by_cases hj : j < as.length
  · rw [List.getElem?_append_left hj] at e1
    rw [List.getElem?_append_left (by rw [← h.1]; exact hj)] at e2
    exact h.2 j b u e1 e2
  · rw [List.getElem?_append_right (by omega)] at e1
    rw [List.getElem?_append_right (by rw [← h.1]; omega), ← h.1] at e2
    have hj0 : j - as.length = 0 := by
      cases hh : j - as.length with
      | zero => rfl
      | succ k => rw [hh] at e1; cases e1
    rw [hj0] at e1 e2
    cases e1; cases e2
    exact s
section
variable {P : Program} {w : World} {K : PySem.W.Frag} {mg : Str → Option Value} {base : Heap}
def spHServes (K : PySem.W.Frag) (C : Addr) : Sp := fun vs H Q _ => ∃ (x p : Addr) (us : List (Option Int)) (r : Int) (cnt : Bool) (S : HS) (F : Addr → Prop) (i : Nat), vs = [.ref x, .int i] ∧ Hear K H C x p us r cnt S F ∧ i < us.length ∧ (S.served i).length < 64 ∧ ∀ (ys : List Int) (q : Addr) (H' : Hp), ys.Perm ((S.served i).map (·.1)) → ys.Pairwise (· ≤ ·) → K0 H H' → H' q = some (.tup (ys.map V.int)) → Q (.ref q) H'
theorem ok_hserves {C f : Addr} {fd : FuncData} {f_h_needplace : Addr} {fd_h_needplace : FuncData} (F : Fun K "serves" "Hearing.serves" sHServes f fd) (hC : HearN K C) (M_h_needplace : Meth K C "need_place" f_h_needplace) (b_h_needplace : Binds K fd_h_needplace ["self", "place"] []) (G_h_needplace : FnOk P w K mg base CX0 3 f_h_needplace fd_h_needplace ["self", "place"] (spHNeedPlace K C)) (m_tuple : mg "tuple" = none) (m_sorted : mg "sorted" = none) : FnOk P w K mg base CX0 4 f fd ["self", "place"] (spHServes K C) := by
  refine F.ok scHServes (fun vs H Q E h => ?_) (fun cdv A outer s H vs Q E hr h => ?_)
  · obtain ⟨x, p, us, r, cnt, S, F, i, rfl, _⟩ := h
    rfl
  · obtain ⟨x, p, us, r, cnt, S, F, i, rfl, hh, hi, h64, q⟩ := h
    have hu := hu_of hr
    refine ⟨_, (pss_cons (ps_expr (pe_meth (pv 0) hC.c M_h_needplace G_h_needplace (hr.mono (by decide)) b_h_needplace .nil pass0 (pa_cons (pv 1) pa_nil)))
      (pss_one (ps_ret (pe_callTy HkL.call_tupR (by rfl) m_tuple (by decide +kernel) (pa_cons (pe_callB (call_sortedDI rfl) (by rfl) m_sorted boot_sorted (pa_cons (pe_ix ix_list (pe_fld (pv 0) rfl) (pv 1) (fun _ _ => rfl)) pa_nil)) pa_nil))))), ?_⟩
    obtain ⟨dx, fs, ad, la, ca, h, hF⟩ := hh.parts
    refine ⟨_, rfl, x, dx, fs, rfl, h.hx, h.hf.no _ (by decide +kernel), _, rfl, x, p, us, r, cnt, S, F, i, rfl, hh, hi, ?_⟩
    have e1 : H (ad (.sd i)) = some (.dK ((S.served i).map srv)) := h.hn.nd (.sd i) hi
    refine ⟨_, rfl, x, C, dx, fs, _, rfl, h.hx, hC.c, hC.n _ (by simp), h.hf.served, _, rfl, ad .s, _, (i : Int), .ref (ad (.sd i)), rfl, rfl, .inl (.inl (h.hn.nd .s trivial)), atI_nat (range_at _ hi), ad (.sd i), _, (S.served i).map (·.1), rfl, .inl e1, by rw [List.map_map, List.map_map]; rfl, by rw [List.length_map]; exact h64, fun ys l perm up nl => ?_⟩
    refine ⟨l, _, rfl, .inl ⟨.inl (.inl upd_same), fun t nt => ?_⟩⟩
    exact q ys t _ perm up ((K0.new nl).trans (K0.new nt)) upd_same
def spHStays (K : PySem.W.Frag) (C : Addr) : Sp := fun vs H Q _ => ∃ (x p : Addr) (us : List (Option Int)) (r : Int) (cnt : Bool) (S : HS) (F : Addr → Prop) (i : Nat), vs = [.ref x, .int i] ∧ Hear K H C x p us r cnt S F ∧ i < us.length ∧ (S.stays i).length < 1000000 ∧ ∀ (as : List Addr) (q : Addr) (H' : Hp), K0 H H' → H' q = some (.lst (as.map V.ref)) → LstRows H' as (S.stays i) → H q = none → (∀ a ∈ as, H a = none) → as.Nodup → q ∉ as → Q (.ref q) H'
theorem ok_hstays {C f : Addr} {fd : FuncData} {f_h_needplace : Addr} {fd_h_needplace : FuncData} (F : Fun K "stays" "Hearing.stays" sHStays f fd) (hC : HearN K C) (M_h_needplace : Meth K C "need_place" f_h_needplace) (b_h_needplace : Binds K fd_h_needplace ["self", "place"] []) (G_h_needplace : FnOk P w K mg base CX0 3 f_h_needplace fd_h_needplace ["self", "place"] (spHNeedPlace K C)) (m_list : mg "list" = none) : FnOk P w K mg base CX0 4 f fd ["self", "place"] (spHStays K C) := by
  refine F.ok scHStays (fun vs H Q E h => ?_) (fun cdv A outer s H vs Q E hr h => ?_)
  · obtain ⟨x, p, us, r, cnt, S, F, i, rfl, _⟩ := h
    rfl
  · obtain ⟨x, p, us, r, cnt, S, F, i, rfl, hh, hi, hl, q⟩ := h
    have hu := hu_of hr
    refine ⟨_, (pss_cons (ps_expr (pe_meth (pv 0) hC.c M_h_needplace G_h_needplace (hr.mono (by decide)) b_h_needplace .nil pass0 (pa_cons (pv 1) pa_nil)))
      (pss_one (ps_ret (pe_lc (own := [("stay", 2)]) (g := (gName 2)) (tt := tYes) (te := (tCB (rListOf K) (tCons (tVar 2) tNil))) rfl scHStays.nd (pi_list (pe_ix ix_list (pe_fld (pv 0) rfl) (pv 1) (fun _ _ => rfl))) (blkOk_by (N := N_scHStays) (sc := defScope sHStays) (by decide +kernel)) (fun _ _ _ _ _ => (pg_name (i := 2) scHStays.nd rfl (.inl rfl))) (fun _ _ _ _ _ => pts_nil) (fun _ _ _ _ _ => (pe_callTy call_list_of (by rfl) m_list (by decide +kernel) (pa_cons (pv 2) pa_nil))))))), ?_⟩
    obtain ⟨dx, fs, ad, la, ca, h, hF⟩ := hh.parts
    refine ⟨_, rfl, x, dx, fs, rfl, h.hx, h.hf.no _ (by decide +kernel), _, rfl, x, p, us, r, cnt, S, F, i, rfl, hh, hi, ?_⟩
    have e1 := h.hn.nd (.sl i) hi
    have e2 : H (ad (.sl i)) = some (.lst ((List.range (S.stays i).length).map fun j => .ref (ad (.sy i j)))) := e1
    refine ⟨_, rfl, x, C, dx, fs, _, rfl, h.hx, hC.c, hC.n _ (by simp), h.hf.stay_lists, _, rfl, ad .t, _, (i : Int), .ref (ad (.sl i)), rfl, rfl, .inl (.inl (h.hn.nd .t trivial)), atI_nat (range_at _ hi), ad (.sl i), rfl, ⟨_, .inl (.inl e2)⟩, fun D nD => ?_⟩
    refine lc_list (K := K) (a := ad (.sl i)) (xs := (List.range (S.stays i).length).map fun j => .ref (ad (.sy i j))) (fun j H' => K0 H H' ∧ ∃ as, H' D = some (.lst (as.map V.ref)) ∧ LstRows H' as ((S.stays i).take j) ∧ D ∉ as ∧ (∀ a ∈ as, H a = none) ∧ as.Nodup)
      ⟨K0.new nD, [], upd_same, ⟨by rw [List.take_zero]; rfl, fun j a v e => by cases e⟩, List.not_mem_nil, (fun a ha => by cases ha), List.nodup_nil⟩ (fun j H' _ hh => .inl (.inl (hh.1.oth _ _ e2 (fun _ z => by cases z)))) (fun j y H' hy hh => ?_) (fun H' hh => ?_)
    · obtain ⟨k, as, hD, hr, hn, hfr, hnd⟩ := hh
      have hj : j < (S.stays i).length := by
        have := (List.getElem?_eq_some_iff.mp hy).1
        rw [List.length_map, List.length_range] at this
        exact this
      rw [range_at _ hj] at hy
      cases hy
      have e3 : H' (ad (.sy i j)) = some (.lst (((S.stays i).getD j []).map V.int)) := k.oth _ _ (h.hn.nd (.sy i j) ⟨hi, hj⟩) (fun _ z => by cases z)
      refine ⟨rfl, tyes ⟨_, rfl, ad (.sy i j), _, rfl, .inl (.inl (.inl e3)), fun l nl => ?_⟩⟩
      have kl := K0.new nl (o := .lst (((S.stays i).getD j []).map V.int))
      have hlD : l ≠ D := fun z => by rw [z, hD] at nl; cases nl
      have al : as.length = j := by rw [hr.1, List.length_take]; omega
      refine ⟨_, kl.oth D _ hD (fun _ w => by cases w), by rw [List.length_map, al, sizeLine_eq]; omega, (k.trans kl).mut nD, as ++ [l], by rw [List.map_append]; exact upd_same, ?_, ?_, ?_, ?_⟩
      · have ht : (S.stays i).take (j + 1) = (S.stays i).take j ++ [(S.stays i).getD j []] := by
          rw [List.take_add_one, List.getD_eq_getElem?_getD, List.getElem?_eq_getElem hj]; rfl
        rw [ht]
        have r2 := (hr.k0 kl).snoc (a := l) (v := (S.stays i).getD j []) upd_same
        refine ⟨r2.1, fun b a v ea ev => ?_⟩
        have am : a ∈ as ++ [l] := List.mem_of_getElem? ea
        have ne : a ≠ D := fun z => by
          rw [z] at am
          rcases List.mem_append.mp am with m | m
          · exact hn m
          · exact hlD (List.mem_singleton.mp m).symm
        rw [upd_ne ne]
        exact r2.2 b a v ea ev
      · intro m
        rcases List.mem_append.mp m with m | m
        · exact hn m
        · exact hlD (List.mem_singleton.mp m).symm
      · intro a m
        rcases List.mem_append.mp m with m | m
        · exact hfr a m
        · rw [List.mem_singleton.mp m]; exact k.dom l nl
      · refine List.nodup_append.mpr ⟨hnd, by simp, fun a ha b hb e => ?_⟩
        rw [List.mem_singleton.mp hb] at e
        obtain ⟨b2, hb2⟩ := List.getElem_of_mem ha
        obtain ⟨hb3, hb4⟩ := hb2
        have hj2 : b2 < ((S.stays i).take j).length := by rw [← hr.1]; exact hb3
        have := hr.2 b2 a _ (by rw [List.getElem?_eq_getElem hb3, hb4]) (List.getElem?_eq_getElem hj2)
        rw [e, nl] at this; cases this
    · obtain ⟨k, as, hD, hr, hn, hfr, hnd⟩ := hh
      rw [List.length_map, List.length_range, List.take_length] at hr
      exact q as D H' k hD hr nD hfr hnd hn
end
end HK

set_option Elab.async false
set_option linter.all false
set_option maxRecDepth 100000
set_option maxHeartbeats 4000000
namespace HK
open PySem PySem.Spec PyProof.Rows L2 GAl GxR
open Evl (pss_cut)
/-! ### a Hearing that is made -/
def nil0 : Nat → List Addr := fun _ => []
def adN (ad : Tg → Addr) (t0 : Tg) (q : Addr) : Tg → Addr := fun t => if t = t0 then q else ad t
theorem adN_same {ad : Tg → Addr} {t0 : Tg} {q : Addr} : adN ad t0 q t0 = q := if_pos rfl
theorem adN_ne {ad : Tg → Addr} {t0 t : Tg} {q : Addr} (h : t ≠ t0) : adN ad t0 q t = ad t := if_neg h
/-- the objects of the tags dn stand, made behind H -/
structure NA (H G : Hp) (x : Addr) (n : Nat) (ad : Tg → Addr) (dn : Tg → Prop) : Prop where
  nd : ∀ t, dn t → G (ad t) = some (node n ad HS.ini nil0 nil0 t)
  nx : ∀ t, dn t → ad t ≠ x
  nH : ∀ t, dn t → H (ad t) = none
  inj : ∀ t t', dn t → dn t' → ad t = ad t' → t = t'
theorem NA.k0 {H G G' : Hp} {x : Addr} {n : Nat} {ad : Tg → Addr} {dn : Tg → Prop} (h : NA H G x n ad dn) (k : K0 G G') : NA H G' x n ad dn := ⟨fun t ht => k.oth _ _ (h.nd t ht) (node_tup t).2.2.1, h.nx, h.nH, h.inj⟩
theorem NA.setx {H G : Hp} {x : Addr} {n : Nat} {ad : Tg → Addr} {dn : Tg → Prop} (h : NA H G x n ad dn) (o : HO) : NA H (upd G x o) x n ad dn := ⟨fun t ht => by rw [upd_ne (h.nx t ht)]; exact h.nd t ht, h.nx, h.nH, h.inj⟩
theorem NA.oth {H G : Hp} {x D : Addr} {n : Nat} {ad : Tg → Addr} {dn : Tg → Prop} (h : NA H G x n ad dn) (o : HO) (hD : ∀ t, dn t → ad t ≠ D) : NA H (upd G D o) x n ad dn := ⟨fun t ht => by rw [upd_ne (hD t ht)]; exact h.nd t ht, h.nx, h.nH, h.inj⟩
theorem NA.add {H G : Hp} {x : Addr} {n : Nat} {ad : Tg → Addr} {dn : Tg → Prop} (h : NA H G x n ad dn) {t0 : Tg} {q : Addr} (hq : G q = some (node n (adN ad t0 q) HS.ini nil0 nil0 t0)) (nx : q ≠ x) (nH : H q = none) (nq : ∀ t, dn t → ad t ≠ q) (n0 : ¬ dn t0)
    (hn : ∀ t, dn t → node n (adN ad t0 q) HS.ini nil0 nil0 t = node n ad HS.ini nil0 nil0 t) : NA H G x n (adN ad t0 q) (fun t => dn t ∨ t = t0) := by
  have ne : ∀ t, dn t → t ≠ t0 := fun t ht z => n0 (by rw [← z]; exact ht)
  refine ⟨fun t ht => ?_, fun t ht => ?_, fun t ht => ?_, fun t t' ht ht' e => ?_⟩
  · rcases ht with ht | rfl
    · rw [adN_ne (ne t ht), hn t ht]; exact h.nd t ht
    · rw [adN_same]; exact hq
  · rcases ht with ht | rfl
    · rw [adN_ne (ne t ht)]; exact h.nx t ht
    · rw [adN_same]; exact nx
  · rcases ht with ht | rfl
    · rw [adN_ne (ne t ht)]; exact h.nH t ht
    · rw [adN_same]; exact nH
  · rcases ht with ht | rfl
    · rcases ht' with ht' | rfl
      · rw [adN_ne (ne t ht), adN_ne (ne t' ht')] at e
        exact h.inj t t' ht ht' e
      · rw [adN_ne (ne t ht), adN_same] at e
        exact absurd e (nq t ht)
    · rcases ht' with ht' | rfl
      · rw [adN_ne (ne t' ht'), adN_same] at e
        exact absurd e.symm (nq t' ht')
      · rfl
theorem NA.dn {H G : Hp} {x : Addr} {n : Nat} {ad : Tg → Addr} {dn dn' : Tg → Prop} (h : NA H G x n ad dn) (e : ∀ t, dn' t → dn t) : NA H G x n ad dn' := ⟨fun t ht => h.nd t (e t ht), fun t ht => h.nx t (e t ht), fun t ht => h.nH t (e t ht), fun t t' a b => h.inj t t' (e t a) (e t' b)⟩
theorem NA.fresh {H G : Hp} {x : Addr} {n : Nat} {ad : Tg → Addr} {dn : Tg → Prop} (h : NA H G x n ad dn) {q : Addr} (nq : G q = none) : ∀ t, dn t → ad t ≠ q := fun t ht z => by
  have := h.nd t ht
  rw [z, nq] at this
  cases this
/-- a loop that makes an object for each place: the list at D holds those made so far -/
def NL (H G H' : Hp) (x : Addr) (n : Nat) (dn : Tg → Prop) (ad : Tg → Addr) (tg : Nat → Tg) (D : Addr) (i : Nat) : Prop :=
  K0 G H' ∧ ∃ ad', (∀ t, dn t → ad' t = ad t) ∧ H' D = some (.lst ((List.range i).map fun j => .ref (ad' (tg j)))) ∧ NA H H' x n ad' (fun t => dn t ∨ ∃ k, k < i ∧ t = tg k) ∧ ∀ t, (dn t ∨ ∃ k, k < i ∧ t = tg k) → ad' t ≠ D
theorem NL.zero {H G : Hp} {x : Addr} {n : Nat} {dn : Tg → Prop} {ad : Tg → Addr} {tg : Nat → Tg} {D : Addr} (h : NA H G x n ad dn) (nD : G D = none) : NL H G (upd G D (.lst [])) x n dn ad tg D 0 := by
  have e : ∀ t, (dn t ∨ ∃ k, k < 0 ∧ t = tg k) → dn t := fun t ht => ht.elim id fun ⟨k, hk, _⟩ => absurd hk (Nat.not_lt_zero k)
  exact ⟨K0.new nD, ad, fun _ _ => rfl, upd_same, (h.k0 (K0.new nD)).dn e, fun t ht => h.fresh nD t (e t ht)⟩
theorem NL.step {H G H' : Hp} {x : Addr} {n : Nat} {dn : Tg → Prop} {ad : Tg → Addr} {tg : Nat → Tg} {D q : Addr} {i : Nat} {o : HO} (h : NL H G H' x n dn ad tg D i) (kt : Kt x H G) (nD : G D = none) (hx : ∃ u, H' x = some u) (nq : H' q = none)
    (ho : ∀ (ad : Tg → Addr) (j : Nat), node n ad HS.ini nil0 nil0 (tg j) = o) (ti : ∀ j k, tg j = tg k → j = k) (t1 : ∀ j, ¬ dn (tg j)) (hn : ∀ (ad : Tg → Addr) (q : Addr) (j : Nat) (t : Tg), (dn t ∨ ∃ k, t = tg k) → node n (adN ad (tg j) q) HS.ini nil0 nil0 t = node n ad HS.ini nil0 nil0 t) :
    NL H G (upd (upd H' q o) D (.lst (((List.range i).map fun j => V.ref ((h.2.choose) (tg j))) ++ [.ref q]))) x n dn ad tg D (i + 1) ∧ H' D = some (.lst ((List.range i).map fun j => .ref ((h.2.choose) (tg j)))) := by
  obtain ⟨e0, e1, e2, e3⟩ := h.2.choose_spec
  generalize h.2.choose = ad' at e0 e1 e2 e3 ⊢
  obtain ⟨k, _⟩ := h
  refine ⟨?_, e1⟩
  have hqD : q ≠ D := fun z => by rw [z, e1] at nq; cases nq
  have hqx : q ≠ x := fun z => by obtain ⟨u, hu⟩ := hx; rw [z, hu] at nq; cases nq
  have kq := K0.new nq (o := o)
  have ne : ∀ j, j < i → tg j ≠ tg i := fun j hj z => by have := ti j i z; omega
  have ni : ¬ (dn (tg i) ∨ ∃ k, k < i ∧ tg i = tg k) := fun z => z.elim (t1 i) fun ⟨k, hk, e⟩ => ne k hk e.symm
  have a1 := (e2.k0 kq).add (t0 := tg i) (q := q) (by rw [ho]; exact upd_same) hqx (kt.dom q (k.dom q nq)) (e2.fresh nq) ni (fun t ht => hn ad' q i t (ht.imp id fun ⟨k, _, e⟩ => ⟨k, e⟩))
  have e4 : ∀ t, (dn t ∨ ∃ k, k < i + 1 ∧ t = tg k) → ((dn t ∨ ∃ k, k < i ∧ t = tg k) ∨ t = tg i) := fun t ht => by
    rcases ht with ht | ⟨k, hk, e⟩
    · exact .inl (.inl ht)
    · by_cases z : k = i
      · exact .inr (by rw [e, z])
      · exact .inl (.inr ⟨k, by omega, e⟩)
  have a2 := a1.dn e4
  have nDt : ∀ t, (dn t ∨ ∃ k, k < i + 1 ∧ t = tg k) → adN ad' (tg i) q t ≠ D := fun t ht => by
    rcases e4 t ht with z | z
    · rw [adN_ne (fun y => ni (by rw [← y]; exact z))]
      exact e3 t z
    · rw [z, adN_same]; exact hqD
  refine ⟨(k.trans kq).mut nD, adN ad' (tg i) q, fun t ht => ?_, ?_, a2.oth _ nDt, nDt⟩
  · rw [adN_ne (fun z => t1 i (by rw [← z]; exact ht))]
    exact e0 t ht
  · rw [upd_same, List.range_succ, List.map_append]
    congr 2
    · congr 1
      · refine List.map_congr_left fun j hj => ?_
        rw [adN_ne (ne j (List.mem_range.mp hj))]
      · show [V.ref q] = [V.ref _]
        rw [adN_same]
theorem NL.done {H G H' : Hp} {x : Addr} {n : Nat} {dn : Tg → Prop} {ad : Tg → Addr} {tg : Nat → Tg} {D : Addr} {tD : Tg} (h : NL H G H' x n dn ad tg D n) (kt : Kt x H G) (nD : G D = none) (hx : ∃ u, G x = some u)
    (ho : ∀ (ad : Tg → Addr), node n ad HS.ini nil0 nil0 tD = .lst ((List.range n).map fun j => .ref (ad (tg j)))) (tn : ∀ j, tg j ≠ tD) (n0 : ¬ dn tD) (hn : ∀ (ad : Tg → Addr) (q : Addr) (t : Tg), node n (adN ad tD q) HS.ini nil0 nil0 t = node n ad HS.ini nil0 nil0 t) :
    K0 G H' ∧ ∃ ad', NA H H' x n ad' (fun t => dn t ∨ (∃ k, k < n ∧ t = tg k) ∨ t = tD) ∧ (∀ t, dn t → ad' t = ad t) ∧ ad' tD = D := by
  obtain ⟨k, ad', e0, e1, e2, e3⟩ := h
  have hDx : D ≠ x := fun z => by obtain ⟨u, hu⟩ := hx; rw [z, hu] at nD; cases nD
  have ni : ¬ (dn tD ∨ ∃ k, k < n ∧ tD = tg k) := fun z => z.elim n0 fun ⟨k, hk, e⟩ => tn k e.symm
  have a1 := e2.add (t0 := tD) (q := D) (by rw [hn, ho]; exact e1) hDx (kt.dom D nD) e3 ni (fun t _ => hn ad' D t)
  refine ⟨k, adN ad' tD D, a1.dn fun t ht => ?_, fun t ht => ?_, adN_same⟩
  · rcases ht with z | z | z
    · exact .inl (.inl z)
    · exact .inl (.inr z)
    · exact .inr z
  · rw [adN_ne (fun z => n0 (by rw [← z]; exact ht))]
    exact e0 t ht
end HK

set_option Elab.async false
set_option linter.all false
set_option maxRecDepth 100000
set_option maxHeartbeats 16000000
namespace HK
open PySem PySem.Spec PyProof.Rows L2 GAl GxR
open Evl (pss_cut)
theorem range_const {α : Type} (c : α) (n : Nat) : (List.range n).map (fun _ => c) = List.replicate n c := by rw [List.map_const', List.length_range]
section
variable {P : Program} {w : World} {K : PySem.W.Frag} {mg : Str → Option Value} {base : Heap}
def spInitH (K : PySem.W.Frag) (C Pw : Addr) : Sp := fun vs H Q _ => ∃ (x dx p : Addr) (us : List (Option Int)) (r : Nat), vs = [.ref x, .ref p] ∧ H x = some (.ins C dx []) ∧ WaysAt H p us ∧ Ways us ∧ us[r]? = some none ∧ TabG H Pw ∧
  ∀ (F : Addr → Prop) (H' : Hp), Kt x H H' → Hear K H' C x p us (r : Int) true HS.ini F → (∀ b, F b → b = x ∨ H b = none) → Q .non H'
theorem ok_initH {f C Pw : Addr} {fd : FuncData} {f_needways : Addr} {fd_needways : FuncData} (F : Fun K "__init__" "Hearing.__init__" sInit f fd) (hC : HearN K C) (k_needways : PySem.W.keepIn K (.ref f_needways) = true) (b_needways : Binds K fd_needways ["up"] []) (g_needways : mg "need_ways" = some (.ref f_needways)) (G_needways : FnOk P w K mg base CX0 5 f_needways fd_needways ["up"] (spNeedWaysG K Pw)) : FnOk P w K mg base CX0 6 f fd ["self", "up"] (spInitH K C Pw) := by
  refine F.ok scInit (fun vs H Q E h => ?_) (fun cdv A outer s H vs Q E hr h => ?_)
  · obtain ⟨x, dx, p, us, r, rfl, _⟩ := h
    rfl
  · obtain ⟨x, dx, p, us, r, rfl, hx, hA, hW, hr0, tw, q⟩ := h
    have hu := hu_of hr
    have cn : ∀ f ∈ (["ahead", "root", "counted", "hears", "counts", "served", "letter_rows", "copy_rows", "stay_lists", "emitted", "letter_sum", "copy_sum"] : List Str), NoAttr K C f := hC.n
    refine ⟨_, (pss_cons (ps_expr (pe_call G_needways (hr.mono (by decide)) (by rfl) g_needways k_needways b_needways .nil pass0 (pa_cons (pv 1) pa_nil)))
      (pss_cons (ps_fld (pv 0) (pv 1) rfl)
      (pss_cons (ps_fld (pv 0) (pe_bmF PySem.F.plainAttrs_tuple PySem.F.slot_tuple_index PySem.F.type_tuple_index (mt_indexT (show (A.deeper (envOfC "Hearing.__init__" (defScope sInit) s.heap.objs.size f cdv)).units + 65 < cLine by have := hr.un; omega)) (pv 1) (pa_cons pe_non pa_nil)) rfl)
      (pss_cons (ps_fld (pv 0) pe_bl rfl)
      (pss_cons (ps_fld (pv 0) (pe_lc (own := [("place", 2)]) (g := (gName 2)) (tt := tYes) (te := (tC (.bl false))) rfl scInit.nd (pi_tup (pv 1)) (blkOk_by (N := N_scInit) (sc := defScope sInit) (by decide +kernel)) (fun _ _ _ _ _ => (pg_name (i := 2) scInit.nd rfl (.inl rfl))) (fun _ _ _ _ _ => pts_nil) (fun _ _ _ _ _ => pe_bl)) rfl)
      (pss_cons (ps_fld (pv 0) (pe_lc (own := [("place", 2)]) (g := (gName 2)) (tt := tYes) (te := (tC (.int 0))) rfl scInit.nd (pi_tup (pv 1)) (blkOk_by (N := N_scInit) (sc := defScope sInit) (by decide +kernel)) (fun _ _ _ _ _ => (pg_name (i := 2) scInit.nd rfl (.inl rfl))) (fun _ _ _ _ _ => pts_nil) (fun _ _ _ _ _ => pe_int)) rfl)
      (pss_cons (ps_fld (pv 0) (pe_lc (own := [("place", 2)]) (g := (gName 2)) (tt := tYes) rfl scInit.nd (pi_tup (pv 1)) (blkOk_by (N := N_scInit) (sc := defScope sInit) (by decide +kernel)) (fun _ _ _ _ _ => (pg_name (i := 2) scInit.nd rfl (.inl rfl))) (fun _ _ _ _ _ => pts_nil) (fun _ _ _ _ _ => pe_dnewK)) rfl)
      (pss_cons (ps_fld (pv 0) (pe_lc (own := [("place", 2)]) (g := (gName 2)) (tt := tYes) rfl scInit.nd (pi_tup (pv 1)) (blkOk_by (N := N_scInit) (sc := defScope sInit) (by decide +kernel)) (fun _ _ _ _ _ => (pg_name (i := 2) scInit.nd rfl (.inl rfl))) (fun _ _ _ _ _ => pts_nil) (fun _ _ _ _ _ => (pe_lst pa_nil))) rfl)
      (pss_cons (ps_fld (pv 0) (pe_lc (own := [("place", 2)]) (g := (gName 2)) (tt := tYes) rfl scInit.nd (pi_tup (pv 1)) (blkOk_by (N := N_scInit) (sc := defScope sInit) (by decide +kernel)) (fun _ _ _ _ _ => (pg_name (i := 2) scInit.nd rfl (.inl rfl))) (fun _ _ _ _ _ => pts_nil) (fun _ _ _ _ _ => (pe_lst pa_nil))) rfl)
      (pss_cons (ps_fld (pv 0) (pe_lc (own := [("place", 2)]) (g := (gName 2)) (tt := tYes) rfl scInit.nd (pi_tup (pv 1)) (blkOk_by (N := N_scInit) (sc := defScope sInit) (by decide +kernel)) (fun _ _ _ _ _ => (pg_name (i := 2) scInit.nd rfl (.inl rfl))) (fun _ _ _ _ _ => pts_nil) (fun _ _ _ _ _ => (pe_lst pa_nil))) rfl)
      (pss_cons (ps_fld (pv 0) pe_int rfl)
      (pss_cons (ps_fld (pv 0) pe_int rfl)
      (pss_one (ps_fld (pv 0) pe_int rfl)))))))))))))), ?_⟩
    refine ⟨_, rfl, .ref p, rfl, hA.ans hW, tw, fun H1 k1 => ?_⟩
    have hx1 := k1.oth x _ hx (fun _ z => by cases z)
    have hS := (hA.k0 k1).sq (K := K)
    have hl0 : (us.map oV).length = us.length := List.length_map ..
    have w8 := hW.n8
    refine ⟨_, rfl, _, rfl, x, C, dx, [], rfl, hx1, hC.c, cn _ (by simp), (by decide), ?_⟩
    have I1 : HI K H (upd H1 x (.ins C dx (putF "ahead" (.ref p) []))) x C dx p (putF "ahead" (.ref p) []) 1 := ⟨k1.kt.trans (Kt.setI hx1), upd_same, length_putF _ _ _, by rw [lookup_putF, if_pos rfl], fun g hg => by rw [lookup_putF, if_neg (fun z : g = ("ahead" : Str) => hg (by rw [z]; simp [hearF]))]; rfl⟩
    have N1 : NA H (upd H1 x (.ins C dx (putF "ahead" (.ref p) []))) x us.length (fun _ => x) (fun _ => False) := ⟨fun _ z => z.elim, fun _ z => z.elim, fun _ z => z.elim, fun _ _ z => z.elim⟩
    generalize upd H1 x (.ins C dx (putF "ahead" (.ref p) [])) = G1 at I1 N1 ⊢
    generalize ef1 : putF "ahead" (.ref p) [] = f1 at I1 ⊢
    obtain ⟨rr, hrr, hr1⟩ := hW.one
    obtain rfl := hr1 r hr0
    obtain ⟨o, hpo, oc, od⟩ := hA.kt I1.k
    refine ⟨_, rfl, ⟨p, o, _, rfl, hpo, oc, od⟩, p, .non, .none, us.map oD, r, .none, rfl, rfl, .tup (.inl (.inr ⟨o, hpo⟩)) (oV_dp us), .non, shaped_us us, by decide +kernel, by rw [List.getElem?_map, hr0]; rfl, by decide +kernel, fun m z' hm hz' => ?_, ?_⟩
    · rw [List.getElem?_map] at hz'
      cases e : us[m]? with
      | none => rw [e] at hz'; cases hz'
      | some x =>
        rw [e] at hz'
        cases hz'
        cases x with
        | none => have := hr1 m e; omega
        | some u => simp [oD, PyData.eqv]
    refine ⟨_, rfl, x, C, dx, f1, rfl, I1.x, hC.c, cn _ (by simp), Nat.lt_of_le_of_lt I1.l (by decide), ?_⟩
    have I2 := I1.put (K0.refl _) "root" (.int r) (by decide)
    have N2 := N1.setx (.ins C dx (putF "root" (.int r) f1))
    generalize upd G1 x (.ins C dx (putF "root" (.int r) f1)) = G2 at I2 N2 ⊢
    generalize ef2 : putF "root" (.int r) f1 = f2 at I2 ⊢
    refine ⟨_, rfl, x, C, dx, f2, rfl, I2.x, hC.c, cn _ (by simp), Nat.lt_of_le_of_lt I2.l (by decide), ?_⟩
    have I3 := I2.put (K0.refl _) "counted" (.bl true) (by decide)
    have N3 := N2.setx (.ins C dx (putF "counted" (.bl true) f2))
    generalize upd G2 x (.ins C dx (putF "counted" (.bl true) f2)) = G3 at I3 N3 ⊢
    generalize ef3 : putF "counted" (.bl true) f2 = f3 at I3 ⊢
    have hS3 := (hA.kt I3.k).sq (K := K)
    refine ⟨_, rfl, p, rfl, ⟨_, hS3⟩, fun D3 nD3 => ?_⟩
    refine lc_tup (K := K) (a := p) (xs := us.map oV) (fun i H' => K0 G3 H' ∧ H' D3 = some (.lst (List.replicate i (.bl false)))) ⟨K0.new nD3, upd_same⟩ (fun i H' _ h => h.1.sqT hS3) (fun i z H' hz h => ?_) (fun H' h => ?_)
    · obtain ⟨k, hD⟩ := h
      have hi := (List.getElem?_eq_some_iff.mp hz).1
      refine ⟨rfl, tyes ⟨_, hD, Nat.lt_of_le_of_lt (m := 5000) (by rw [List.length_replicate]; omega) (by decide), k.mut nD3, ?_⟩⟩
      rw [List.replicate_succ']
      exact upd_same
    obtain ⟨k3', hD3⟩ := h
    rw [hl0] at hD3
    have hxD3 : D3 ≠ x := fun w => by rw [w, I3.x] at nD3; cases nD3
    have M3 := (N3.k0 k3').add (t0 := .h) (q := D3) (by rw [hD3, ← range_const]; rfl) hxD3 (I3.k.dom _ nD3) (N3.fresh nD3) (by simp) (fun t ht => by cases t <;> first | rfl | (simp [node, adN, HS.ini]; done) | (exfalso; simp at ht; done))
    refine ⟨_, rfl, x, C, dx, f3, rfl, k3'.oth x _ I3.x (fun _ w => by cases w), hC.c, cn _ (by simp), Nat.lt_of_le_of_lt I3.l (by decide), ?_⟩
    have I4 := I3.put k3' "hears" (.ref D3) (by decide)
    have N4 := M3.setx (.ins C dx (putF "hears" (.ref D3) f3))
    have ad4 : adN (fun _ => x) .h D3 .h = D3 := adN_same
    generalize upd H' x (.ins C dx (putF "hears" (.ref D3) f3)) = G4 at I4 N4 ⊢
    generalize ef4 : putF "hears" (.ref D3) f3 = f4 at I4 ⊢
    have hS4 := (hA.kt I4.k).sq (K := K)
    refine ⟨_, rfl, p, rfl, ⟨_, hS4⟩, fun D4 nD4 => ?_⟩
    refine lc_tup (K := K) (a := p) (xs := us.map oV) (fun i H' => K0 G4 H' ∧ H' D4 = some (.lst (List.replicate i (.int 0)))) ⟨K0.new nD4, upd_same⟩ (fun i H' _ h => h.1.sqT hS4) (fun i z H' hz h => ?_) (fun H' h => ?_)
    · obtain ⟨k, hD⟩ := h
      have hi := (List.getElem?_eq_some_iff.mp hz).1
      refine ⟨rfl, tyes ⟨_, hD, Nat.lt_of_le_of_lt (m := 5000) (by rw [List.length_replicate]; omega) (by decide), k.mut nD4, ?_⟩⟩
      rw [List.replicate_succ']
      exact upd_same
    obtain ⟨k4', hD4⟩ := h
    rw [hl0] at hD4
    have hxD4 : D4 ≠ x := fun w => by rw [w, I4.x] at nD4; cases nD4
    have M4 := (N4.k0 k4').add (t0 := .c) (q := D4) (by rw [hD4, ← range_const]; rfl) hxD4 (I4.k.dom _ nD4) (N4.fresh nD4) (by simp) (fun t ht => by cases t <;> first | rfl | (simp [node, adN, HS.ini]; done) | (exfalso; simp at ht; done))
    refine ⟨_, rfl, x, C, dx, f4, rfl, k4'.oth x _ I4.x (fun _ w => by cases w), hC.c, cn _ (by simp), Nat.lt_of_le_of_lt I4.l (by decide), ?_⟩
    have I5 := I4.put k4' "counts" (.ref D4) (by decide)
    have N5 := M4.setx (.ins C dx (putF "counts" (.ref D4) f4))
    have ad5 : adN (adN (fun _ => x) .h D3) .c D4 .c = D4 := adN_same
    generalize upd H' x (.ins C dx (putF "counts" (.ref D4) f4)) = G5 at I5 N5 ⊢
    generalize ef5 : putF "counts" (.ref D4) f4 = f5 at I5 ⊢
    have hS5 := (hA.kt I5.k).sq (K := K)
    refine ⟨_, rfl, p, rfl, ⟨_, hS5⟩, fun D5 nD5 => ?_⟩
    refine lc_tup (K := K) (a := p) (xs := us.map oV) (fun i H' => NL H G5 H' x us.length _ (adN (adN (fun _ => x) .h D3) .c D4) (fun j => .sd j) D5 i) (NL.zero N5 nD5) (fun i H' _ h => h.1.sqT hS5) (fun i z H' hz h => ?_) (fun H' h => ?_)
    · have hi := (List.getElem?_eq_some_iff.mp hz).1
      refine ⟨rfl, tyes fun q nq => ?_⟩
      have kq := K0.new nq (o := .dK [])
      have hs := h.step (o := .dK []) I5.k nD5 ⟨_, h.1.oth x _ I5.x (fun _ w => by cases w)⟩ nq (fun ad j => rfl) (fun j k e => by cases e; rfl) (fun j z => by simp at z) (fun ad q j t ht => by cases t <;> first | rfl | (simp [node, adN, HS.ini]; done) | (exfalso; simp at ht; done))
      exact ⟨_, kq.oth D5 _ hs.2 (fun _ w => by cases w), Nat.lt_of_le_of_lt (m := 5000) (by rw [List.length_map, List.length_range]; omega) (by decide), hs.1⟩
    rw [hl0] at h
    obtain ⟨k5', ad6', M5, ae5, at5⟩ := h.done (tD := .s) I5.k nD5 ⟨_, I5.x⟩ (fun ad => rfl) (fun j e => by cases e) (fun z => by simp at z) (fun ad q t => by cases t <;> first | rfl | (simp [node, adN, HS.ini]; done))
    refine ⟨_, rfl, x, C, dx, f5, rfl, k5'.oth x _ I5.x (fun _ w => by cases w), hC.c, cn _ (by simp), Nat.lt_of_le_of_lt I5.l (by decide), ?_⟩
    have I6 := I5.put k5' "served" (.ref D5) (by decide)
    have N6 := M5.setx (.ins C dx (putF "served" (.ref D5) f5))
    generalize upd H' x (.ins C dx (putF "served" (.ref D5) f5)) = G6 at I6 N6 ⊢
    generalize ef6 : putF "served" (.ref D5) f5 = f6 at I6 ⊢
    have hS6 := (hA.kt I6.k).sq (K := K)
    refine ⟨_, rfl, p, rfl, ⟨_, hS6⟩, fun D6 nD6 => ?_⟩
    refine lc_tup (K := K) (a := p) (xs := us.map oV) (fun i H' => NL H G6 H' x us.length _ ad6' (fun j => .lr j) D6 i) (NL.zero N6 nD6) (fun i H' _ h => h.1.sqT hS6) (fun i z H' hz h => ?_) (fun H' h => ?_)
    · have hi := (List.getElem?_eq_some_iff.mp hz).1
      refine ⟨rfl, tyes ⟨Nat.zero_le _, fun q nq => ?_⟩⟩
      have kq := K0.new nq (o := .lst [])
      have hs := h.step (o := .lst []) I6.k nD6 ⟨_, h.1.oth x _ I6.x (fun _ w => by cases w)⟩ nq (fun ad j => rfl) (fun j k e => by cases e; rfl) (fun j z => by simp at z) (fun ad q j t ht => by cases t <;> first | rfl | (simp [node, adN, HS.ini]; done) | (exfalso; simp at ht; done))
      exact ⟨_, kq.oth D6 _ hs.2 (fun _ w => by cases w), Nat.lt_of_le_of_lt (m := 5000) (by rw [List.length_map, List.length_range]; omega) (by decide), hs.1⟩
    rw [hl0] at h
    obtain ⟨k6', ad7', M6, ae6, at6⟩ := h.done (tD := .l) I6.k nD6 ⟨_, I6.x⟩ (fun ad => rfl) (fun j e => by cases e) (fun z => by simp at z) (fun ad q t => by cases t <;> first | rfl | (simp [node, adN, HS.ini]; done))
    refine ⟨_, rfl, x, C, dx, f6, rfl, k6'.oth x _ I6.x (fun _ w => by cases w), hC.c, cn _ (by simp), Nat.lt_of_le_of_lt I6.l (by decide), ?_⟩
    have I7 := I6.put k6' "letter_rows" (.ref D6) (by decide)
    have N7 := M6.setx (.ins C dx (putF "letter_rows" (.ref D6) f6))
    generalize upd H' x (.ins C dx (putF "letter_rows" (.ref D6) f6)) = G7 at I7 N7 ⊢
    generalize ef7 : putF "letter_rows" (.ref D6) f6 = f7 at I7 ⊢
    have hS7 := (hA.kt I7.k).sq (K := K)
    refine ⟨_, rfl, p, rfl, ⟨_, hS7⟩, fun D7 nD7 => ?_⟩
    refine lc_tup (K := K) (a := p) (xs := us.map oV) (fun i H' => NL H G7 H' x us.length _ ad7' (fun j => .cr j) D7 i) (NL.zero N7 nD7) (fun i H' _ h => h.1.sqT hS7) (fun i z H' hz h => ?_) (fun H' h => ?_)
    · have hi := (List.getElem?_eq_some_iff.mp hz).1
      refine ⟨rfl, tyes ⟨Nat.zero_le _, fun q nq => ?_⟩⟩
      have kq := K0.new nq (o := .lst [])
      have hs := h.step (o := .lst []) I7.k nD7 ⟨_, h.1.oth x _ I7.x (fun _ w => by cases w)⟩ nq (fun ad j => rfl) (fun j k e => by cases e; rfl) (fun j z => by simp at z) (fun ad q j t ht => by cases t <;> first | rfl | (simp [node, adN, HS.ini]; done) | (exfalso; simp at ht; done))
      exact ⟨_, kq.oth D7 _ hs.2 (fun _ w => by cases w), Nat.lt_of_le_of_lt (m := 5000) (by rw [List.length_map, List.length_range]; omega) (by decide), hs.1⟩
    rw [hl0] at h
    obtain ⟨k7', ad8', M7, ae7, at7⟩ := h.done (tD := .p) I7.k nD7 ⟨_, I7.x⟩ (fun ad => rfl) (fun j e => by cases e) (fun z => by simp at z) (fun ad q t => by cases t <;> first | rfl | (simp [node, adN, HS.ini]; done))
    refine ⟨_, rfl, x, C, dx, f7, rfl, k7'.oth x _ I7.x (fun _ w => by cases w), hC.c, cn _ (by simp), Nat.lt_of_le_of_lt I7.l (by decide), ?_⟩
    have I8 := I7.put k7' "copy_rows" (.ref D7) (by decide)
    have N8 := M7.setx (.ins C dx (putF "copy_rows" (.ref D7) f7))
    generalize upd H' x (.ins C dx (putF "copy_rows" (.ref D7) f7)) = G8 at I8 N8 ⊢
    generalize ef8 : putF "copy_rows" (.ref D7) f7 = f8 at I8 ⊢
    have hS8 := (hA.kt I8.k).sq (K := K)
    refine ⟨_, rfl, p, rfl, ⟨_, hS8⟩, fun D8 nD8 => ?_⟩
    refine lc_tup (K := K) (a := p) (xs := us.map oV) (fun i H' => NL H G8 H' x us.length _ ad8' (fun j => .sl j) D8 i) (NL.zero N8 nD8) (fun i H' _ h => h.1.sqT hS8) (fun i z H' hz h => ?_) (fun H' h => ?_)
    · have hi := (List.getElem?_eq_some_iff.mp hz).1
      refine ⟨rfl, tyes ⟨Nat.zero_le _, fun q nq => ?_⟩⟩
      have kq := K0.new nq (o := .lst [])
      have hs := h.step (o := .lst []) I8.k nD8 ⟨_, h.1.oth x _ I8.x (fun _ w => by cases w)⟩ nq (fun ad j => rfl) (fun j k e => by cases e; rfl) (fun j z => by simp at z) (fun ad q j t ht => by cases t <;> first | rfl | (simp [node, adN, HS.ini]; done) | (exfalso; simp at ht; done))
      exact ⟨_, kq.oth D8 _ hs.2 (fun _ w => by cases w), Nat.lt_of_le_of_lt (m := 5000) (by rw [List.length_map, List.length_range]; omega) (by decide), hs.1⟩
    rw [hl0] at h
    obtain ⟨k8', ad9', M8, ae8, at8⟩ := h.done (tD := .t) I8.k nD8 ⟨_, I8.x⟩ (fun ad => rfl) (fun j e => by cases e) (fun z => by simp at z) (fun ad q t => by cases t <;> first | rfl | (simp [node, adN, HS.ini]; done))
    refine ⟨_, rfl, x, C, dx, f8, rfl, k8'.oth x _ I8.x (fun _ w => by cases w), hC.c, cn _ (by simp), Nat.lt_of_le_of_lt I8.l (by decide), ?_⟩
    have I9 := I8.put k8' "stay_lists" (.ref D8) (by decide)
    have N9 := M8.setx (.ins C dx (putF "stay_lists" (.ref D8) f8))
    generalize upd H' x (.ins C dx (putF "stay_lists" (.ref D8) f8)) = G9 at I9 N9 ⊢
    generalize ef9 : putF "stay_lists" (.ref D8) f8 = f9 at I9 ⊢
    refine ⟨_, rfl, x, C, dx, f9, rfl, I9.x, hC.c, cn _ (by simp), Nat.lt_of_le_of_lt I9.l (by decide), ?_⟩
    have I10 := I9.put (K0.refl _) "emitted" (.int 0) (by decide)
    have N10 := N9.setx (.ins C dx (putF "emitted" (.int 0) f9))
    generalize upd G9 x (.ins C dx (putF "emitted" (.int 0) f9)) = G10 at I10 N10 ⊢
    generalize ef10 : putF "emitted" (.int 0) f9 = f10 at I10 ⊢
    refine ⟨_, rfl, x, C, dx, f10, rfl, I10.x, hC.c, cn _ (by simp), Nat.lt_of_le_of_lt I10.l (by decide), ?_⟩
    have I11 := I10.put (K0.refl _) "letter_sum" (.int 0) (by decide)
    have N11 := N10.setx (.ins C dx (putF "letter_sum" (.int 0) f10))
    generalize upd G10 x (.ins C dx (putF "letter_sum" (.int 0) f10)) = G11 at I11 N11 ⊢
    generalize ef11 : putF "letter_sum" (.int 0) f10 = f11 at I11 ⊢
    refine ⟨_, rfl, x, C, dx, f11, rfl, I11.x, hC.c, cn _ (by simp), Nat.lt_of_le_of_lt I11.l (by decide), ?_⟩
    have I12 := I11.put (K0.refl _) "copy_sum" (.int 0) (by decide)
    have N12 := N11.setx (.ins C dx (putF "copy_sum" (.int 0) f11))
    generalize upd G11 x (.ins C dx (putF "copy_sum" (.int 0) f11)) = G12 at I12 N12 ⊢
    generalize ef12 : putF "copy_sum" (.int 0) f11 = f12 at I12 ⊢
    have eh : ad9' .h = D3 := by rw [ae8 _ (by simp), ae7 _ (by simp), ae6 _ (by simp), ae5 _ (by simp), adN_ne (fun z => by cases z), adN_same]
    have ec : ad9' .c = D4 := by rw [ae8 _ (by simp), ae7 _ (by simp), ae6 _ (by simp), ae5 _ (by simp), adN_same]
    have es : ad9' .s = D5 := by rw [ae8 _ (by simp), ae7 _ (by simp), ae6 _ (by simp), at5]
    have el : ad9' .l = D6 := by rw [ae8 _ (by simp), ae7 _ (by simp), at6]
    have ep : ad9' .p = D7 := by rw [ae8 _ (by simp), at7]
    have lk : HFs f12 p (r : Int) true ad9' HS.ini := by
      refine ⟨?_, ?_, ?_, ?_, ?_, ?_, ?_, ?_, ?_, ?_, ?_, ?_, I12.o, Nat.le_trans I12.l (by decide)⟩
      all_goals (try rw [eh]); (try rw [ec]); (try rw [es]); (try rw [el]); (try rw [ep]); (try rw [at8])
      all_goals (subst ef12 ef11 ef10 ef9 ef8 ef7 ef6 ef5 ef4 ef3 ef2 ef1)
      all_goals (repeat (first | rw [lookup_putF, if_pos rfl] | rw [lookup_putF, if_neg (by decide)]))
      all_goals first | rfl | skip
    have al : ∀ t, alive us.length HS.ini t → _ := fun t ht => (N12.dn (dn' := alive us.length HS.ini) (fun t ht => by
      cases t with
      | sy a b => exact absurd ht.2 (Nat.not_lt_zero b)
      | sd a => exact .inl (.inl (.inl (.inr (.inl ⟨a, ht, rfl⟩))))
      | lr a => exact .inl (.inl (.inr (.inl ⟨a, ht, rfl⟩)))
      | cr a => exact .inl (.inr (.inl ⟨a, ht, rfl⟩))
      | sl a => exact .inr (.inl ⟨a, ht, rfl⟩)
      | _ => simp)).nd t ht
    have NN := N12.dn (dn' := alive us.length HS.ini) (fun t ht => by
      cases t with
      | sy a b => exact absurd ht.2 (Nat.not_lt_zero b)
      | sd a => exact .inl (.inl (.inl (.inr (.inl ⟨a, ht, rfl⟩))))
      | lr a => exact .inl (.inl (.inr (.inl ⟨a, ht, rfl⟩)))
      | cr a => exact .inl (.inr (.inl ⟨a, ht, rfl⟩))
      | sl a => exact .inr (.inl ⟨a, ht, rfl⟩)
      | _ => simp)
    refine q (foot us.length ad9' HS.ini x) G12 I12.k ⟨dx, f12, ad9', nil0, nil0, I12.x, I12.k.sqT (hA.sq (K := K)), lk, ⟨NN.nd, NN.inj, fun i hi => ⟨rfl, fun j a v e => by cases e⟩, fun i hi => ⟨rfl, fun j a v e => by cases e⟩⟩, fun b => Iff.rfl⟩ (fun b hb => ?_)
    rcases hb with rfl | ⟨t, ht, rfl⟩
    · exact .inl rfl
    · exact .inr (NN.nH t ht)
end
end HK

set_option Elab.async false
set_option linter.all false
set_option maxRecDepth 100000
set_option maxHeartbeats 4000000
namespace HK
open PySem PySem.Spec PyProof.Rows L2
/-! ### what holds of a Hearing behind m deeds -/
/-- letters alternate: from whether the place is served to whether it is needed -/
def Alt (s : Bool) : List (Bool × Int) → Bool → Prop
  | [], e => s = e
  | (b, _) :: rest, e => b = !s ∧ Alt b rest e
theorem Alt.snoc : ∀ {ls : List (Bool × Int)} {s e b : Bool} {c : Int}, Alt s ls e → b = !e → Alt s (ls ++ [(b, c)]) b
  | [], s, e, b, c, h, hb => ⟨by rw [hb, show s = e from h], rfl⟩
  | (a, _) :: ls, s, e, b, c, h, hb => ⟨h.1, h.2.snoc hb⟩
def keysS (S : HS) (j : Nat) : List Int := (S.served j).map (·.1)
structure HInvB (us : List (Option Int)) (r : Nat) (S : HS) (m : Nat) (e : Nat → Bool) : Prop where
  st : ∀ i, S.hears i = true → S.stays i ≠ []
  ks : ∀ j, ∀ q ∈ S.served j, ∃ k : Nat, q.1 = (k : Int) ∧ k < us.length ∧ us[k]? = some (some (j : Int))
  nd : ∀ j, (keysS S j).Nodup
  ll : ∀ i, (S.letters i).length ≤ m
  sl : ∀ i, (S.stays i).length ≤ m
  sn : ∀ i, ∀ l ∈ S.stays i, l.length ≤ m
  sv : ∀ i, (S.served i).length ≤ m
  cl : ∀ i, (S.copies i).length ≤ m * m
  alt : ∀ (i j : Nat), us[i]? = some (some (j : Int)) → Alt (decide ((i : Int) ∈ keysS S j)) (S.letters i) (e i)
  hr : us[r]? = some none
  rl : S.letters r = []
  rc : S.copies r = []
def HInv (us : List (Option Int)) (r : Nat) (S : HS) (m : Nat) : Prop := HInvB us r S m (needS S)
variable {r : Nat}
theorem HInv.ini {us : List (Option Int)} (hr : us[r]? = some none) : HInv us r HS.ini 0 :=
  ⟨fun i h => (Bool.false_ne_true h).elim, fun j q h => (List.not_mem_nil h).elim, fun j => List.nodup_nil, fun i => Nat.le_refl _, fun i => Nat.le_refl _, fun i l h => (List.not_mem_nil h).elim, fun i => Nat.le_refl _, fun i => Nat.le_refl _, fun i j _ => by
    show decide ((i : Int) ∈ keysS HS.ini j) = needS HS.ini i
    exact decide_eq_false List.not_mem_nil, hr, rfl, rfl⟩
theorem HInvB.mono {us : List (Option Int)} {S : HS} {m m' : Nat} {e : Nat → Bool} (h : HInvB us r S m e) (hm : m ≤ m') : HInvB us r S m' e :=
  ⟨h.st, h.ks, h.nd, fun i => Nat.le_trans (h.ll i) hm, fun i => Nat.le_trans (h.sl i) hm, fun i l hl => Nat.le_trans (h.sn i l hl) hm, fun i => Nat.le_trans (h.sv i) hm, fun i => Nat.le_trans (h.cl i) (Nat.mul_le_mul hm hm), h.alt, h.hr, h.rl, h.rc⟩
theorem needS_tell {S : HS} {r : Int} {i : Nat} {b : Bool} (k : Nat) : needS (tellS S r i b) k = needS S k := by
  unfold tellS
  split <;> rfl
/-- a letter behind a change of one place -/
theorem HInvB.tell {us : List (Option Int)} {S : HS} {m : Nat} {e : Nat → Bool} {i : Nat} (h : HInvB us r S m e) (he : ∀ k, k ≠ i → e k = needS S k) : HInv us r (tellS S (r : Int) i (e i)) (m + 1) := by
  have h1 := h.mono (Nat.le_succ m)
  by_cases hc : (i : Int) = (r : Int) ∨ needS S i = e i
  · have e1 : tellS S (r : Int) i (e i) = S := by unfold tellS; rw [if_pos hc]
    rw [e1]
    refine ⟨h1.st, h1.ks, h1.nd, h1.ll, h1.sl, h1.sn, h1.sv, h1.cl, fun k j hk => ?_, h1.hr, h1.rl, h1.rc⟩
    have a := h1.alt k j hk
    by_cases z : k = i
    · subst z
      rcases hc with z | z
      · rw [Int.ofNat.inj z, h.hr] at hk
        cases hk
      · rw [← z] at a; exact a
    · rw [he k z] at a; exact a
  · have e1 : tellS S (r : Int) i (e i) = { S with counts := if needS S i = true then fup S.counts i (S.counts i + 1) else S.counts, letters := fup S.letters i (S.letters i ++ [(needS S i, if needS S i = true then S.counts i + 1 else S.counts i)]), lsum := S.lsum + 1 } := by
      unfold tellS; rw [if_neg hc]
    have e2 : ∀ k, needS (tellS S (r : Int) i (e i)) k = needS S k := needS_tell
    rw [e1] at e2 ⊢
    refine ⟨h1.st, h1.ks, h1.nd, fun k => ?_, h1.sl, h1.sn, h1.sv, h1.cl, fun k j hk => ?_, h1.hr, (by
      show fup S.letters i _ r = []
      rw [fup_ne (fun z => hc (.inl (by rw [z])))]
      exact h1.rl), h1.rc⟩
    · show (fup S.letters i _ k).length ≤ _
      by_cases z : k = i
      · subst z
        rw [fup_same, List.length_append]
        have := h.ll k
        show _ + 1 ≤ _
        omega
      · rw [fup_ne z]; exact h1.ll k
    · rw [e2]
      show Alt (decide ((k : Int) ∈ keysS S j)) (fup S.letters i _ k) _
      have a := h1.alt k j hk
      by_cases z : k = i
      · subst z
        rw [fup_same]
        refine a.snoc ?_
        have : needS S k ≠ e k := fun y => hc (.inr y)
        revert this
        cases needS S k <;> cases e k <;> simp
      · rw [fup_ne z]
        rw [he k z] at a
        exact a
theorem HInv.come {us : List (Option Int)} {S : HS} {m i : Nat} (h : HInv us r S m) : HInv us r (comeS S (r : Int) i) (m + 2) := by
  unfold comeS
  have hS : HInvB us r { S with hears := fup S.hears i true, stays := fup S.stays i (S.stays i ++ [[]]) } (m + 1) (needS S) := by
    have h1 := h.mono (Nat.le_succ m)
    refine ⟨fun k hk => ?_, h1.ks, h1.nd, h1.ll, fun k => ?_, fun k l hl => ?_, h1.sv, h1.cl, h1.alt, h1.hr, h1.rl, h1.rc⟩
    · show fup S.stays i _ k ≠ []
      by_cases z : k = i
      · subst z; rw [fup_same]; simp
      · rw [fup_ne z]
        refine h.st k ?_
        have hk2 : fup S.hears i true k = true := hk
        rw [fup_ne z] at hk2
        exact hk2
    · show (fup S.stays i _ k).length ≤ _
      by_cases z : k = i
      · subst z
        rw [fup_same, List.length_append]
        have := h.sl k
        show _ + 1 ≤ _
        omega
      · rw [fup_ne z]; exact h1.sl k
    · have hl2 : l ∈ fup S.stays i (S.stays i ++ [[]]) k := hl
      by_cases z : k = i
      · subst z
        rw [fup_same] at hl2
        rcases List.mem_append.mp hl2 with y | y
        · exact h1.sn k l y
        · rw [List.mem_singleton.mp y]; exact Nat.zero_le _
      · rw [fup_ne z] at hl2
        exact h1.sn k l hl2
  refine hS.tell fun k z => ?_
  show needS S k = (fup S.hears i true k || _)
  rw [fup_ne z]
  rfl
theorem HInv.go {us : List (Option Int)} {S : HS} {m i : Nat} (h : HInv us r S m) (hi : S.hears i = true) : HInv us r (goS S (r : Int) i) (m + 2) := by
  have hn : needS S i = true := by unfold needS; rw [hi]; rfl
  unfold goS
  have hS : HInvB us r { S with hears := fup S.hears i false } (m + 1) (needS S) := by
    have h1 := h.mono (Nat.le_succ m)
    refine ⟨fun k hk => ?_, h1.ks, h1.nd, h1.ll, h1.sl, h1.sn, h1.sv, h1.cl, h1.alt, h1.hr, h1.rl, h1.rc⟩
    have hk2 : fup S.hears i false k = true := hk
    by_cases z : k = i
    · subst z; rw [fup_same] at hk2; cases hk2
    · rw [fup_ne z] at hk2
      exact h.st k hk2
  have t := hS.tell (i := i) fun k z => by
    show needS S k = (fup S.hears i false k || _)
    rw [fup_ne z]
    rfl
  rw [hn] at t
  exact t
/-- a letter is taken: what letters alternate tells -/
theorem HInv.first {us : List (Option Int)} {S : HS} {m i j : Nat} {b : Bool} {c : Int} {rest : List (Bool × Int)} (h : HInv us r S m) (hij : us[i]? = some (some (j : Int))) (hl : S.letters i = (b, c) :: rest) : b = true ↔ (i : Int) ∉ (S.served j).map (·.1) := by
  have a := h.alt i j hij
  rw [hl] at a
  have e := a.1
  rw [e]
  by_cases z : (i : Int) ∈ keysS S j
  · rw [decide_eq_true z]
    exact ⟨fun y => Bool.noConfusion y, fun y => absurd z y⟩
  · rw [decide_eq_false z]
    exact ⟨fun _ => z, fun _ => rfl⟩
theorem mem_dropI {l : List (Int × Int)} {k : Int} {q : Int × Int} : q ∈ dropI l k ↔ q ∈ l ∧ q.1 ≠ k := by
  unfold dropI
  rw [List.mem_filter]
  exact and_congr Iff.rfl ⟨fun z => of_decide_eq_true z, fun z => decide_eq_true z⟩
theorem HInv.take {us : List (Option Int)} {S : HS} {m i j : Nat} {b : Bool} {c : Int} {rest : List (Bool × Int)} (h : HInv us r S m) (hi : i < us.length) (hij : us[i]? = some (some (j : Int))) (hl : S.letters i = (b, c) :: rest) : HInv us r (tletS S (r : Int) j i b c rest) (m + 2) := by
  have hf := h.first hij hl
  unfold tletS
  have km : ∀ k : Int, k ∈ keysS (tkS S j i b c rest) j ↔ (if b = true then k ∈ keysS S j ∨ k = i else k ∈ keysS S j ∧ k ≠ i) := fun k => by
    have e : keysS (tkS S j i b c rest) j = (if b = true then S.served j ++ [((i : Int), c)] else dropI (S.served j) i).map (·.1) := by
      show (fup S.served j _ j).map (·.1) = _
      rw [fup_same]
    rw [e]
    cases b with
    | true =>
      rw [if_pos rfl, if_pos rfl, List.map_append, List.mem_append]
      exact or_congr Iff.rfl List.mem_singleton
    | false =>
      rw [if_neg Bool.false_ne_true, if_neg Bool.false_ne_true]
      constructor
      · intro z
        obtain ⟨q, hq, e⟩ := List.mem_map.mp z
        obtain ⟨y1, y2⟩ := mem_dropI.mp hq
        exact ⟨List.mem_map.mpr ⟨q, y1, e⟩, by rw [← e]; exact y2⟩
      · intro z
        obtain ⟨q, hq, e⟩ := List.mem_map.mp z.1
        exact List.mem_map.mpr ⟨q, mem_dropI.mpr ⟨hq, by rw [e]; exact z.2⟩, e⟩
  have ko : ∀ k, k ≠ j → (tkS S j i b c rest).served k = S.served k := fun k z => by
    show fup S.served j _ k = _
    rw [fup_ne z]
  have kj : (tkS S j i b c rest).served j = if b = true then S.served j ++ [((i : Int), c)] else dropI (S.served j) i := by
    show fup S.served j _ j = _
    rw [fup_same]
  have h1 := h.mono (Nat.le_succ m)
  have hS : HInvB us r (tkS S j i b c rest) (m + 1) (needS S) := by
    refine ⟨h1.st, fun k q hq => ?_, fun k => ?_, fun k => ?_, h1.sl, h1.sn, fun k => ?_, h1.cl, fun k j' hk => ?_, h1.hr, (by
      show fup S.letters i rest r = []
      rw [fup_ne (fun z => by rw [← z, h.hr] at hij; cases hij)]
      exact h.rl), h1.rc⟩
    · by_cases z : k = j
      · subst z
        rw [kj] at hq
        cases b with
        | true =>
          rw [if_pos rfl] at hq
          rcases List.mem_append.mp hq with y | y
          · exact h.ks k q y
          · rw [List.mem_singleton.mp y]
            exact ⟨i, rfl, hi, hij⟩
        | false =>
          rw [if_neg Bool.false_ne_true] at hq
          exact h.ks k q (mem_dropI.mp hq).1
      · rw [ko k z] at hq
        exact h.ks k q hq
    · unfold keysS
      by_cases z : k = j
      · subst z
        rw [kj]
        cases b with
        | true =>
          rw [if_pos rfl, List.map_append]
          refine List.nodup_append.mpr ⟨h.nd k, by simp, fun a ha b' hb e => ?_⟩
          rw [List.mem_singleton.mp hb] at e
          have e' : a = (i : Int) := e
          rw [e'] at ha
          exact hf.mp rfl ha
        | false =>
          rw [if_neg Bool.false_ne_true]
          exact (h.nd k).sublist (List.filter_sublist.map _)
      · rw [ko k z]
        exact h.nd k
    · show (fup S.letters i rest k).length ≤ _
      by_cases z : k = i
      · subst z
        rw [fup_same]
        have := h1.ll k
        rw [hl] at this
        exact Nat.le_trans (Nat.le_succ _) this
      · rw [fup_ne z]; exact h1.ll k
    · by_cases z : k = j
      · subst z
        rw [kj]
        have := h.sv k
        cases b with
        | true =>
          rw [if_pos rfl, List.length_append]
          show _ + 1 ≤ _
          omega
        | false =>
          rw [if_neg Bool.false_ne_true]
          exact Nat.le_trans (List.length_filter_le _ _) (h1.sv k)
      · rw [ko k z]; exact h1.sv k
    · have a := h.alt k j' hk
      show Alt _ (fup S.letters i rest k) _
      by_cases z : k = i
      · subst z
        rw [hij] at hk
        cases hk
        rw [fup_same]
        rw [hl] at a
        have e : decide ((k : Int) ∈ keysS (tkS S j k b c rest) j) = b := by
          cases b with
          | true =>
            refine decide_eq_true ((km _).mpr ?_)
            rw [if_pos rfl]; exact .inr rfl
          | false =>
            refine decide_eq_false fun y => ?_
            have := (km _).mp y
            rw [if_neg Bool.false_ne_true] at this
            exact this.2 rfl
        rw [e]
        exact a.2
      · rw [fup_ne z]
        have e : decide ((k : Int) ∈ keysS (tkS S j i b c rest) j') = decide ((k : Int) ∈ keysS S j') := by
          by_cases y : j' = j
          · subst y
            refine decide_eq_decide.mpr ((km _).trans ?_)
            have ki : (k : Int) ≠ i := fun w => z (Int.ofNat.inj w)
            cases b with
            | true => rw [if_pos rfl]; exact ⟨fun w => w.resolve_right ki, .inl⟩
            | false => rw [if_neg Bool.false_ne_true]; exact ⟨fun w => w.1, fun w => ⟨w, ki⟩⟩
          · unfold keysS
            rw [ko j' y]
        rw [e]
        exact a
  refine hS.tell fun k z => ?_
  unfold needS
  rw [ko k z]
  rfl
/-- copies put down -/
theorem copyTo_all {num : Int} : ∀ (l : List (Int × Int)) (S : HS), (l.foldl (copyTo num) S).hears = S.hears ∧ (l.foldl (copyTo num) S).counts = S.counts ∧ (l.foldl (copyTo num) S).served = S.served ∧ (l.foldl (copyTo num) S).letters = S.letters ∧ (l.foldl (copyTo num) S).stays = S.stays ∧ ∀ k, ((l.foldl (copyTo num) S).copies k).length ≤ (S.copies k).length + l.length
  | [], S => ⟨rfl, rfl, rfl, rfl, rfl, fun _ => Nat.le_refl _⟩
  | q :: l, S => by
    obtain ⟨a1, a2, a3, a4, a5, a6⟩ := copyTo_all (num := num) l (copyTo num S q)
    refine ⟨a1, a2, a3, a4, a5, fun k => ?_⟩
    have h2 : ((copyTo num S q).copies k).length ≤ (S.copies k).length + 1 := by
      show (fup S.copies q.1.toNat _ k).length ≤ _
      by_cases e : k = q.1.toNat
      · rw [e, fup_same, List.length_append]; exact Nat.le_refl _
      · rw [fup_ne e]; omega
    have := a6 k
    rw [List.foldl_cons, List.length_cons]
    omega
theorem hearNum_all {S : HS} {i : Nat} {num : Int} : (hearNum S i num).hears = S.hears ∧ (hearNum S i num).counts = S.counts ∧ (hearNum S i num).served = S.served ∧ (hearNum S i num).letters = S.letters ∧ (hearNum S i num).copies = S.copies := by
  unfold hearNum
  split <;> exact ⟨rfl, rfl, rfl, rfl, rfl⟩
theorem HInv.num {us : List (Option Int)} {S : HS} {m i : Nat} {num : Int} (h : HInv us r S m) : HInv us r (takeNumS S i num) (m + 1) := by
  obtain ⟨a1, a2, a3, a4, a5, a6⟩ := copyTo_all (num := num) (S.served i) (hearNum S i num)
  obtain ⟨b1, b2, b3, b4, b5⟩ := hearNum_all (S := S) (i := i) (num := num)
  have c1 : (takeNumS S i num).hears = S.hears := a1.trans b1
  have c3 : (takeNumS S i num).served = S.served := a3.trans b3
  have c4 : (takeNumS S i num).letters = S.letters := a4.trans b4
  have c5 : (takeNumS S i num).stays = (hearNum S i num).stays := a5
  have h1 := h.mono (Nat.le_succ m)
  -- the stays
  have s1 : ∀ k, ((takeNumS S i num).stays k).length = (S.stays k).length := fun k => by
    rw [c5]
    unfold hearNum
    by_cases hh : S.hears i = true
    · rw [if_pos hh]
      show (fup S.stays i _ k).length = _
      by_cases z : k = i
      · subst z
        rw [fup_same, List.length_append, List.length_dropLast]
        have := List.length_pos_iff.mpr (h.st k hh)
        show _ - 1 + 1 = _
        omega
      · rw [fup_ne z]
    · rw [if_neg hh]
  have s2 : ∀ k, ∀ l ∈ (takeNumS S i num).stays k, l.length ≤ m + 1 := fun k l hl => by
    rw [c5] at hl
    unfold hearNum at hl
    by_cases hh : S.hears i = true
    · rw [if_pos hh] at hl
      have hl2 : l ∈ fup S.stays i ((S.stays i).dropLast ++ [((S.stays i).getLast?.getD []) ++ [num]]) k := hl
      by_cases z : k = i
      · subst z
        rw [fup_same] at hl2
        rcases List.mem_append.mp hl2 with y | y
        · exact h1.sn k l ((List.dropLast_sublist _).subset y)
        · rw [List.mem_singleton.mp y, List.length_append]
          have hne := h.st k hh
          have e : (S.stays k).getLast?.getD [] = (S.stays k).getLast hne := by rw [List.getLast?_eq_some_getLast hne]; rfl
          rw [e]
          have := h.sn k _ (List.getLast_mem hne)
          show _ + 1 ≤ _
          omega
      · rw [fup_ne z] at hl2
        exact h1.sn k l hl2
    · rw [if_neg hh] at hl
      exact h1.sn k l hl
  have nS : ∀ k, needS (takeNumS S i num) k = needS S k := fun k => by unfold needS; rw [c1, c3]
  refine ⟨fun k hk => ?_, fun k => ?_, fun k => ?_, fun k => ?_, fun k => ?_, s2, fun k => ?_, fun k => ?_, fun k j hk => ?_, h.hr, by rw [c4]; exact h.rl, ?_⟩
  · rw [c1] at hk
    intro z
    have := s1 k
    rw [z] at this
    exact h.st k hk (List.length_eq_zero_iff.mp this.symm)
  · rw [c3]; exact h.ks k
  · unfold keysS; rw [c3]; exact h.nd k
  · rw [c4]; exact h1.ll k
  · rw [s1]; exact h1.sl k
  · rw [c3]; exact h1.sv k
  · have x1 : ((takeNumS S i num).copies k).length ≤ ((hearNum S i num).copies k).length + (S.served i).length := a6 k
    rw [b5] at x1
    have x2 := h.cl k
    have x3 := h.sv i
    have x4 : (m + 1) * (m + 1) = m * m + m + (m + 1) := by rw [Nat.add_mul, Nat.mul_add, Nat.mul_one, Nat.one_mul]
    omega
  · have a := h.alt k j hk
    rw [nS, c4]
    unfold keysS
    rw [c3]
    exact a
  · have e : ∀ (l : List (Int × Int)), (∀ q ∈ l, q.1.toNat ≠ r) → ∀ S0 : HS, (l.foldl (copyTo num) S0).copies r = S0.copies r := fun l => by
      induction l with
      | nil => exact fun _ _ => rfl
      | cons q l ih =>
        intro hq S0
        rw [List.foldl_cons, ih (fun p hp => hq p (List.mem_cons_of_mem _ hp))]
        show fup S0.copies q.1.toNat _ r = _
        rw [fup_ne (fun z => hq q (List.mem_cons_self ..) z.symm)]
    show ((S.served i).foldl (copyTo num) (hearNum S i num)).copies r = []
    rw [e _ (fun q hq z => ?_), b5]
    · exact h.rc
    · obtain ⟨k, e1, hk, hku⟩ := h.ks i q hq
      rw [e1] at z
      have z2 : k = r := z
      rw [z2, h.hr] at hku
      cases hku
theorem HInv.emit {us : List (Option Int)} {S : HS} {m i : Nat} (h : HInv us r S m) : HInv us r (emitS S i) (m + 2) := by
  have h0 : HInv us r { S with emitted := S.emitted + 1 } m := ⟨h.st, h.ks, h.nd, h.ll, h.sl, h.sn, h.sv, h.cl, h.alt, h.hr, h.rl, h.rc⟩
  exact (h0.num (i := i) (num := S.emitted)).mono (Nat.le_succ _)
theorem HInv.got {us : List (Option Int)} {S : HS} {m i : Nat} {cnt : Bool} {num c : Int} {rest : List (Int × Int)} (h : HInv us r S m) (hc : S.copies i = (num, c) :: rest) : HInv us r (gotS S cnt i num c rest) (m + 2) := by
  have h0 : HInv us r { S with copies := fup S.copies i rest } m := ⟨h.st, h.ks, h.nd, h.ll, h.sl, h.sn, h.sv, fun k => by
    show (fup S.copies i rest k).length ≤ _
    by_cases z : k = i
    · subst z
      rw [fup_same]
      have := h.cl k
      rw [hc] at this
      exact Nat.le_trans (Nat.le_succ _) this
    · rw [fup_ne z]; exact h.cl k, h.alt, h.hr, h.rl, (by
    show fup S.copies i rest r = []
    by_cases z : r = i
    · subst z
      have := h.rc
      rw [hc] at this
      cases this
    · rw [fup_ne z]; exact h.rc)⟩
  unfold gotS
  split
  · exact (h0.num (i := i) (num := num)).mono (Nat.le_succ _)
  · exact h0.mono (by omega)
/-- what fits behind few deeds -/
theorem HInv.numOk {us : List (Option Int)} {S : HS} {m i : Nat} (h : HInv us r S m) (hm : m ≤ 700) : NumOk us.length S i := by
  have mm : m * m ≤ 490000 := Nat.mul_le_mul hm hm
  refine ⟨fun hh => ⟨h.st i hh, ?_⟩, fun q hq => ?_, fun j _ => ?_, by have := h.sl i; omega⟩
  · have hne := h.st i hh
    rw [List.getLast?_eq_some_getLast hne]
    have := h.sn i _ (List.getLast_mem hne)
    show List.length (List.getLast _ hne) < _
    omega
  · obtain ⟨k, e, hk, _⟩ := h.ks i q hq
    rw [e]
    exact ⟨by omega, by omega⟩
  · have := h.cl j
    have := h.sv i
    omega
end HK

set_option Elab.async false
set_option linter.all false
set_option maxRecDepth 100000
set_option maxHeartbeats 4000000
namespace HK
open PySem PySem.Spec PyProof.Rows L2
/-- deeds that may be done -/
def Legal (us : List (Option Int)) (S : HS) : Deed → Prop
  | .emit => True
  | .pl .come i => i < us.length ∧ S.hears i = false
  | .pl .go i => i < us.length ∧ S.hears i = true
  | .pl .up i => i < us.length ∧ S.letters i ≠ []
  | .pl .down i => i < us.length ∧ S.copies i ≠ []
theorem ways_up {us : List (Option Int)} (hW : Ways us) {r i : Nat} (hr : us[r]? = some none) (hi : i < us.length) (ne : i ≠ r) : ∃ j : Nat, j < us.length ∧ us[i]? = some (some (j : Int)) := by
  obtain ⟨r0, h0, h1⟩ := hW.one
  have er := h1 r hr
  cases e : us[i]? with
  | none => rw [List.getElem?_eq_getElem hi] at e; cases e
  | some o =>
    cases o with
    | none => exact absurd ((h1 i e).trans er.symm) ne
    | some v =>
      obtain ⟨v0, v1⟩ := hW.rng v (List.mem_of_getElem? e)
      obtain ⟨j, rfl⟩ := Int.eq_ofNat_of_zero_le v0
      exact ⟨j, by omega, rfl⟩
theorem HInv.can {us : List (Option Int)} {r : Nat} {S : HS} {m : Nat} {cnt : Bool} (h : HInv us r S m) (hW : Ways us) (hm : m ≤ 700) : ∀ {e : Deed}, Legal us S e → CanDo us (r : Int) S e ∧ HInv us r (doS us (r : Int) cnt S e) (m + 2)
  | .emit, _ => by
    have hrl : r < us.length := (List.getElem?_eq_some_iff.mp h.hr).1
    refine ⟨⟨r, rfl, hrl, h.numOk hm⟩, ?_⟩
    exact h.emit
  | .pl .come i, hl => ⟨⟨hl.1, hl.2, by have := h.ll i; omega, by have := h.sl i; omega⟩, h.come⟩
  | .pl .go i, hl => ⟨⟨hl.1, hl.2, by have := h.ll i; omega⟩, h.go hl.2⟩
  | .pl .up i, hl => by
    have ne : i ≠ r := fun z => hl.2 (by rw [z]; exact h.rl)
    obtain ⟨j, hj, hij⟩ := ways_up hW h.hr hl.1 ne
    cases el : S.letters i with
    | nil => exact absurd el hl.2
    | cons q rest =>
      obtain ⟨b, c⟩ := q
      refine ⟨⟨hl.1, fun z => ne (Int.ofNat.inj z), j, b, c, rest, hj, hij, el, by have := h.ll j; omega, by have := h.sv j; omega, h.first hij el⟩, ?_⟩
      have e : doS us (r : Int) cnt S (.pl .up i) = tletS S (r : Int) j i b c rest := by
        show (match S.letters i, us[i]? with
          | (b, c) :: rest, some (some j) => tletS S (r : Int) j.toNat i b c rest
          | _, _ => S) = _
        rw [el, hij]
        rfl
      rw [e]
      exact h.take hl.1 hij el
  | .pl .down i, hl => by
    have ne : i ≠ r := fun z => hl.2 (by rw [z]; exact h.rc)
    cases el : S.copies i with
    | nil => exact absurd el hl.2
    | cons q rest =>
      obtain ⟨n, c⟩ := q
      refine ⟨⟨hl.1, fun z => ne (Int.ofNat.inj z), n, c, rest, el, h.numOk hm⟩, ?_⟩
      have e : doS us (r : Int) cnt S (.pl .down i) = gotS S cnt i n c rest := by
        show (match S.copies i with
          | (n, c) :: rest => gotS S cnt i n c rest
          | _ => S) = _
        rw [el]
      rw [e]
      exact h.got el
end HK

set_option Elab.async false
set_option linter.all false
set_option maxRecDepth 100000
set_option maxHeartbeats 4000000
namespace HK
open PySem PySem.Spec PyProof.Rows L2
/-! ### what is heard: runs of numbers, whatever the weaving -/
/-- from the last number taken, by those that wait, to the last one that the place ahead took -/
def Chain : Option Int → List Int → Option Int → Prop
  | a, [], b => a = none ∨ a = b
  | none, x :: W, b => Chain (some x) W b
  | some a, x :: W, b => x = a + 1 ∧ Chain (some x) W b
theorem Chain.some_ne : ∀ {W : List Int} {x : Int}, ¬ Chain (some x) W none
  | [], x, h => by rcases h with h | h <;> cases h
  | y :: W, x, h => Chain.some_ne (W := W) h.2
theorem Chain.of_none {a : Option Int} {W : List Int} (h : Chain a W none) : a = none ∧ W = [] := by
  cases a with
  | some a => exact absurd h Chain.some_ne
  | none =>
    cases W with
    | nil => exact ⟨rfl, rfl⟩
    | cons x W => exact absurd (show Chain (some x) W none from h) Chain.some_ne
theorem Chain.snoc : ∀ {W : List Int} {a b : Option Int} {num : Int}, Chain a W b → (∀ x, b = some x → num = x + 1) → Chain a (W ++ [num]) (some num)
  | [], none, b, num, h, hb => .inr rfl
  | [], some a, b, num, h, hb => by
    rcases h with h | h
    · cases h
    · exact ⟨hb a h.symm, .inr rfl⟩
  | x :: W, none, b, num, h, hb => Chain.snoc (W := W) (a := some x) h hb
  | x :: W, some a, b, num, h, hb => ⟨h.1, Chain.snoc (W := W) (a := some x) h.2 hb⟩
theorem Chain.none_nil {b : Option Int} : Chain none [] b := .inl rfl
/-- letters with their counts: from who is served, with which count, to what is due at last; k is the last count that was a graft's -/
def LetC : Int → Option Int → List (Bool × Int) → Option Int → Int → Prop
  | k, s, [], e, top => s = e ∧ k ≤ top
  | k, s, (true, c) :: r, e, top => s = none ∧ k < c ∧ LetC c (some c) r e top
  | k, s, (false, c) :: r, e, top => s = some c ∧ LetC k none r e top
theorem LetC.le : ∀ {ls : List (Bool × Int)} {k : Int} {s e : Option Int} {top : Int}, LetC k s ls e top → k ≤ top
  | [], _, _, _, _, h => h.2
  | (true, c) :: r, k, s, e, top, h => by have := LetC.le h.2.2; have := h.2.1; omega
  | (false, c) :: r, k, s, e, top, h => LetC.le h.2
theorem LetC.up : ∀ {ls : List (Bool × Int)} {k : Int} {s : Option Int} {top c : Int}, LetC k s ls none top → top < c → LetC k s (ls ++ [(true, c)]) (some c) c
  | [], k, s, top, c, h, hc => ⟨h.1, by have := h.2; omega, rfl, Int.le_refl _⟩
  | (true, d) :: r, k, s, top, c, h, hc => ⟨h.1, h.2.1, LetC.up h.2.2 hc⟩
  | (false, d) :: r, k, s, top, c, h, hc => ⟨h.1, LetC.up h.2 hc⟩
theorem LetC.down : ∀ {ls : List (Bool × Int)} {k : Int} {s : Option Int} {top c : Int}, LetC k s ls (some c) top → LetC k s (ls ++ [(false, c)]) none top
  | [], k, s, top, c, h => ⟨h.1, rfl, h.2⟩
  | (true, d) :: r, k, s, top, c, h => ⟨h.1, h.2.1, LetC.down h.2.2⟩
  | (false, d) :: r, k, s, top, c, h => ⟨h.1, LetC.down h.2⟩
/-- the last count is served already: nothing waits -/
theorem LetC.done {ls : List (Bool × Int)} {top : Int} (h : LetC top (some top) ls (some top) top) : ls = [] := by
  cases ls with
  | nil => rfl
  | cons q r =>
    obtain ⟨b, c⟩ := q
    cases b with
    | true => cases h.1
    | false =>
      exfalso
      have h2 := h.2
      cases r with
      | nil => cases h2.1
      | cons q r =>
        obtain ⟨b, d⟩ := q
        cases b with
        | true =>
          have := LetC.le h2.2.2
          have := h2.2.1
          omega
        | false => cases h2.1
/-- who is served with which count -/
def look (S : HS) (j i : Nat) : Option Int := (S.served j).lookup (i : Int)
def wait (S : HS) (i : Nat) : List Int := ((S.copies i).filter fun q => decide (q.2 = S.counts i)).map (·.1)
/-- numbers that rise by one -/
def Rise1 : List Int → Prop
  | [] => True
  | [_] => True
  | x :: y :: l => y = x + 1 ∧ Rise1 (y :: l)
theorem Rise1.snoc : ∀ {l : List Int} {num : Int}, Rise1 l → (∀ x, l.getLast? = some x → num = x + 1) → Rise1 (l ++ [num])
  | [], _, _, _ => trivial
  | [x], num, _, h => ⟨h x rfl, trivial⟩
  | x :: y :: l, num, h, hl => ⟨h.1, Rise1.snoc (l := y :: l) h.2 fun z hz => hl z (by rw [List.getLast?_cons_cons]; exact hz)⟩
structure PInv (us : List (Option Int)) (r : Nat) (S : HS) (last : Nat → Option Int) : Prop where
  lc : ∀ i j : Nat, us[i]? = some (some (j : Int)) → ∃ k, (∀ s, look S j i = some s → k = s) ∧ LetC k (look S j i) (S.letters i) (if needS S i = true then some (S.counts i) else none) (S.counts i)
  cp : ∀ i, ∀ q ∈ S.copies i, q.2 ≤ S.counts i
  rg : ∀ i, ∀ q ∈ S.copies i, 0 ≤ q.1 ∧ q.1 < S.emitted
  run : ∀ i j : Nat, us[i]? = some (some (j : Int)) → needS S i = true → (look S j i = some (S.counts i) → Chain (last i) (wait S i) (last j)) ∧ (look S j i ≠ some (S.counts i) → wait S i = [] ∧ last i = none)
  st : ∀ i, ∀ l ∈ S.stays i, Rise1 l ∧ ∀ x ∈ l, 0 ≤ x ∧ x < S.emitted
  cur : ∀ i, S.hears i = true → ∀ l, (S.stays i).getLast? = some l → l ≠ [] → l.getLast? = last i
  rt : last r = if S.emitted = 0 then none else some (S.emitted - 1)
  em : 0 ≤ S.emitted
theorem PInv.ini {us : List (Option Int)} {r : Nat} : PInv us r HS.ini fun _ => none := by
  refine ⟨fun i j _ => ⟨0, (fun s e => by cases e), rfl, Int.le_refl _⟩, fun i q h => (by cases h), fun i q h => (by cases h), fun i j _ h => (by cases h), fun i l h => (by cases h), fun i h => (by cases h), rfl, Int.le_refl _⟩
theorem hears_need {S : HS} {i : Nat} (h : S.hears i = true) : needS S i = true := by unfold needS; rw [h]; rfl
theorem served_need {S : HS} {j i : Nat} {s : Int} (h : look S j i = some s) : needS S j = true := by
  unfold needS
  cases e : S.served j with
  | nil => unfold look at h; rw [e] at h; cases h
  | cons q l => simp
theorem look_none {S : HS} {j : Nat} (h : needS S j = false) (i : Nat) : look S j i = none := by
  cases e : look S j i with
  | none => rfl
  | some s => rw [served_need e] at h; cases h
theorem wait_new {S : HS} {i : Nat} {c : Int} (h : ∀ q ∈ S.copies i, q.2 ≤ S.counts i) (hc : S.counts i < c) : ((S.copies i).filter fun q => decide (q.2 = c)).map (·.1) = [] := by
  rw [List.filter_eq_nil_iff.mpr, List.map_nil]
  intro q hq z
  have := h q hq
  have := of_decide_eq_true z
  omega
/-- a letter behind a change of who is needed: last of a place that becomes needed is forgotten -/
def lastT (S : HS) (r : Nat) (i : Nat) (b : Bool) (last : Nat → Option Int) : Nat → Option Int := if (i ≠ r ∧ needS S i = true ∧ b = false) then fup last i none else last
/-- what holds ahead of the letter: e tells who was needed -/
structure PInvB (us : List (Option Int)) (r : Nat) (S : HS) (last : Nat → Option Int) (e : Nat → Bool) : Prop where
  lc : ∀ i j : Nat, us[i]? = some (some (j : Int)) → ∃ k, (∀ s, look S j i = some s → k = s) ∧ LetC k (look S j i) (S.letters i) (if e i = true then some (S.counts i) else none) (S.counts i)
  cp : ∀ i, ∀ q ∈ S.copies i, q.2 ≤ S.counts i
  rg : ∀ i, ∀ q ∈ S.copies i, 0 ≤ q.1 ∧ q.1 < S.emitted
  run : ∀ i j : Nat, us[i]? = some (some (j : Int)) → e i = true → (look S j i = some (S.counts i) → Chain (last i) (wait S i) (last j)) ∧ (look S j i ≠ some (S.counts i) → wait S i = [] ∧ last i = none)
  st : ∀ i, ∀ l ∈ S.stays i, Rise1 l ∧ ∀ x ∈ l, 0 ≤ x ∧ x < S.emitted
  cur : ∀ i, S.hears i = true → ∀ l, (S.stays i).getLast? = some l → l ≠ [] → l.getLast? = last i
  rt : last r = if S.emitted = 0 then none else some (S.emitted - 1)
  em : 0 ≤ S.emitted
theorem PInvB.tell {us : List (Option Int)} {r i : Nat} {S : HS} {last : Nat → Option Int} {e : Nat → Bool} (h : PInvB us r S last e) (hr : us[r]? = some none) (he : ∀ k, k ≠ i → e k = needS S k)
    (hch : e i = false → ∀ k, us[k]? = some (some (i : Int)) → e k = true → ∀ s, look S i k = some s → wait S k = [] ∧ last k = none) (hcu : e i = false → S.hears i = true → (S.stays i).getLast? = some []) (hlp : us[i]? ≠ some (some (i : Int))) : PInv us r (tellS S (r : Int) i (e i)) (lastT S r i (e i) last) := by
  by_cases hc : (i : Int) = (r : Int) ∨ needS S i = e i
  · have e1 : tellS S (r : Int) i (e i) = S := by unfold tellS; rw [if_pos hc]
    have e2 : lastT S r i (e i) last = last := by
      unfold lastT
      rw [if_neg]
      rintro ⟨z1, z2, z3⟩
      rcases hc with hc | hc
      · exact z1 (Int.ofNat.inj hc)
      · rw [z2, z3] at hc; cases hc
    rw [e1, e2]
    have he2 : ∀ k j : Nat, us[k]? = some (some (j : Int)) → e k = needS S k := fun k j hk => by
      by_cases z : k = i
      · subst z
        rcases hc with hc | hc
        · rw [Int.ofNat.inj hc, hr] at hk; cases hk
        · exact hc.symm
      · exact he k z
    exact ⟨fun k j hk => by have := h.lc k j hk; rw [he2 k j hk] at this; exact this, h.cp, h.rg, fun k j hk hn => h.run k j hk (by rw [he2 k j hk]; exact hn), h.st, h.cur, h.rt, h.em⟩
  · have hir : i ≠ r := fun z => hc (.inl (by rw [z]))
    have hne : needS S i ≠ e i := fun z => hc (.inr z)
    have e1 : tellS S (r : Int) i (e i) = { S with counts := if needS S i = true then fup S.counts i (S.counts i + 1) else S.counts, letters := fup S.letters i (S.letters i ++ [(needS S i, if needS S i = true then S.counts i + 1 else S.counts i)]), lsum := S.lsum + 1 } := by
      unfold tellS; rw [if_neg hc]
    have e2 : ∀ k, needS (tellS S (r : Int) i (e i)) k = needS S k := needS_tell
    rw [e1] at e2 ⊢
    cases hn : needS S i with
    | true =>
      have hef : e i = false := by cases hz : e i with | false => rfl | true => rw [hn, hz] at hne; exact absurd rfl hne
      have e3 : lastT S r i (e i) last = fup last i none := by unfold lastT; rw [if_pos ⟨hir, hn, hef⟩]
      rw [e3]
      rw [hn] at e2
      simp only [if_pos] at e2 ⊢
      have cS : ∀ k, k ≠ i → fup S.counts i (S.counts i + 1) k = S.counts k := fun k z => fup_ne z
      have lk : ∀ j k, look { S with counts := fup S.counts i (S.counts i + 1), letters := fup S.letters i (S.letters i ++ [(true, S.counts i + 1)]), lsum := S.lsum + 1 } j k = look S j k := fun _ _ => rfl
      have wt : ∀ k, k ≠ i → wait { S with counts := fup S.counts i (S.counts i + 1), letters := fup S.letters i (S.letters i ++ [(true, S.counts i + 1)]), lsum := S.lsum + 1 } k = wait S k := fun k z => by unfold wait; show List.map _ (List.filter (fun q : Int × Int => decide (q.2 = fup S.counts i (S.counts i + 1) k)) _) = _; rw [fup_ne z]
      refine ⟨fun k j hk => ?_, fun k q hq => ?_, h.rg, fun k j hk hk2 => ?_, h.st, fun k hk l hl hl2 => ?_, ?_, h.em⟩
      · rw [e2, lk]
        obtain ⟨k0, a1, a2⟩ := h.lc k j hk
        refine ⟨k0, a1, ?_⟩
        show LetC k0 _ (fup S.letters i _ k) (if needS S k = true then some (fup S.counts i (S.counts i + 1) k) else none) (fup S.counts i (S.counts i + 1) k)
        by_cases z : k = i
        · subst z
          rw [fup_same, fup_same, hn, if_pos rfl]
          rw [hef, if_neg Bool.false_ne_true] at a2
          exact a2.up (by omega)
        · rw [fup_ne z, fup_ne z, ← he k z]
          exact a2
      · show q.2 ≤ fup S.counts i (S.counts i + 1) k
        have := h.cp k q hq
        by_cases z : k = i
        · subst z; rw [fup_same]; omega
        · rw [fup_ne z]; exact this
      · rw [e2] at hk2
        rw [lk]
        show (_ = some (fup S.counts i (S.counts i + 1) k) → _) ∧ (_ ≠ some (fup S.counts i (S.counts i + 1) k) → _)
        by_cases z : k = i
        · subst z
          rw [fup_same]
          have w0 : wait { S with counts := fup S.counts k (S.counts k + 1), letters := fup S.letters k (S.letters k ++ [(true, S.counts k + 1)]), lsum := S.lsum + 1 } k = [] := by
            unfold wait
            show List.map _ (List.filter (fun q : Int × Int => decide (q.2 = fup S.counts k (S.counts k + 1) k)) _) = _
            rw [fup_same]
            exact wait_new (S := S) (h.cp k) (Int.lt_succ _)
          refine ⟨fun y => ?_, fun _ => ⟨w0, fup_same _ _ _⟩⟩
          obtain ⟨k0, a1, a2⟩ := h.lc k j hk
          have := a1 _ y
          have := a2.le
          omega
        · rw [fup_ne z, wt k z]
          have a := h.run k j hk (by rw [he k z]; exact hk2)
          rw [show fup last i none k = last k from fup_ne z]
          refine ⟨fun y => ?_, a.2⟩
          by_cases y2 : j = i
          · subst y2
            obtain ⟨b1, b2⟩ := hch hef k hk (by rw [he k z]; exact hk2) _ y
            rw [b1, b2]
            exact Chain.none_nil
          · rw [show fup last i none j = last j from fup_ne y2]
            exact a.1 y
      · show l.getLast? = fup last i none k
        by_cases z : k = i
        · subst z
          have := hcu hef hk
          rw [this] at hl
          cases hl
          exact absurd rfl hl2
        · rw [fup_ne z]; exact h.cur k hk l hl hl2
      · show fup last i none r = _
        rw [fup_ne (Ne.symm hir)]
        exact h.rt
    | false =>
      have het : e i = true := by cases hz : e i with | true => rfl | false => rw [hn, hz] at hne; exact absurd rfl hne
      have e3 : lastT S r i (e i) last = last := by unfold lastT; rw [if_neg (fun z => by rw [hn] at z; cases z.2.1)]
      rw [e3]
      rw [hn] at e2
      simp only [if_neg Bool.false_ne_true] at e2 ⊢
      have nk : ∀ k, needS S k = true → k ≠ i := fun k hk z => by rw [z, hn] at hk; cases hk
      refine ⟨fun k j hk => ?_, h.cp, h.rg, fun k j hk hk2 => ?_, h.st, h.cur, h.rt, h.em⟩
      · rw [e2]
        obtain ⟨k0, a1, a2⟩ := h.lc k j hk
        refine ⟨k0, a1, ?_⟩
        show LetC k0 _ (fup S.letters i _ k) (if needS S k = true then some (S.counts k) else none) (S.counts k)
        by_cases z : k = i
        · subst z
          rw [fup_same, hn, if_neg Bool.false_ne_true]
          rw [het, if_pos rfl] at a2
          exact a2.down
        · rw [fup_ne z, ← he k z]
          exact a2
      · rw [e2] at hk2
        exact h.run k j hk (by rw [he k (nk k hk2)]; exact hk2)
/-! the steps -/
theorem PInv.come {us : List (Option Int)} {r i : Nat} {S : HS} {last : Nat → Option Int} (h : PInv us r S last) (hr : us[r]? = some none) (hlp : us[i]? ≠ some (some (i : Int))) : ∃ last', PInv us r (comeS S (r : Int) i) last' := by
  have hB : PInvB us r { S with hears := fup S.hears i true, stays := fup S.stays i (S.stays i ++ [[]]) } last (needS S) := by
    refine ⟨h.lc, h.cp, h.rg, h.run, fun k l hl => ?_, fun k hk l hl hl2 => ?_, h.rt, h.em⟩
    · have hl2 : l ∈ fup S.stays i (S.stays i ++ [[]]) k := hl
      by_cases z : k = i
      · subst z
        rw [fup_same] at hl2
        rcases List.mem_append.mp hl2 with y | y
        · exact h.st k l y
        · rw [List.mem_singleton.mp y]
          exact ⟨trivial, fun x hx => by cases hx⟩
      · rw [fup_ne z] at hl2
        exact h.st k l hl2
    · have hk2 : fup S.hears i true k = true := hk
      have hl3 : (fup S.stays i (S.stays i ++ [[]]) k).getLast? = some l := hl
      by_cases z : k = i
      · subst z
        rw [fup_same, List.getLast?_append] at hl3
        cases hl3
        exact absurd rfl hl2
      · rw [fup_ne z] at hk2 hl3
        exact h.cur k hk2 l hl3 hl2
  refine ⟨_, hB.tell (i := i) hr (fun k z => ?_) (fun e k hk hk2 s hs => ?_) (fun e hh => ?_) hlp⟩
  · show needS S k = (fup S.hears i true k || _)
    rw [fup_ne z]
    rfl
  · have : look S i k = some s := hs
    rw [look_none e] at this
    cases this
  · show (fup S.stays i (S.stays i ++ [[]]) i).getLast? = some []
    rw [fup_same, List.getLast?_append]
    rfl
theorem PInv.go {us : List (Option Int)} {r i : Nat} {S : HS} {last : Nat → Option Int} (h : PInv us r S last) (hr : us[r]? = some none) (hlp : us[i]? ≠ some (some (i : Int))) (hi : S.hears i = true) : ∃ last', PInv us r (goS S (r : Int) i) last' := by
  have hn : needS S i = true := hears_need hi
  have hB : PInvB us r { S with hears := fup S.hears i false } last (needS S) := by
    refine ⟨h.lc, h.cp, h.rg, h.run, h.st, fun k hk l hl hl2 => ?_, h.rt, h.em⟩
    have hk2 : fup S.hears i false k = true := hk
    by_cases z : k = i
    · subst z; rw [fup_same] at hk2; cases hk2
    · rw [fup_ne z] at hk2
      exact h.cur k hk2 l hl hl2
  have t := hB.tell (i := i) hr (fun k z => by
    show needS S k = (fup S.hears i false k || _)
    rw [fup_ne z]
    rfl) (fun e => by rw [hn] at e; cases e) (fun e => by rw [hn] at e; cases e) hlp
  rw [hn] at t
  exact ⟨_, t⟩
theorem lookup_app {l : List (Int × Int)} {i c k : Int} (h : l.lookup i = none) : (l ++ [(i, c)]).lookup k = if k = i then some c else l.lookup k := by
  rw [List.lookup_append]
  by_cases z : k = i
  · subst z
    rw [if_pos rfl, h]
    simp [List.lookup]
  · rw [if_neg z]
    have : (k == i) = false := by simpa using z
    simp [List.lookup, this]
theorem lookup_drop {i k : Int} : ∀ {l : List (Int × Int)}, (dropI l i).lookup k = if k = i then none else l.lookup k
  | [] => by simp [dropI, List.lookup]
  | q :: l => by
    have ih := lookup_drop (i := i) (k := k) (l := l)
    unfold dropI at ih ⊢
    by_cases y : q.1 = i
    · rw [List.filter_cons_of_neg (by simpa using y), ih]
      by_cases z : k = i
      · rw [if_pos z, if_pos z]
      · rw [if_neg z, if_neg z]
        have : (k == q.1) = false := by simpa [y] using z
        rw [show (q :: l).lookup k = l.lookup k by cases q; simp only [List.lookup]; rw [this]]
    · rw [List.filter_cons_of_pos (by simpa using y)]
      by_cases z : k = q.1
      · have hz : (k == q.1) = true := by simpa using z
        rw [if_neg (fun w => y (z.symm.trans w))]
        cases q
        simp only [List.lookup]
        rw [hz]
      · have hz : (k == q.1) = false := by simpa using z
        cases q
        simp only [List.lookup]
        rw [hz]
        exact ih
theorem lookup_key {l : List (Int × Int)} {k : Int} : l.lookup k = none ↔ k ∉ l.map (·.1) := by
  induction l with
  | nil => simp [List.lookup]
  | cons q l ih =>
    by_cases z : k = q.1
    · have hz : (k == q.1) = true := by simpa using z
      cases q
      simp only [List.lookup]
      rw [hz]
      simp [z]
    · have hz : (k == q.1) = false := by simpa using z
      cases q
      simp only [List.lookup]
      rw [hz, List.map_cons, List.mem_cons]
      exact ih.trans ⟨fun w y => y.elim z w, fun w y => w (.inr y)⟩
theorem PInv.take {us : List (Option Int)} {r i j m : Nat} {S : HS} {last : Nat → Option Int} {b : Bool} {c : Int} {rest : List (Bool × Int)} (h : PInv us r S last) (hI : HInv us r S m) (hr : us[r]? = some none) (hij : us[i]? = some (some (j : Int))) (hlp : us[j]? ≠ some (some (j : Int)))
    (hl : S.letters i = (b, c) :: rest) : ∃ last', PInv us r (tletS S (r : Int) j i b c rest) last' := by
  have hji : j ≠ i := fun z => hlp (by rw [z] at hij ⊢; exact hij)
  have hf := hI.first hij hl
  have lkj : ∀ k, look (tkS S j i b c rest) j k = if k = i then (if b = true then some c else none) else look S j k := fun k => by
    show (fup S.served j _ j).lookup (k : Int) = _
    rw [fup_same]
    have ki : ((k : Int) = (i : Int)) ↔ k = i := ⟨fun z => Int.ofNat.inj z, fun z => by rw [z]⟩
    cases b with
    | true =>
      rw [if_pos rfl, lookup_app (lookup_key.mpr (hf.mp rfl)), if_pos rfl]
      simp only [ki]
      rfl
    | false =>
      rw [if_neg Bool.false_ne_true, lookup_drop, if_neg Bool.false_ne_true]
      simp only [ki]
      rfl
  have lko : ∀ q k, q ≠ j → look (tkS S j i b c rest) q k = look S q k := fun q k z => by
    show (fup S.served j _ q).lookup (k : Int) = _
    rw [fup_ne z]
    rfl
  obtain ⟨k0, a1, a2⟩ := h.lc i j hij
  rw [hl] at a2
  have lb : look S j i = if b = true then none else some c := by
    cases b with
    | true => exact a2.1
    | false => exact a2.1
  have hB : PInvB us r (tkS S j i b c rest) last (needS S) := by
    refine ⟨fun q p hq => ?_, h.cp, h.rg, fun q p hq hn => ?_, h.st, h.cur, h.rt, h.em⟩
    · by_cases z : q = i
      · subst z
        rw [hij] at hq
        cases hq
        rw [lkj, if_pos rfl]
        show ∃ k, _ ∧ LetC k _ (fup S.letters q rest q) _ _
        rw [fup_same]
        cases b with
        | true => exact ⟨c, fun s e => by rw [if_pos rfl] at e; cases e; rfl, a2.2.2⟩
        | false => exact ⟨k0, (fun s e => by simp at e), by rw [if_neg Bool.false_ne_true]; exact a2.2⟩
      · have e : look (tkS S j i b c rest) p q = look S p q := by
          by_cases y : p = j
          · subst y; rw [lkj, if_neg z]
          · exact lko p q y
        rw [e]
        show ∃ k, _ ∧ LetC k _ (fup S.letters i rest q) _ _
        rw [fup_ne z]
        exact h.lc q p hq
    · have a := h.run q p hq hn
      by_cases z : q = i
      · subst z
        rw [hij] at hq
        cases hq
        rw [lkj, if_pos rfl]
        show (_ = some (S.counts q) → Chain (last q) (wait S q) (last j)) ∧ (_ → wait S q = [] ∧ _)
        have pend : wait S q = [] ∧ last q = none := by
          refine a.2 fun y => ?_
          rw [lb] at y
          cases b with
          | true => rw [if_pos rfl] at y; cases y
          | false =>
            rw [if_neg Bool.false_ne_true] at y
            have yc : c = S.counts q := Option.some.inj y
            have k0c : k0 = S.counts q := by
              have := a1 c (by rw [lb, if_neg Bool.false_ne_true])
              rw [this, yc]
            obtain ⟨k1, _, a3⟩ := h.lc q j hij
            have a4 : LetC (S.counts q) (some (S.counts q)) (S.letters q) (some (S.counts q)) (S.counts q) := by
              obtain ⟨k2, b1, b2⟩ := h.lc q j hij
              rw [lb, if_neg Bool.false_ne_true, hn, if_pos rfl, yc] at b2
              have e2 := b1 c (by rw [lb, if_neg Bool.false_ne_true])
              rw [e2, yc] at b2
              exact b2
            have := a4.done
            rw [hl] at this
            cases this
        exact ⟨fun _ => by rw [pend.1, pend.2]; exact Chain.none_nil, fun _ => pend⟩
      · have e : look (tkS S j i b c rest) p q = look S p q := by
          by_cases y : p = j
          · subst y; rw [lkj, if_neg z]
          · exact lko p q y
        rw [e]
        exact a
  refine ⟨_, hB.tell (i := j) hr (fun k z => ?_) (fun e k hk hk2 s hs => ?_) (fun e hh => ?_) hlp⟩
  · unfold needS
    show (_ || decide (0 < (S.served k).length)) = (_ || decide (0 < (fup S.served j _ k).length))
    rw [fup_ne z]
    rfl
  · by_cases z : k = i
    · subst z
      exact (h.run k j hij hk2).2 fun y => by rw [look_none e] at y; cases y
    · rw [lkj, if_neg z, look_none e] at hs
      cases hs
  · have : S.hears j = true := hh
    rw [hears_need this] at e
    cases e
/-- what is put down -/
theorem copies_all {num : Int} : ∀ (l : List (Int × Int)) (S : HS), (∀ q ∈ l, ∃ n : Nat, q.1 = (n : Int)) → (l.map (·.1)).Nodup → ∀ k : Nat, (l.foldl (copyTo num) S).copies k = S.copies k ++ (match l.lookup (k : Int) with | some c => [(num, c)] | none => [])
  | [], S, _, _, k => by show S.copies k = S.copies k ++ []; rw [List.append_nil]
  | q :: l, S, hq, nd, k => by
    rw [List.foldl_cons, copies_all (num := num) l (copyTo num S q) (fun z hz => hq z (List.mem_cons_of_mem _ hz)) (List.nodup_cons.mp nd).2 k]
    obtain ⟨n, hn⟩ := hq q (List.mem_cons_self ..)
    obtain ⟨q1, q2⟩ := q
    have hn' : q1 = (n : Int) := hn
    subst hn'
    by_cases z : k = n
    · subst z
      have h0 : l.lookup (k : Int) = none := lookup_key.mpr (List.nodup_cons.mp nd).1
      rw [h0]
      have h1 : (((k : Int), q2) :: l).lookup (k : Int) = some q2 := by simp [List.lookup]
      rw [h1]
      show fup S.copies (k : Int).toNat _ k ++ [] = _
      rw [List.append_nil, Int.toNat_natCast, fup_same]
    · have h1 : (((n : Int), q2) :: l).lookup (k : Int) = l.lookup (k : Int) := by
        have : ((k : Int) == (n : Int)) = false := beq_eq_false_iff_ne.mpr fun w => z (Int.ofNat.inj w)
        simp only [List.lookup]
        rw [this]
      rw [h1]
      show fup S.copies (n : Int).toNat _ k ++ _ = _
      rw [Int.toNat_natCast, fup_ne z]
theorem take_copies {us : List (Option Int)} {r m p : Nat} {S : HS} {num : Int} (hI : HInv us r S m) (k : Nat) : (takeNumS S p num).copies k = S.copies k ++ (match look S p k with | some c => [(num, c)] | none => []) := by
  have := copies_all (num := num) (S.served p) (hearNum S p num) (fun q hq => by obtain ⟨n, e, _⟩ := hI.ks p q hq; exact ⟨n, e⟩) (hI.nd p) k
  unfold takeNumS
  rw [this, (hearNum_all).2.2.2.2]
  rfl
theorem look_child {us : List (Option Int)} {r m p k : Nat} {S : HS} {c : Int} (hI : HInv us r S m) (h : look S p k = some c) : us[k]? = some (some (p : Int)) := by
  have : (k : Int) ∈ (S.served p).map (·.1) := by
    by_cases z : (k : Int) ∈ (S.served p).map (·.1)
    · exact z
    · have := lookup_key.mpr z
      unfold look at h
      rw [h] at this; cases this
  obtain ⟨q, hq, e⟩ := List.mem_map.mp this
  obtain ⟨n, e1, _, e2⟩ := hI.ks p q hq
  rw [e1] at e
  rw [← Int.ofNat.inj e]
  exact e2
/-- a place takes a number: what is asked of the state ahead of it -/
structure Pre (us : List (Option Int)) (r : Nat) (S : HS) (last : Nat → Option Int) (p : Nat) (num : Int) : Prop where
  lc : ∀ i j : Nat, us[i]? = some (some (j : Int)) → ∃ k, (∀ s, look S j i = some s → k = s) ∧ LetC k (look S j i) (S.letters i) (if needS S i = true then some (S.counts i) else none) (S.counts i)
  cp : ∀ i, ∀ q ∈ S.copies i, q.2 ≤ S.counts i
  rg : ∀ i, ∀ q ∈ S.copies i, 0 ≤ q.1 ∧ q.1 < S.emitted
  run : ∀ i j : Nat, i ≠ p → us[i]? = some (some (j : Int)) → needS S i = true → (look S j i = some (S.counts i) → Chain (last i) (wait S i) (last j)) ∧ (look S j i ≠ some (S.counts i) → wait S i = [] ∧ last i = none)
  runp : ∀ j : Nat, us[p]? = some (some (j : Int)) → needS S p = true → (look S j p = some (S.counts p) → Chain (some num) (wait S p) (last j)) ∧ look S j p = some (S.counts p)
  st : ∀ i, ∀ l ∈ S.stays i, Rise1 l ∧ ∀ x ∈ l, 0 ≤ x ∧ x < S.emitted
  cur : ∀ i, S.hears i = true → ∀ l, (S.stays i).getLast? = some l → l ≠ [] → l.getLast? = last i
  hn : ∀ x, last p = some x → num = x + 1
  h0 : 0 ≤ num
  h1 : num < S.emitted
theorem take_em {S : HS} {p : Nat} {num : Int} : (takeNumS S p num).emitted = S.emitted := by
  have e : ∀ (l : List (Int × Int)) (S0 : HS), (l.foldl (copyTo num) S0).emitted = S0.emitted := fun l => by
    induction l with
    | nil => exact fun _ => rfl
    | cons q l ih => exact fun S0 => by rw [List.foldl_cons, ih]; rfl
  unfold takeNumS
  rw [e]
  unfold hearNum
  split <;> rfl
theorem PInv.num {us : List (Option Int)} {r m p : Nat} {S : HS} {last : Nat → Option Int} {num : Int} (h : Pre us r S last p num) (hI : HInv us r S m) (hlp : ∀ i : Nat, us[i]? ≠ some (some (i : Int))) (hrt : (fup last p (some num)) r = if S.emitted = 0 then none else some (S.emitted - 1)) : PInv us r (takeNumS S p num) (fup last p (some num)) := by
  obtain ⟨a1, a2, a3, a4, a5, a6⟩ := copyTo_all (num := num) (S.served p) (hearNum S p num)
  obtain ⟨b1, b2, b3, b4, b5⟩ := hearNum_all (S := S) (i := p) (num := num)
  have c1 : (takeNumS S p num).hears = S.hears := a1.trans b1
  have c2 : (takeNumS S p num).counts = S.counts := a2.trans b2
  have c3 : (takeNumS S p num).served = S.served := a3.trans b3
  have c4 : (takeNumS S p num).letters = S.letters := a4.trans b4
  have c5 : (takeNumS S p num).stays = (hearNum S p num).stays := a5
  have nS : ∀ k, needS (takeNumS S p num) k = needS S k := fun k => by unfold needS; rw [c1, c3]
  have lk : ∀ j k, look (takeNumS S p num) j k = look S j k := fun j k => by unfold look; rw [c3]
  have hem := take_em (S := S) (p := p) (num := num)
  have cpk := take_copies (p := p) (num := num) hI
  have wt : ∀ k, wait (takeNumS S p num) k = wait S k ++ (match look S p k with | some c => if c = S.counts k then [num] else [] | none => []) := fun k => by
    unfold wait
    rw [c2, cpk, List.filter_append, List.map_append]
    congr 1
    cases look S p k with
    | none => rfl
    | some c =>
      by_cases z : c = S.counts k
      · simp [z]
      · simp [z]
  have le : ∀ k c, look S p k = some c → c ≤ S.counts k := fun k c e => by
    obtain ⟨k0, x1, x2⟩ := h.lc k p (look_child hI e)
    have := x1 c e
    have := x2.le
    omega
  refine ⟨fun i j hij => ?_, fun k q hq => ?_, fun k q hq => ?_, fun i j hij hn => ?_, fun k l hl => ?_, fun k hk l hl hl2 => ?_, ?_, ?_⟩
  · rw [lk, c4, nS, c2]; exact h.lc i j hij
  · rw [cpk] at hq
    rw [c2]
    rcases List.mem_append.mp hq with y | y
    · exact h.cp k q y
    · cases e : look S p k with
      | none => rw [e] at y; cases y
      | some c => rw [e] at y; rw [List.mem_singleton.mp y]; exact le k c e
  · rw [cpk] at hq
    rw [hem]
    rcases List.mem_append.mp hq with y | y
    · exact h.rg k q y
    · cases e : look S p k with
      | none => rw [e] at y; cases y
      | some c => rw [e] at y; rw [List.mem_singleton.mp y]; exact ⟨h.h0, h.h1⟩
  · rw [nS] at hn
    rw [lk, c2, wt]
    by_cases zi : i = p
    · subst zi
      have hji : j ≠ i := fun z => hlp i (by rw [z] at hij; exact hij)
      have e : look S i i = none := by
        cases e : look S i i with
        | none => rfl
        | some c => exact absurd (look_child hI e) (hlp i)
      rw [e]
      show (_ → Chain (fup last i (some num) i) (wait S i ++ []) (fup last i (some num) j)) ∧ _
      rw [fup_same, fup_ne hji, List.append_nil]
      obtain ⟨x1, x2⟩ := h.runp j hij hn
      exact ⟨x1, fun y => absurd x2 y⟩
    · rw [show fup last p (some num) i = last i from fup_ne zi]
      have a := h.run i j zi hij hn
      by_cases zj : j = p
      · subst zj
        rw [show fup last j (some num) j = some num from fup_same _ _ _]
        cases e : look S j i with
        | none =>
          rw [e] at a
          refine ⟨(fun y => by cases y), fun y => ?_⟩
          show wait S i ++ [] = [] ∧ _
          rw [List.append_nil]
          exact a.2 y
        | some c =>
          rw [e] at a
          show (_ → Chain _ (wait S i ++ (if c = S.counts i then [num] else [])) _) ∧ (_ → wait S i ++ (if c = S.counts i then [num] else []) = [] ∧ _)
          by_cases zc : c = S.counts i
          · rw [if_pos zc]
            exact ⟨fun _ => (a.1 (by rw [zc])).snoc h.hn, fun y => absurd (by rw [zc]) y⟩
          · rw [if_neg zc, List.append_nil]
            exact ⟨fun y => absurd (Option.some.inj y) zc, fun y => a.2 y⟩
      · rw [show fup last p (some num) j = last j from fup_ne zj]
        have e : look S p i = none := by
          cases e : look S p i with
          | none => rfl
          | some c =>
            have := look_child hI e
            rw [hij] at this
            exact absurd (Int.ofNat.inj (Option.some.inj (Option.some.inj this))) zj
        rw [e]
        show (_ → Chain _ (wait S i ++ []) _) ∧ (_ → wait S i ++ [] = [] ∧ _)
        rw [List.append_nil]
        exact a
  · rw [c5] at hl
    rw [hem]
    unfold hearNum at hl
    by_cases hh : S.hears p = true
    · rw [if_pos hh] at hl
      have hl2 : l ∈ fup S.stays p ((S.stays p).dropLast ++ [((S.stays p).getLast?.getD []) ++ [num]]) k := hl
      by_cases z : k = p
      · subst z
        rw [fup_same] at hl2
        rcases List.mem_append.mp hl2 with y | y
        · exact h.st k l ((List.dropLast_sublist _).subset y)
        · rw [List.mem_singleton.mp y]
          have hne := hI.st k hh
          rw [List.getLast?_eq_some_getLast hne]
          have hm := h.st k _ (List.getLast_mem hne)
          show Rise1 ((S.stays k).getLast hne ++ [num]) ∧ ∀ x ∈ (S.stays k).getLast hne ++ [num], _
          refine ⟨hm.1.snoc fun x hx => ?_, fun x hx => ?_⟩
          · have hne2 : (S.stays k).getLast hne ≠ [] := fun w => by rw [w] at hx; cases hx
            have := h.cur k hh _ (List.getLast?_eq_some_getLast hne) hne2
            exact h.hn x (by rw [← this]; exact hx)
          · rcases List.mem_append.mp hx with w | w
            · exact hm.2 x w
            · rw [List.mem_singleton.mp w]; exact ⟨h.h0, h.h1⟩
      · rw [fup_ne z] at hl2
        exact h.st k l hl2
    · rw [if_neg hh] at hl
      exact h.st k l hl
  · rw [c1] at hk
    rw [c5] at hl
    unfold hearNum at hl
    by_cases z : k = p
    · subst z
      rw [if_pos hk] at hl
      have hl3 : (fup S.stays k ((S.stays k).dropLast ++ [((S.stays k).getLast?.getD []) ++ [num]]) k).getLast? = some l := hl
      rw [fup_same, List.getLast?_append] at hl3
      have hl4 : ((S.stays k).getLast?.getD []) ++ [num] = l := by simpa using hl3
      rw [← hl4, List.getLast?_append, show fup last k (some num) k = some num from fup_same _ _ _]
      rfl
    · rw [show fup last p (some num) k = last k from fup_ne z]
      by_cases hh : S.hears p = true
      · rw [if_pos hh] at hl
        have hl3 : (fup S.stays p _ k).getLast? = some l := hl
        rw [fup_ne z] at hl3
        exact h.cur k hk l hl3 hl2
      · rw [if_neg hh] at hl
        exact h.cur k hk l hl hl2
  · rw [hem]; exact hrt
  · rw [hem]; have := h.h0; have := h.h1; omega
theorem PInv.emit {us : List (Option Int)} {r m : Nat} {S : HS} {last : Nat → Option Int} (h : PInv us r S last) (hI : HInv us r S m) (hlp : ∀ i : Nat, us[i]? ≠ some (some (i : Int))) : ∃ last', PInv us r (emitS S r) last' := by
  have hI0 : HInv us r { S with emitted := S.emitted + 1 } m := ⟨hI.st, hI.ks, hI.nd, hI.ll, hI.sl, hI.sn, hI.sv, hI.cl, hI.alt, hI.hr, hI.rl, hI.rc⟩
  have em := h.em
  refine ⟨_, PInv.num (S := { S with emitted := S.emitted + 1 }) (p := r) (num := S.emitted) (last := last) ⟨h.lc, h.cp, fun i q hq => ?_, fun i j _ hij hn => h.run i j hij hn, fun j hj => ?_, fun i l hl => ⟨(h.st i l hl).1, fun x hx => ?_⟩, h.cur, fun x hx => ?_, em, ?_⟩ hI0 hlp ?_⟩
  · have := h.rg i q hq
    show 0 ≤ q.1 ∧ q.1 < S.emitted + 1
    omega
  · rw [hI.hr] at hj; cases hj
  · have := (h.st i l hl).2 x hx
    show 0 ≤ x ∧ x < S.emitted + 1
    omega
  · rw [h.rt] at hx
    by_cases z : S.emitted = 0
    · rw [if_pos z] at hx; cases hx
    · rw [if_neg z] at hx; cases hx; omega
  · show S.emitted < S.emitted + 1
    omega
  · show fup last r (some S.emitted) r = if S.emitted + 1 = 0 then none else some (S.emitted + 1 - 1)
    rw [fup_same, if_neg (by omega), show S.emitted + 1 - 1 = S.emitted by omega]
theorem PInv.got {us : List (Option Int)} {r m i : Nat} {S : HS} {last : Nat → Option Int} {num c : Int} {rest : List (Int × Int)} (h : PInv us r S last) (hI : HInv us r S m) (hlp : ∀ i : Nat, us[i]? ≠ some (some (i : Int))) (hW : Ways us) (hi : i < us.length) (hir : i ≠ r) (hc : S.copies i = (num, c) :: rest) : ∃ last', PInv us r (gotS S true i num c rest) last' := by
  have hI0 : HInv us r { S with copies := fup S.copies i rest } m := ⟨hI.st, hI.ks, hI.nd, hI.ll, hI.sl, hI.sn, hI.sv, fun k => (by
    show (fup S.copies i rest k).length ≤ _
    by_cases z : k = i
    · subst z
      rw [fup_same]
      have := hI.cl k
      rw [hc] at this
      exact Nat.le_trans (Nat.le_succ _) this
    · rw [fup_ne z]; exact hI.cl k), hI.alt, hI.hr, hI.rl, (by
    show fup S.copies i rest r = []
    rw [fup_ne (Ne.symm hir)]; exact hI.rc)⟩
  have sub : ∀ k, ∀ q ∈ fup S.copies i rest k, q ∈ S.copies k := fun k q hq => by
    by_cases z : k = i
    · subst z; rw [fup_same] at hq; rw [hc]; exact List.mem_cons_of_mem _ hq
    · rw [fup_ne z] at hq; exact hq
  have wo : ∀ k, k ≠ i → wait { S with copies := fup S.copies i rest } k = wait S k := fun k z => by unfold wait; show List.map _ (List.filter _ (fup S.copies i rest k)) = _; rw [fup_ne z]
  have wi : wait S i = (if c = S.counts i then [num] else []) ++ wait { S with copies := fup S.copies i rest } i := by
    unfold wait
    show _ = _ ++ List.map _ (List.filter _ (fup S.copies i rest i))
    rw [fup_same, hc]
    by_cases z : c = S.counts i
    · simp [z]
    · simp [z]
  have r0 := h.rg i (num, c) (by rw [hc]; exact List.mem_cons_self ..)
  unfold gotS
  by_cases z : needS S i = true ∧ (c = S.counts i ∨ true = false)
  · rw [if_pos z]
    obtain ⟨hn, hcc⟩ := z
    have hcc : c = S.counts i := hcc.elim id fun y => Bool.noConfusion y
    have hk : ∀ j : Nat, us[i]? = some (some (j : Int)) → Chain (last i) (num :: wait { S with copies := fup S.copies i rest } i) (last j) ∧ look S j i = some (S.counts i) := fun j hj => by
      have a := h.run i j hj hn
      rw [wi, if_pos hcc] at a
      have lk : look S j i = some (S.counts i) := by
        by_cases y : look S j i = some (S.counts i)
        · exact y
        · have := (a.2 y).1; cases this
      exact ⟨a.1 lk, lk⟩
    have hup : ∃ j : Nat, us[i]? = some (some (j : Int)) := by obtain ⟨j, _, e⟩ := ways_up hW hI.hr hi hir; exact ⟨j, e⟩
    refine ⟨_, PInv.num (S := { S with copies := fup S.copies i rest }) (p := i) (num := num) (last := last) ⟨h.lc, fun k q hq => h.cp k q (sub k q hq), fun k q hq => h.rg k q (sub k q hq), fun k j hki hkj hn' => ?_, fun j hj _ => ⟨fun _ => ?_, (hk j hj).2⟩, h.st, h.cur, fun x hx => ?_, r0.1, r0.2⟩ hI0 hlp ?_⟩
    · rw [wo k hki]; exact h.run k j hkj hn'
    · have a := (hk j hj).1
      cases e : last i with
      | none => rw [e] at a; exact a
      | some x => rw [e] at a; exact a.2
    · obtain ⟨j, hj⟩ := hup
      have a := (hk j hj).1
      rw [hx] at a
      exact a.1
    · show fup last i (some num) r = _
      rw [fup_ne (Ne.symm hir)]
      exact h.rt
  · rw [if_neg z]
    refine ⟨last, h.lc, fun k q hq => h.cp k q (sub k q hq), fun k q hq => h.rg k q (sub k q hq), fun k j hkj hn' => ?_, h.st, h.cur, h.rt, h.em⟩
    have a := h.run k j hkj hn'
    by_cases y : k = i
    · subst y
      have hcc : c ≠ S.counts k := fun w => z ⟨hn', .inl w⟩
      rw [wi, if_neg hcc] at a
      exact a
    · rw [wo k y]; exact a
theorem no_loop {us : List (Option Int)} (hW : Ways us) (i : Nat) : us[i]? ≠ some (some (i : Int)) := fun h => by
  have hi : i < us.length := (List.getElem?_eq_some_iff.mp h).1
  have e : upF us (i : Int) = some (i : Int) := by
    unfold upF
    rw [if_pos (Int.natCast_nonneg i), List.getD_eq_getElem?_getD, Int.toNat_natCast, h]
    rfl
  have fix : ∀ k, clm (upF us) k (i : Int) = (i : Int) := fun k => by
    induction k with
    | zero => rfl
    | succ k ih =>
      show stp (upF us) (clm (upF us) k (i : Int)) = _
      rw [ih, stp_some e]
  have t := clm_top hW (v := (i : Int)) (Int.natCast_nonneg i) (Int.ofNat_lt.mpr hi)
  rw [fix, e] at t
  cases t
theorem PInv.do {us : List (Option Int)} {r m : Nat} {S : HS} {last : Nat → Option Int} (h : PInv us r S last) (hI : HInv us r S m) (hW : Ways us) {e : Deed} (hl : Legal us S e) : ∃ last', PInv us r (doS us (r : Int) true S e) last' := by
  have hlp := no_loop hW
  cases e with
  | emit =>
    show ∃ last', PInv us r (emitS S (r : Int).toNat) last'
    rw [Int.toNat_natCast]
    exact h.emit hI hlp
  | pl d i =>
    cases d with
    | come => exact h.come hI.hr (hlp i)
    | go => exact h.go hI.hr (hlp i) hl.2
    | up =>
      have ne : i ≠ r := fun z => hl.2 (by rw [z]; exact hI.rl)
      obtain ⟨j, hj, hij⟩ := ways_up hW hI.hr hl.1 ne
      cases el : S.letters i with
      | nil => exact absurd el hl.2
      | cons q rest =>
        obtain ⟨b, c⟩ := q
        have e : doS us (r : Int) true S (.pl .up i) = tletS S (r : Int) j i b c rest := by
          show (match S.letters i, us[i]? with
            | (b, c) :: rest, some (some j) => tletS S (r : Int) j.toNat i b c rest
            | _, _ => S) = _
          rw [el, hij]
          rfl
        rw [e]
        exact h.take hI hI.hr hij (hlp j) el
    | down =>
      have ne : i ≠ r := fun z => hl.2 (by rw [z]; exact hI.rc)
      cases el : S.copies i with
      | nil => exact absurd el hl.2
      | cons q rest =>
        obtain ⟨n, c⟩ := q
        have e : doS us (r : Int) true S (.pl .down i) = gotS S true i n c rest := by
          show (match S.copies i with
            | (n, c) :: rest => gotS S true i n c rest
            | _ => S) = _
          rw [el]
        rw [e]
        exact h.got hI hlp hW hl.1 ne el
end HK

set_option Elab.async false
set_option linter.all false
set_option maxRecDepth 100000
set_option maxHeartbeats 4000000
namespace HK
open PySem PySem.Spec PyProof.Rows L2
/-! ### how many letters are put up at most -/
theorem Up.det {g : IF} : ∀ {v : Int} {l l' : List Int}, Up g v l → Up g v l' → l = l'
  | _, _, _, .top e, .top _ => rfl
  | _, _, _, .top e, .step e' _ => by rw [e] at e'; cases e'
  | _, _, _, .step e _, .top e' => by rw [e] at e'; cases e'
  | _, _, _, .step e h, .step e' h' => by
    rw [e] at e'
    cases e'
    rw [Up.det h h']
open Classical in
/-- how many roads there are to the root -/
noncomputable def dpt (us : List (Option Int)) (i : Nat) : Int := if h : ∃ l, Up (upF us) (i : Int) l then (h.choose.length : Int) - 1 else 0
theorem dpt_eq {us : List (Option Int)} {i : Nat} {l : List Int} (h : Up (upF us) (i : Int) l) : dpt us i = (l.length : Int) - 1 := by
  unfold dpt
  have hx : ∃ l, Up (upF us) (i : Int) l := ⟨l, h⟩
  rw [dif_pos hx, Up.det hx.choose_spec h]
theorem upF_atK {us : List (Option Int)} {i : Nat} {o : Option Int} (h : us[i]? = some o) : upF us (i : Int) = o := by
  unfold upF
  rw [if_pos (Int.natCast_nonneg i), List.getD_eq_getElem?_getD, Int.toNat_natCast, h]
  rfl
theorem dpt_nn {us : List (Option Int)} (hW : Ways us) {i : Nat} (hi : i < us.length) : 0 ≤ dpt us i := by
  obtain ⟨l, hl⟩ := hW.ends (i : Int) (Int.natCast_nonneg i) (Int.ofNat_lt.mpr hi)
  rw [dpt_eq hl]
  have : 0 < l.length := by cases hl <;> simp
  omega
theorem dpt_step {us : List (Option Int)} (hW : Ways us) {i j : Nat} (h : us[i]? = some (some (j : Int))) : dpt us i = dpt us j + 1 := by
  have hi : i < us.length := (List.getElem?_eq_some_iff.mp h).1
  obtain ⟨v0, v1⟩ := hW.rng (j : Int) (List.mem_of_getElem? h)
  obtain ⟨l, hl⟩ := hW.ends (j : Int) v0 v1
  rw [dpt_eq hl, dpt_eq (Up.step (upF_atK h) hl), List.length_cons]
  omega
def sumR (n : Nat) (g : Nat → Int) : Int := ((List.range n).map g).sum
theorem sumR_succ {n : Nat} {g : Nat → Int} : sumR (n + 1) g = sumR n g + g n := by
  unfold sumR
  rw [List.range_succ, List.map_append, List.sum_append]
  simp
theorem sumR_congr {n : Nat} {g h : Nat → Int} (e : ∀ i, i < n → g i = h i) : sumR n g = sumR n h := by
  unfold sumR
  rw [List.map_congr_left fun i hi => e i (List.mem_range.mp hi)]
theorem sumR_fup {n i : Nat} {g h : Nat → Int} (hi : i < n) (e : ∀ j, j ≠ i → h j = g j) : sumR n h = sumR n g + (h i - g i) := by
  induction n with
  | zero => exact absurd hi (Nat.not_lt_zero i)
  | succ n ih =>
    rw [sumR_succ, sumR_succ]
    by_cases z : i = n
    · subst z
      rw [sumR_congr (g := h) (h := g) fun j hj => e j (by omega)]
      omega
    · rw [ih (by omega), e n (fun y => z y.symm)]
      omega
theorem sumR_nn {n : Nat} {g : Nat → Int} (h : ∀ i, i < n → 0 ≤ g i) : 0 ≤ sumR n g := by
  induction n with
  | zero => exact Int.le_refl _
  | succ n ih =>
    rw [sumR_succ]
    have := ih fun i hi => h i (by omega)
    have := h n (Nat.lt_succ_self n)
    omega
/-- the letters that were put up, and those that the waiting ones may still bring -/
noncomputable def phi (us : List (Option Int)) (S : HS) : Int := S.lsum + sumR us.length fun i => ((S.letters i).length : Int) * (dpt us i - 1)
theorem phi_ge {us : List (Option Int)} {r m : Nat} {S : HS} (hW : Ways us) (hI : HInv us r S m) : S.lsum ≤ phi us S := by
  have : 0 ≤ sumR us.length fun i => ((S.letters i).length : Int) * (dpt us i - 1) := sumR_nn fun i hi => by
    by_cases z : i = r
    · subst z; rw [hI.rl]; simp
    · obtain ⟨j, hj, hij⟩ := ways_up hW hI.hr hi z
      have := dpt_step hW hij
      have := dpt_nn hW hj
      exact Int.mul_nonneg (by omega) (by omega)
  unfold phi
  omega
theorem phi_tell {us : List (Option Int)} {S : HS} {r i : Nat} {b : Bool} (hW : Ways us) (hi : i < us.length) : phi us (tellS S (r : Int) i b) ≤ phi us S + dpt us i := by
  have d0 := dpt_nn hW hi
  unfold tellS
  split
  · omega
  · unfold phi
    have e := sumR_fup (n := us.length) (i := i) (g := fun k => ((S.letters k).length : Int) * (dpt us k - 1)) (h := fun k => ((fup S.letters i (S.letters i ++ [(needS S i, if needS S i = true then S.counts i + 1 else S.counts i)]) k).length : Int) * (dpt us k - 1)) hi fun j hj => by
      show ((fup S.letters i _ j).length : Int) * _ = _
      rw [fup_ne hj]
    show S.lsum + 1 + sumR us.length (fun k => ((fup S.letters i _ k).length : Int) * (dpt us k - 1)) ≤ _
    rw [e]
    rw [fup_same, List.length_append]
    have : (((S.letters i).length + [(needS S i, if needS S i = true then S.counts i + 1 else S.counts i)].length : Nat) : Int) * (dpt us i - 1) = ((S.letters i).length : Int) * (dpt us i - 1) + (dpt us i - 1) := by
      show (((S.letters i).length + 1 : Nat) : Int) * (dpt us i - 1) = _
      rw [show (((S.letters i).length + 1 : Nat) : Int) = ((S.letters i).length : Int) + 1 by omega, Int.add_mul, Int.one_mul]
    rw [this]
    omega
theorem phi_take {us : List (Option Int)} {r i j m : Nat} {S : HS} {b : Bool} {c : Int} {rest : List (Bool × Int)} (hW : Ways us) (hij : us[i]? = some (some (j : Int))) (hl : S.letters i = (b, c) :: rest) : phi us (tletS S (r : Int) j i b c rest) ≤ phi us S := by
  have hi : i < us.length := (List.getElem?_eq_some_iff.mp hij).1
  have hj : j < us.length := by have := (hW.rng (j : Int) (List.mem_of_getElem? hij)).2; omega
  unfold tletS
  refine Int.le_trans (phi_tell hW hj) ?_
  have e := sumR_fup (n := us.length) (i := i) (g := fun k => ((S.letters k).length : Int) * (dpt us k - 1)) (h := fun k => ((fup S.letters i rest k).length : Int) * (dpt us k - 1)) hi fun q hq => by
    show ((fup S.letters i _ q).length : Int) * _ = _
    rw [fup_ne hq]
  have d := dpt_step hW hij
  show S.lsum + sumR us.length (fun k => ((fup S.letters i rest k).length : Int) * (dpt us k - 1)) + dpt us j ≤ S.lsum + sumR us.length (fun k => ((S.letters k).length : Int) * (dpt us k - 1))
  rw [e]
  rw [fup_same, hl, List.length_cons]
  have : ((rest.length + 1 : Nat) : Int) * (dpt us i - 1) = (rest.length : Int) * (dpt us i - 1) + (dpt us i - 1) := by
    rw [show ((rest.length + 1 : Nat) : Int) = (rest.length : Int) + 1 by omega, Int.add_mul, Int.one_mul]
  rw [this]
  omega
theorem take_phi {us : List (Option Int)} {S : HS} {p : Nat} {num : Int} : phi us (takeNumS S p num) = phi us S := by
  obtain ⟨a1, a2, a3, a4, a5, a6⟩ := copyTo_all (num := num) (S.served p) (hearNum S p num)
  obtain ⟨b1, b2, b3, b4, b5⟩ := hearNum_all (S := S) (i := p) (num := num)
  have c4 : (takeNumS S p num).letters = S.letters := a4.trans b4
  have e : ∀ (l : List (Int × Int)) (S0 : HS), (l.foldl (copyTo num) S0).lsum = S0.lsum := fun l => by
    induction l with
    | nil => exact fun _ => rfl
    | cons q l ih => exact fun S0 => by rw [List.foldl_cons, ih]; rfl
  have c5 : (takeNumS S p num).lsum = S.lsum := by
    unfold takeNumS
    rw [e]
    unfold hearNum
    split <;> rfl
  unfold phi
  rw [c4, c5]
/-- roads that a deed may bring letters for -/
noncomputable def roomD (us : List (Option Int)) : Deed → Int
  | .pl .come i => dpt us i
  | .pl .go i => dpt us i
  | _ => 0
theorem phi_do {us : List (Option Int)} {r m : Nat} {S : HS} {cnt : Bool} (hI : HInv us r S m) (hW : Ways us) {e : Deed} (hl : Legal us S e) : phi us (doS us (r : Int) cnt S e) ≤ phi us S + roomD us e := by
  cases e with
  | emit =>
    show phi us (emitS S (r : Int).toNat) ≤ phi us S + 0
    unfold emitS
    rw [take_phi]
    exact Int.le_of_eq (Int.add_zero _).symm
  | pl d i =>
    cases d with
    | come => exact phi_tell (S := { S with hears := fup S.hears i true, stays := fup S.stays i (S.stays i ++ [[]]) }) hW hl.1
    | go => exact phi_tell (S := { S with hears := fup S.hears i false }) hW hl.1
    | up =>
      have ne : i ≠ r := fun z => hl.2 (by rw [z]; exact hI.rl)
      obtain ⟨j, hj, hij⟩ := ways_up hW hI.hr hl.1 ne
      cases el : S.letters i with
      | nil => exact absurd el hl.2
      | cons q rest =>
        obtain ⟨b, c⟩ := q
        have e : doS us (r : Int) cnt S (.pl .up i) = tletS S (r : Int) j i b c rest := by
          show (match S.letters i, us[i]? with
            | (b, c) :: rest, some (some j) => tletS S (r : Int) j.toNat i b c rest
            | _, _ => S) = _
          rw [el, hij]
          rfl
        rw [e]
        have := phi_take (r := r) (m := m) hW hij el
        show _ ≤ phi us S + 0
        omega
    | down =>
      show phi us (match S.copies i with
        | (n, c) :: rest => gotS S cnt i n c rest
        | _ => S) ≤ phi us S + 0
      cases el : S.copies i with
      | nil => exact Int.le_of_eq (Int.add_zero _).symm
      | cons q rest =>
        obtain ⟨n, c⟩ := q
        show phi us (gotS S cnt i n c rest) ≤ phi us S + 0
        unfold gotS
        split
        · rw [take_phi]; exact Int.le_of_eq (Int.add_zero _).symm
        · exact Int.le_of_eq (Int.add_zero _).symm
theorem phi_ini {us : List (Option Int)} : phi us HS.ini = 0 := by
  unfold phi
  rw [sumR_congr (h := fun _ => 0) fun i _ => by show ((0 : Nat) : Int) * _ = 0; simp]
  unfold sumR
  show (0 : Int) + _ = 0
  have : ∀ l : List Nat, (l.map fun _ => (0 : Int)).sum = 0 := fun l => by
    induction l with
    | nil => rfl
    | cons a l ih => rw [List.map_cons, List.sum_cons, ih]; rfl
  rw [this]
  rfl
end HK

set_option Elab.async false
set_option linter.all false
set_option maxRecDepth 100000
set_option maxHeartbeats 4000000
namespace HK
open PySem PySem.Spec PyProof.Rows L2
/-! ### runs of deeds; what stands when no letter waits -/
def runD (us : List (Option Int)) (r : Nat) (S : HS) (es : List Deed) : HS := es.foldl (doS us (r : Int) true) S
def AllLegal (us : List (Option Int)) (r : Nat) : HS → List Deed → Prop
  | _, [] => True
  | S, e :: es => Legal us S e ∧ AllLegal us r (doS us (r : Int) true S e) es
theorem runD_snoc {us : List (Option Int)} {r : Nat} {S : HS} {es : List Deed} {e : Deed} : runD us r S (es ++ [e]) = doS us (r : Int) true (runD us r S es) e := by
  unfold runD
  rw [List.foldl_append]
  rfl
theorem AllLegal.snoc {us : List (Option Int)} {r : Nat} {e : Deed} : ∀ {es : List Deed} {S : HS}, AllLegal us r S es → Legal us (runD us r S es) e → AllLegal us r S (es ++ [e])
  | [], S, _, h => ⟨h, trivial⟩
  | d :: es, S, h, he => ⟨h.1, AllLegal.snoc (es := es) h.2 he⟩
theorem AllLegal.take {us : List (Option Int)} {r : Nat} : ∀ {es : List Deed} {S : HS} (j : Nat), AllLegal us r S es → AllLegal us r S (es.take j)
  | [], S, j, h => by rw [List.take_nil]; exact trivial
  | d :: es, S, 0, h => trivial
  | d :: es, S, j + 1, h => ⟨h.1, AllLegal.take (es := es) j h.2⟩
theorem AllLegal.at {us : List (Option Int)} {r : Nat} {e : Deed} : ∀ {es : List Deed} {S : HS} {j : Nat}, AllLegal us r S es → es[j]? = some e → Legal us (runD us r S (es.take j)) e
  | [], S, j, h, hj => by cases hj
  | d :: es, S, 0, h, hj => by cases hj; exact h.1
  | d :: es, S, j + 1, h, hj => AllLegal.at (es := es) (j := j) h.2 hj
theorem runD_take {us : List (Option Int)} {r : Nat} {S : HS} {es : List Deed} {e : Deed} {j : Nat} (h : es[j]? = some e) : runD us r S (es.take (j + 1)) = doS us (r : Int) true (runD us r S (es.take j)) e := by
  rw [List.take_add_one, h]
  exact runD_snoc
theorem AllLegal.inv {us : List (Option Int)} {r : Nat} (hW : Ways us) : ∀ {es : List Deed} {S : HS} {m : Nat}, HInv us r S m → AllLegal us r S es → m + 2 * es.length ≤ 702 → HInv us r (runD us r S es) (m + 2 * es.length)
  | [], S, m, h, _, _ => h
  | e :: es, S, m, h, hl, hm => by
    have hm' : m + 2 * (es.length + 1) ≤ 702 := hm
    have h1 := (h.can (cnt := true) hW (by omega) hl.1).2
    have := AllLegal.inv (es := es) hW h1 hl.2 (by omega)
    rw [show m + 2 + 2 * es.length = m + 2 * (e :: es).length by rw [List.length_cons]; omega] at this
    exact this
/-! letters by the roads that they may still go -/
theorem dpt_le {us : List (Option Int)} (hW : Ways us) {i : Nat} (hi : i < us.length) : dpt us i ≤ 7 := by
  obtain ⟨l, hl⟩ := hW.ends (i : Int) (Int.natCast_nonneg i) (Int.ofNat_lt.mpr hi)
  rw [dpt_eq hl]
  have := hl.len hW (Int.natCast_nonneg i) (Int.ofNat_lt.mpr hi)
  have := hW.n8
  omega
noncomputable def psi (us : List (Option Int)) (S : HS) : Int := sumR us.length fun i => ((S.letters i).length : Int) * dpt us i
theorem psi_nn {us : List (Option Int)} {S : HS} (hW : Ways us) : 0 ≤ psi us S := sumR_nn fun i hi => Int.mul_nonneg (by omega) (dpt_nn hW hi)
theorem psi_ini {us : List (Option Int)} : psi us HS.ini = 0 := by
  unfold psi
  rw [sumR_congr (h := fun _ => 0) fun i _ => by show ((0 : Nat) : Int) * _ = 0; simp]
  unfold sumR
  have : ∀ l : List Nat, (l.map fun _ => (0 : Int)).sum = 0 := fun l => by
    induction l with
    | nil => rfl
    | cons a l ih => rw [List.map_cons, List.sum_cons, ih]; rfl
  rw [this]
theorem psi_tell {us : List (Option Int)} {S : HS} {r i : Nat} {b : Bool} (hW : Ways us) (hi : i < us.length) : psi us (tellS S (r : Int) i b) ≤ psi us S + dpt us i := by
  have d0 := dpt_nn hW hi
  unfold tellS
  split
  · omega
  · unfold psi
    have e := sumR_fup (n := us.length) (i := i) (g := fun k => ((S.letters k).length : Int) * dpt us k) (h := fun k => ((fup S.letters i (S.letters i ++ [(needS S i, if needS S i = true then S.counts i + 1 else S.counts i)]) k).length : Int) * dpt us k) hi fun j hj => by
      show ((fup S.letters i _ j).length : Int) * _ = _
      rw [fup_ne hj]
    show sumR us.length (fun k => ((fup S.letters i _ k).length : Int) * dpt us k) ≤ _
    rw [e, fup_same, List.length_append]
    have : (((S.letters i).length + [(needS S i, if needS S i = true then S.counts i + 1 else S.counts i)].length : Nat) : Int) * dpt us i = ((S.letters i).length : Int) * dpt us i + dpt us i := by
      show (((S.letters i).length + 1 : Nat) : Int) * _ = _
      rw [show (((S.letters i).length + 1 : Nat) : Int) = ((S.letters i).length : Int) + 1 by omega, Int.add_mul, Int.one_mul]
    rw [this]
    omega
theorem psi_take {us : List (Option Int)} {r i j : Nat} {S : HS} {b : Bool} {c : Int} {rest : List (Bool × Int)} (hW : Ways us) (hij : us[i]? = some (some (j : Int))) (hl : S.letters i = (b, c) :: rest) : psi us (tletS S (r : Int) j i b c rest) + 1 ≤ psi us S := by
  have hi : i < us.length := (List.getElem?_eq_some_iff.mp hij).1
  have hj : j < us.length := by have := (hW.rng (j : Int) (List.mem_of_getElem? hij)).2; omega
  have t : psi us (tletS S (r : Int) j i b c rest) ≤ psi us (tkS S j i b c rest) + dpt us j := psi_tell hW hj
  have e := sumR_fup (n := us.length) (i := i) (g := fun k => ((S.letters k).length : Int) * dpt us k) (h := fun k => ((fup S.letters i rest k).length : Int) * dpt us k) hi fun q hq => by
    show ((fup S.letters i _ q).length : Int) * _ = _
    rw [fup_ne hq]
  have d := dpt_step hW hij
  have e2 : psi us (tkS S j i b c rest) = psi us S - dpt us i := by
    show sumR us.length (fun k => ((fup S.letters i rest k).length : Int) * dpt us k) = sumR us.length (fun k => ((S.letters k).length : Int) * dpt us k) - dpt us i
    rw [e, fup_same, hl, List.length_cons]
    have : ((rest.length + 1 : Nat) : Int) * dpt us i = (rest.length : Int) * dpt us i + dpt us i := by
      rw [show ((rest.length + 1 : Nat) : Int) = (rest.length : Int) + 1 by omega, Int.add_mul, Int.one_mul]
    rw [this]
    omega
  omega
theorem take_up {us : List (Option Int)} {r m i : Nat} {S : HS} {cnt : Bool} (hI : HInv us r S m) (hW : Ways us) (hl : Legal us S (.pl .up i)) : ∃ (j : Nat) (b : Bool) (c : Int) (rest : List (Bool × Int)), us[i]? = some (some (j : Int)) ∧ S.letters i = (b, c) :: rest ∧ doS us (r : Int) cnt S (.pl .up i) = tletS S (r : Int) j i b c rest := by
  have ne : i ≠ r := fun z => hl.2 (by rw [z]; exact hI.rl)
  obtain ⟨j, hj, hij⟩ := ways_up hW hI.hr hl.1 ne
  cases el : S.letters i with
  | nil => exact absurd el hl.2
  | cons q rest =>
    obtain ⟨b, c⟩ := q
    refine ⟨j, b, c, rest, hij, rfl, ?_⟩
    show (match S.letters i, us[i]? with
      | (b, c) :: rest, some (some j) => tletS S (r : Int) j.toNat i b c rest
      | _, _ => S) = _
    rw [el, hij]
    rfl
theorem psi_up {us : List (Option Int)} {r m i : Nat} {S : HS} {cnt : Bool} (hI : HInv us r S m) (hW : Ways us) (hl : Legal us S (.pl .up i)) : psi us (doS us (r : Int) cnt S (.pl .up i)) + 1 ≤ psi us S := by
  obtain ⟨j, b, c, rest, hij, el, e⟩ := take_up (cnt := cnt) hI hW hl
  rw [e]
  exact psi_take hW hij el
theorem psi_num {us : List (Option Int)} {S : HS} {p : Nat} {num : Int} : psi us (takeNumS S p num) = psi us S := by
  obtain ⟨a1, a2, a3, a4, a5, a6⟩ := copyTo_all (num := num) (S.served p) (hearNum S p num)
  obtain ⟨b1, b2, b3, b4, b5⟩ := hearNum_all (S := S) (i := p) (num := num)
  have c4 : (takeNumS S p num).letters = S.letters := a4.trans b4
  unfold psi
  rw [c4]
theorem psi_do {us : List (Option Int)} {r m : Nat} {S : HS} {cnt : Bool} (hI : HInv us r S m) (hW : Ways us) {e : Deed} (hl : Legal us S e) : psi us (doS us (r : Int) cnt S e) ≤ psi us S + roomD us e := by
  cases e with
  | emit =>
    show psi us (emitS S (r : Int).toNat) ≤ psi us S + 0
    unfold emitS
    rw [psi_num]
    exact Int.le_of_eq (Int.add_zero _).symm
  | pl d i =>
    cases d with
    | come => exact psi_tell (S := { S with hears := fup S.hears i true, stays := fup S.stays i (S.stays i ++ [[]]) }) hW hl.1
    | go => exact psi_tell (S := { S with hears := fup S.hears i false }) hW hl.1
    | up =>
      have := psi_up (cnt := cnt) hI hW hl
      show _ ≤ psi us S + 0
      omega
    | down =>
      show psi us (match S.copies i with
        | (n, c) :: rest => gotS S cnt i n c rest
        | _ => S) ≤ psi us S + 0
      cases el : S.copies i with
      | nil => exact Int.le_of_eq (Int.add_zero _).symm
      | cons q rest =>
        obtain ⟨n, c⟩ := q
        show psi us (gotS S cnt i n c rest) ≤ psi us S + 0
        unfold gotS
        split
        · rw [psi_num]; exact Int.le_of_eq (Int.add_zero _).symm
        · exact Int.le_of_eq (Int.add_zero _).symm
theorem roomD_le {us : List (Option Int)} (hW : Ways us) {S : HS} {e : Deed} (hl : Legal us S e) : roomD us e ≤ 7 := by
  cases e with
  | emit => show (0 : Int) ≤ 7; decide
  | pl d i =>
    cases d with
    | come => exact dpt_le hW hl.1
    | go => exact dpt_le hW hl.1
    | up => show (0 : Int) ≤ 7; decide
    | down => show (0 : Int) ≤ 7; decide
theorem psi_run {us : List (Option Int)} {r : Nat} (hW : Ways us) : ∀ {es : List Deed} {S : HS} {m : Nat}, HInv us r S m → AllLegal us r S es → m + 2 * es.length ≤ 702 → psi us (runD us r S es) ≤ psi us S + 7 * es.length
  | [], S, m, h, _, _ => by show psi us S ≤ psi us S + 7 * ((0 : Nat) : Int); omega
  | e :: es, S, m, h, hl, hm => by
    have hm' : m + 2 * (es.length + 1) ≤ 702 := hm
    have h1 := (h.can (cnt := true) hW (by omega) hl.1).2
    have := psi_run (es := es) hW h1 hl.2 (by omega)
    have := psi_do (cnt := true) h hW hl.1
    have := roomD_le hW hl.1
    show psi us (runD us r (doS us (r : Int) true S e) es) ≤ psi us S + 7 * ((es.length + 1 : Nat) : Int)
    omega
/-- the roads of those that come or go -/
noncomputable def roomL (us : List (Option Int)) (es : List Deed) : Int := (es.map (roomD us)).sum
theorem phi_run {us : List (Option Int)} {r : Nat} (hW : Ways us) : ∀ {es : List Deed} {S : HS} {m : Nat}, HInv us r S m → AllLegal us r S es → m + 2 * es.length ≤ 702 → phi us (runD us r S es) ≤ phi us S + roomL us es
  | [], S, m, h, _, _ => by show phi us S ≤ phi us S + 0; omega
  | e :: es, S, m, h, hl, hm => by
    have hm' : m + 2 * (es.length + 1) ≤ 702 := hm
    have h1 := (h.can (cnt := true) hW (by omega) hl.1).2
    have t1 := phi_run (es := es) hW h1 hl.2 (by omega)
    have t2 := phi_do (cnt := true) h hW hl.1
    unfold roomL at t1 ⊢
    rw [List.map_cons, List.sum_cons]
    show phi us (runD us r (doS us (r : Int) true S e) es) ≤ _
    omega
/-! what a letter taken leaves -/
theorem tell_keep {S : HS} {r : Int} {i : Nat} {b : Bool} : (tellS S r i b).hears = S.hears ∧ (tellS S r i b).served = S.served ∧ (tellS S r i b).copies = S.copies ∧ (tellS S r i b).stays = S.stays ∧ (tellS S r i b).emitted = S.emitted ∧ (tellS S r i b).csum = S.csum := by
  unfold tellS
  split <;> exact ⟨rfl, rfl, rfl, rfl, rfl, rfl⟩
theorem up_keep {us : List (Option Int)} {r m i : Nat} {S : HS} {cnt : Bool} (hI : HInv us r S m) (hW : Ways us) (hl : Legal us S (.pl .up i)) : (doS us (r : Int) cnt S (.pl .up i)).hears = S.hears ∧ (doS us (r : Int) cnt S (.pl .up i)).copies = S.copies ∧ (doS us (r : Int) cnt S (.pl .up i)).stays = S.stays ∧ (doS us (r : Int) cnt S (.pl .up i)).emitted = S.emitted ∧ (doS us (r : Int) cnt S (.pl .up i)).csum = S.csum := by
  obtain ⟨j, b, c, rest, hij, el, e⟩ := take_up (cnt := cnt) hI hW hl
  rw [e]
  obtain ⟨h1, h2, h3, h4, h5, h6⟩ := tell_keep (S := tkS S j i b c rest) (r := (r : Int)) (i := j) (b := needS S j)
  exact ⟨h1, h3, h4, h5, h6⟩
/-! at rest -/
/-- somebody hears at i or below it -/
def wantP (us : List (Option Int)) (h : Nat → Bool) (i : Nat) : Prop := ∃ (k : Nat) (l : List Int), k < us.length ∧ h k = true ∧ Up (upF us) (k : Int) l ∧ (i : Int) ∈ l
theorem Up.mem_next {g : IF} : ∀ {v : Int} {l : List Int}, Up g v l → ∀ {x y : Int}, x ∈ l → g x = some y → y ∈ l
  | v, _, .top e, x, y, hx, hy => by
    rw [List.mem_singleton.mp hx, e] at hy
    cases hy
  | v, _, .step (l := l) e h, x, y, hx, hy => by
    rcases List.mem_cons.mp hx with rfl | hx
    · rw [e] at hy
      cases hy
      refine List.mem_cons_of_mem _ ?_
      cases h <;> exact List.mem_cons_self ..
    · exact List.mem_cons_of_mem _ (h.mem_next hx hy)
theorem Up.self_mem {g : IF} {v : Int} {l : List Int} (h : Up g v l) : v ∈ l := by cases h <;> exact List.mem_cons_self ..
theorem rest_key {us : List (Option Int)} {r m : Nat} {S : HS} (hI : HInv us r S m) (hl : ∀ i, i < us.length → S.letters i = []) {i j : Nat} (hij : us[i]? = some (some (j : Int))) : ((i : Int) ∈ keysS S j) ↔ needS S i = true := by
  have a := hI.alt i j hij
  rw [hl i (List.getElem?_eq_some_iff.mp hij).1] at a
  have a' : decide ((i : Int) ∈ keysS S j) = needS S i := a
  rw [← a', decide_eq_true_iff]
theorem key_need {S : HS} {j : Nat} {v : Int} (h : v ∈ keysS S j) : needS S j = true := by
  unfold needS
  cases e : S.served j with
  | nil => unfold keysS at h; rw [e] at h; cases h
  | cons q l => simp
theorem rest_up {us : List (Option Int)} {r m : Nat} {S : HS} (hW : Ways us) (hI : HInv us r S m) (hl : ∀ i, i < us.length → S.letters i = []) {v : Int} {l : List Int} (h : Up (upF us) v l) : 0 ≤ v → v < us.length → needS S v.toNat = true → ∀ x ∈ l, needS S x.toNat = true := by
  induction h with
  | top e => exact fun _ _ hn x hx => by rw [List.mem_singleton.mp hx]; exact hn
  | @step v u l e h ih =>
    intro v0 v1 hn x hx
    rcases List.mem_cons.mp hx with rfl | hx
    · exact hn
    · have a := upF_at v0 v1
      rw [e] at a
      obtain ⟨u0, u1⟩ := hW.rng u (List.mem_of_getElem? a)
      obtain ⟨un, rfl⟩ := Int.eq_ofNat_of_zero_le u0
      exact ih u0 u1 (key_need ((rest_key hI hl a).mpr hn)) x hx
theorem need_down {us : List (Option Int)} {r m : Nat} {S : HS} (hW : Ways us) (hI : HInv us r S m) (hl : ∀ i, i < us.length → S.letters i = []) : ∀ (q : Nat) (i : Nat), i < us.length → (8 - dpt us i).toNat ≤ q → needS S i = true → wantP us S.hears i
  | 0, i, hi, hq, _ => by have := dpt_le hW hi; omega
  | q + 1, i, hi, hq, hn => by
    have d7 := dpt_le hW hi
    cases hh : S.hears i with
    | true =>
      obtain ⟨l, ul⟩ := hW.ends (i : Int) (Int.natCast_nonneg i) (Int.ofNat_lt.mpr hi)
      exact ⟨i, l, hi, hh, ul, ul.self_mem⟩
    | false =>
      cases es : S.served i with
      | nil =>
        unfold needS at hn
        rw [hh, es] at hn
        cases hn
      | cons q0 rest =>
        obtain ⟨k, e1, hk, hki⟩ := hI.ks i q0 (by rw [es]; exact List.mem_cons_self ..)
        have hkk : (k : Int) ∈ keysS S i := by
          unfold keysS
          rw [es, List.map_cons, e1]
          exact List.mem_cons_self ..
        have hnk := (rest_key hI hl hki).mp hkk
        have hd := dpt_step hW hki
        obtain ⟨k', l, h1, h2, h3, h4⟩ := need_down hW hI hl q k hk (by omega) hnk
        exact ⟨k', l, h1, h2, h3, h3.mem_next h4 (upF_atK hki)⟩
theorem rest_need {us : List (Option Int)} {r m : Nat} {S : HS} (hW : Ways us) (hI : HInv us r S m) (hl : ∀ i, i < us.length → S.letters i = []) {i : Nat} (hi : i < us.length) : needS S i = true ↔ wantP us S.hears i := by
  constructor
  · exact need_down hW hI hl _ i hi (Nat.le_refl _)
  · rintro ⟨k, l, hk, hh, ul, hm⟩
    have := rest_up hW hI hl ul (Int.natCast_nonneg k) (Int.ofNat_lt.mpr hk) (by rw [Int.toNat_natCast]; exact hears_need hh) _ hm
    rw [Int.toNat_natCast] at this
    exact this
open Classical in
/-- who is right below j and wanted -/
noncomputable def dueF (us : List (Option Int)) (h : Nat → Bool) (j : Nat) : Nat → Bool := fun k => decide (us[k]? = some (some (j : Int)) ∧ wantP us h k)
theorem dueF_iff {us : List (Option Int)} {h : Nat → Bool} {j k : Nat} : dueF us h j k = true ↔ us[k]? = some (some (j : Int)) ∧ wantP us h k := by
  unfold dueF
  exact @decide_eq_true_iff _ (_)
theorem sortedF (f : Nat → Bool) (n : Nat) : (((List.range n).filter f).map (fun (k : Nat) => (k : Int))).Pairwise (· ≤ ·) := by
  refine List.pairwise_map.mpr ((List.Pairwise.filter _ List.pairwise_lt_range).imp fun a => ?_)
  exact Int.ofNat_le.mpr (Nat.le_of_lt a)
end HK

set_option Elab.async false
set_option linter.all false
set_option maxRecDepth 100000
set_option maxHeartbeats 4000000
namespace HK
open PySem PySem.Spec PyProof.Rows L2 GAl GxR
open Evl (pss_cut)
abbrev sKWants : Stmt := topS 81
abbrev N_scKWants : List Str := ["state", "place"]
theorem scKWants : FnScope N_scKWants ["state", "place"] (defScope sKWants) := ⟨rfl, rfl, rfl, by decide +kernel, rfl, by decide +kernel, by decide +kernel⟩
abbrev sKTells : Stmt := topS 82
abbrev N_scKTells : List Str := ["up", "state", "place", "was", "now"]
theorem scKTells : FnScope N_scKTells ["up", "state", "place", "was"] (defScope sKTells) := ⟨rfl, rfl, rfl, by decide +kernel, rfl, by decide +kernel, by decide +kernel⟩
/-! ### the law's own state of a hearing: a dict of lists -/
def stK (ad : Tg → Addr) (pu : Addr) (e : Int) : List (Key × V) := [(.inr "hears", .ref (ad .h)), (.inr "count", .ref (ad .c)), (.inr "serves", .ref (ad .s)), (.inr "letters", .ref (ad .l)), (.inr "copies", .ref (ad .p)), (.inr "stays", .ref (ad .t)), (.inr "next", .int e), (.inr "put", .ref pu)]
structure LW (K : PySem.W.Frag) (H : Hp) (d pu : Addr) (n : Nat) (S : HS) (ad : Tg → Addr) (la ca : Nat → List Addr) : Prop where
  hd : H d = some (.dK (stK ad pu S.emitted))
  hp : H pu = some (.lst [.int S.lsum, .int S.csum])
  hn : HN K V.bl H n ad S la ca
  pn : ∀ t, alive n S t → ad t ≠ pu
def lfoot (n : Nat) (ad : Tg → Addr) (S : HS) (d pu : Addr) (b : Addr) : Prop := b = d ∨ b = pu ∨ ∃ t, alive n S t ∧ ad t = b
section
variable {K : PySem.W.Frag} {H : Hp} {d pu : Addr} {n : Nat} {S : HS} {ad : Tg → Addr} {la ca : Nat → List Addr}
theorem LW.dn (h : LW K H d pu n S ad la ca) {t : Tg} (ha : alive n S t) : ad t ≠ d := fun z => by
  have e := h.hn.nd t ha
  rw [z, h.hd] at e
  cases t with
  | sd i =>
    have e2 : stK ad pu S.emitted = (S.served i).map fun q => ((.inl q.1 : Key), V.int q.2) := HO.dK.inj (Option.some.inj e)
    cases hs : S.served i with
    | nil => rw [hs] at e2; cases e2
    | cons q r => rw [hs] at e2; cases e2
  | _ => cases (Option.some.inj e)
theorem LW.dpu (h : LW K H d pu n S ad la ca) : d ≠ pu := fun z => by
  have e := h.hd
  rw [z, h.hp] at e
  cases e
theorem LW.k0 {H' : Hp} (h : LW K H d pu n S ad la ca) (k : K0 H H') : LW K H' d pu n S ad la ca := ⟨k.oth _ _ h.hd (fun _ z => by cases z), k.oth _ _ h.hp (fun _ z => by cases z), h.hn.k0 k, h.pn⟩
theorem LW.get (h : LW K H d pu n S ad la ca) {k : Str} {v : V} (e : valV (stK ad pu S.emitted) (.inr k : Key) = some v) : DGet H d (.str k) (some v) := by
  rw [← e]
  exact DGet.k (k := .inr k) h.hd
theorem gK1 {e : Int} : valV (stK ad pu e) (.inr "hears" : Key) = some (.ref (ad .h)) := rfl
theorem gK2 {e : Int} : valV (stK ad pu e) (.inr "count" : Key) = some (.ref (ad .c)) := rfl
theorem gK3 {e : Int} : valV (stK ad pu e) (.inr "serves" : Key) = some (.ref (ad .s)) := rfl
theorem gK4 {e : Int} : valV (stK ad pu e) (.inr "letters" : Key) = some (.ref (ad .l)) := rfl
theorem gK5 {e : Int} : valV (stK ad pu e) (.inr "copies" : Key) = some (.ref (ad .p)) := rfl
theorem gK6 {e : Int} : valV (stK ad pu e) (.inr "stays" : Key) = some (.ref (ad .t)) := rfl
theorem gK7 {e : Int} : valV (stK ad pu e) (.inr "next" : Key) = some (.int e) := rfl
theorem gK8 {e : Int} : valV (stK ad pu e) (.inr "put" : Key) = some (.ref pu) := rfl
/-- one of the changing objects is written -/
theorem LW.put (h : LW K H d pu n S ad la ca) {t0 : Tg} (ha : alive n S t0) {S' : HS} {la' ca' : Nat → List Addr} (al : ∀ t, alive n S' t ↔ alive n S t) (hn : ∀ t, t ≠ t0 → alive n S t → node n ad S' la' ca' t = node n ad S la ca t)
    (lt' : ∀ i, i < n → TupRows K H (la' i) (letV V.bl (S'.letters i))) (ct' : ∀ i, i < n → TupRows K H (ca' i) (copV (S'.copies i))) (e1 : S'.emitted = S.emitted) (e2 : S'.lsum = S.lsum) (e3 : S'.csum = S.csum) :
    LW K (upd H (ad t0) (node n ad S' la' ca' t0)) d pu n S' ad la' ca' ∧ KF (lfoot n ad S d pu) H (upd H (ad t0) (node n ad S' la' ca' t0)) := by
  refine ⟨⟨by rw [upd_ne (h.dn ha).symm, e1]; exact h.hd, by rw [upd_ne (h.pn _ ha).symm, e2, e3]; exact h.hp, h.hn.put ha al hn lt' ct', fun t ht => h.pn t ((al t).mp ht)⟩, (h.hn.ktu ha).kf (.inr (.inr ⟨t0, ha, rfl⟩))⟩
theorem lfoot_eq {S' : HS} (al : ∀ t, alive n S' t ↔ alive n S t) {b : Addr} : lfoot n ad S' d pu b ↔ lfoot n ad S d pu b := by
  unfold lfoot
  exact or_congr Iff.rfl (or_congr Iff.rfl ⟨fun ⟨t, a, e⟩ => ⟨t, (al t).mp a, e⟩, fun ⟨t, a, e⟩ => ⟨t, (al t).mpr a, e⟩⟩)
end
/-- the law's state stands as S, by the objects F -/
def Law (K : PySem.W.Frag) (H : Hp) (d : Addr) (n : Nat) (S : HS) (F : Addr → Prop) : Prop := ∃ (pu : Addr) (ad : Tg → Addr) (la ca : Nat → List Addr), LW K H d pu n S ad la ca ∧ ∀ b, F b ↔ lfoot n ad S d pu b
section
variable {P : Program} {w : World} {K : PySem.W.Frag} {mg : Str → Option Value} {base : Heap}
def spKWants (K : PySem.W.Frag) : Sp := fun vs H Q _ => ∃ (d : Addr) (n : Nat) (S : HS) (F : Addr → Prop) (i : Nat), vs = [.ref d, .int i] ∧ Law K H d n S F ∧ i < n ∧ Q (.bl (needS S i)) H
theorem ok_kwants {f : Addr} {fd : FuncData} (F : Fun K "_law_e_wants" "_law_e_wants" sKWants f fd) (m_len : mg "len" = none) : FnOk P w K mg base CX0 1 f fd ["state", "place"] (spKWants K) := by
  refine F.ok scKWants (fun vs H Q E h => ?_) (fun cdv A outer s H vs Q E hr h => ?_)
  · obtain ⟨d, n, S, F, i, rfl, _⟩ := h
    rfl
  · obtain ⟨d, n, S, F, i, rfl, ⟨pu, ad, la, ca, h, hF⟩, hi, q⟩ := h
    have hu := hu_of hr
    refine ⟨_, (pss_one (ps_ret (pe_or (pe_ix ix_list (pe_dget hu (pv 0) pe_str (fun _ _ => rfl)) (pv 1) (fun _ _ => rfl)) (pe_one (pe_cmpR op_gt (pe_callB call_lenR (by rfl) m_len PySem.boot_len (pa_cons (pe_ix ix_list (pe_dget hu (pv 0) pe_str (fun _ _ => rfl)) (pv 1) (fun _ _ => rfl)) pa_nil)) pe_int (nomark _)))))), ?_⟩
    refine ⟨_, rfl, d, _, rfl, h.get gK1, _, rfl, ad .h, _, (i : Int), .bl (S.hears i), rfl, rfl, .inl (.inl (h.hn.nd .h trivial)), atI_nat (range_at _ hi), _, rfl, ?_⟩
    cases hb : S.hears i with
    | true =>
      have e : needS S i = true := by unfold needS; rw [hb]; rfl
      rw [e] at q
      exact iteT q
    | false =>
      refine iteF ⟨_, rfl, d, _, rfl, h.get gK3, _, rfl, ad .s, _, (i : Int), .ref (ad (.sd i)), rfl, rfl, .inl (.inl (h.hn.nd .s trivial)), atI_nat (range_at _ hi), ad (.sd i), _, rfl, .inl (h.hn.nd (.sd i) hi), _, 0, rfl, rfl, ?_⟩
      rw [List.length_map]
      have e : needS S i = decide ((0 : Int) < ((S.served i).length : Int)) := by
        unfold needS
        rw [hb, Bool.false_or]
        by_cases h : 0 < (S.served i).length
        · rw [decide_eq_true h, decide_eq_true (by omega)]
        · rw [decide_eq_false h, decide_eq_false (by omega)]
      rw [e] at q
      exact q
theorem LW.law {H : Hp} {d pu : Addr} {n : Nat} {S : HS} {ad : Tg → Addr} {la ca : Nat → List Addr} (h : LW K H d pu n S ad la ca) : Law K H d n S (lfoot n ad S d pu) := ⟨pu, ad, la, ca, h, fun _ => Iff.rfl⟩
/-- the two sums are written -/
theorem LW.sums {H : Hp} {d pu : Addr} {n : Nat} {S : HS} {ad : Tg → Addr} {la ca : Nat → List Addr} (h : LW K H d pu n S ad la ca) (a b : Int) :
    LW K (upd H pu (.lst [.int a, .int b])) d pu n { S with lsum := a, csum := b } ad la ca ∧ KF (lfoot n ad S d pu) H (upd H pu (.lst [.int a, .int b])) := by
  have k : Kt pu H (upd H pu (.lst [.int a, .int b])) := Kt.set h.hp
  have al : ∀ t, alive n { S with lsum := a, csum := b } t ↔ alive n S t := fun t => by cases t <;> exact Iff.rfl
  refine ⟨⟨by rw [upd_ne h.dpu]; exact h.hd, upd_same, ⟨fun t ht => ?_, fun t t' x y => h.hn.inj t t' ((al t).mp x) ((al t').mp y), fun i hi => (h.hn.lt i hi).mono fun _ _ => k.sqT, fun i hi => (h.hn.ct i hi).mono fun _ _ => k.sqT⟩, fun t ht => h.pn t ((al t).mp ht)⟩, k.kf (.inr (.inl rfl))⟩
  rw [upd_ne (h.pn t ((al t).mp ht)), h.hn.nd t ((al t).mp ht)]
  cases t <;> rfl
def spKTells (K : PySem.W.Frag) : Sp := fun vs H Q _ => ∃ (p d : Addr) (us : List (Option Int)) (r : Nat) (S : HS) (F : Addr → Prop) (i : Nat) (b : Bool), vs = [.ref p, .ref d, .int i, .bl b] ∧ SqT K H p (us.map oV) ∧ us[r]? = some none ∧ (∀ j : Nat, us[j]? = some none → j = r) ∧ Law K H d us.length S F ∧ i < us.length ∧ (S.letters i).length < 1000000 ∧
  ∀ (F' : Addr → Prop) (H' : Hp), KF F H H' → (∀ c, F' c → F c ∨ H c = none) → Law K H' d us.length (tellS S (r : Int) i b) F' → Q .non H'
theorem ok_ktells {f : Addr} {fd : FuncData} {f_kwants : Addr} {fd_kwants : FuncData} (F : Fun K "_law_e_tells" "_law_e_tells" sKTells f fd) (k_kwants : PySem.W.keepIn K (.ref f_kwants) = true) (b_kwants : Binds K fd_kwants ["state", "place"] []) (g_kwants : mg "_law_e_wants" = some (.ref f_kwants)) (G_kwants : FnOk P w K mg base CX0 1 f_kwants fd_kwants ["state", "place"] (spKWants K)) : FnOk P w K mg base CX0 2 f fd ["up", "state", "place", "was"] (spKTells K) := by
  refine F.ok scKTells (fun vs H Q E h => ?_) (fun cdv A outer s H vs Q E hr h => ?_)
  · obtain ⟨p, d, us, r, S, F, i, b, rfl, _⟩ := h
    rfl
  · obtain ⟨p, d, us, r, S, F, i, b, rfl, hS, hr0, hr1, hl, hi, hsz, q⟩ := h
    have hu := hu_of hr
    refine ⟨_, (pss_cons (ps_set (i := 4) scKTells.nd rfl (.inl rfl) (pe_call G_kwants (hr.mono (by decide)) (by rfl) g_kwants k_kwants b_kwants .nil pass0 (pa_cons (pv 1) (pa_cons (pv 2) pa_nil))))
      (pss_one (ps_if (PW.pt (pw_and (pt_cmp (pc_notN (pe_ix ix_tup (pv 0) (pv 2) (fun _ _ => rfl)))) (pw_and1 (pt_cmpR op_ne (pv 4) (pv 3) (nomark _))))) (pss_cut (ps_if (pt_val (pv 4)) (pss_one (ps_asg (pe_op op_add (pe_ix ix_list (pe_dget hu (pv 1) pe_str (fun _ _ => rfl)) (pv 2) (fun _ _ => rfl)) pe_int) (pg_sub (pe_dget hu (pv 1) pe_str (fun _ _ => rfl)) (pv 2) set_list))) pss_nil)
      (pss_cut (ps_expr (pe_bm PySem.F.plainAttrs_list PySem.F.slot_list_append PySem.F.type_list_append mt_append (pe_ix ix_list (pe_dget hu (pv 1) pe_str (fun _ _ => rfl)) (pv 2) (fun _ _ => rfl)) (pa_cons (pe_tup (pa_cons (pv 4) (pa_cons (pe_ix ix_list (pe_dget hu (pv 1) pe_str (fun _ _ => rfl)) (pv 2) (fun _ _ => rfl)) pa_nil))) pa_nil)))
      (pss_one (ps_asg (pe_op op_add (pe_ix ix_list (pe_dget hu (pv 1) pe_str (fun _ _ => rfl)) pe_int (fun _ _ => rfl)) pe_int) (pg_sub (pe_dget hu (pv 1) pe_str (fun _ _ => rfl)) pe_int set_list))))) pss_nil))), ?_⟩
    refine ⟨_, rfl, _, rfl, d, us.length, S, F, i, rfl, hl, hi, ?_⟩
    have same : tellS S (r : Int) i b = S → Q .non H := fun e => q F H (K0.refl H).kf (fun c hc => .inl hc) (by rw [e]; exact hl)
    obtain ⟨pu, ad, la, ca, h, hF⟩ := hl
    refine ⟨_, rfl, _, rfl, p, _, (i : Int), oV us[i], rfl, rfl, hS, atI_nat (by rw [List.getElem?_map, List.getElem?_eq_getElem hi]; rfl), ?_⟩
    cases eo : us[i] with
    | none =>
      have ir : i = r := hr1 i (by rw [List.getElem?_eq_getElem hi, eo])
      exact ⟨false, rfl, iteF (iteF (same (by unfold tellS; rw [if_pos (.inl (by rw [ir]))])))⟩
    | some v =>
      have ir : (i : Int) ≠ (r : Int) := fun z => by
        have z2 : i = r := Int.ofNat.inj z
        rw [← z2, List.getElem?_eq_getElem hi, eo] at hr0
        cases hr0
      refine ⟨true, rfl, iteT ?_⟩
      by_cases hnb : needS S i = b
      · refine ⟨_, rfl, _, rfl, rfl, false, congrArg V.bl (by rw [hnb]; simp), iteF (same (by unfold tellS; rw [if_pos (.inr hnb)]))⟩
      refine ⟨_, rfl, _, rfl, rfl, true, congrArg V.bl (by simp [hnb]), iteT ?_⟩
      have hT : tellS S (r : Int) i b = { S with counts := if needS S i = true then fup S.counts i (S.counts i + 1) else S.counts, letters := fup S.letters i (S.letters i ++ [(needS S i, if needS S i = true then S.counts i + 1 else S.counts i)]), lsum := S.lsum + 1 } := by
        unfold tellS
        rw [if_neg (fun z => z.elim ir hnb)]
      -- the count
      refine ⟨fun σ' H' => σ' = [some (.ref p), some (.ref d), some (.int i), some (.bl b), some (.bl (needS S i))] ∧ LW K H' d pu us.length { S with counts := if needS S i = true then fup S.counts i (S.counts i + 1) else S.counts } ad la ca ∧ KF (lfoot us.length ad S d pu) H H', ?_, ?_⟩
      · refine ⟨_, rfl, _, rfl, ?_⟩
        cases hn : needS S i with
        | false =>
          refine iteF ⟨rfl, ?_, (K0.refl H).kf⟩
          rw [if_neg Bool.false_ne_true]
          exact h
        | true =>
          refine iteT ⟨_, rfl, d, _, rfl, h.get gK2, _, rfl, ad .c, _, (i : Int), .int (S.counts i), rfl, rfl, .inl (.inl (h.hn.nd .c trivial)), atI_nat (range_at _ hi), _, 1, rfl, rfl, _, rfl, d, _, rfl, h.get gK2, _, rfl, ad .c, _, (i : Int), i, rfl, rfl, h.hn.nd .c trivial, ?_, ?_⟩
          · rw [List.length_map, List.length_range]
            exact Evl.ixN_nat hi
          · have hp := h.put (t0 := .c) trivial (S' := { S with counts := fup S.counts i (S.counts i + 1) }) (la' := la) (ca' := ca) (fun t => by cases t <;> exact Iff.rfl) (fun t ht _ => by cases t <;> first | rfl | exact absurd rfl ht) h.hn.lt h.hn.ct rfl rfl rfl
            have en : node us.length ad { S with counts := fup S.counts i (S.counts i + 1) } la ca .c = .lst (((List.range us.length).map fun j => V.int (S.counts j)).set i (.int (S.counts i + 1))) := by
              rw [range_set]
              show HO.lst _ = HO.lst _
              congr 1
              refine List.map_congr_left fun j _ => ?_
              show V.int (fup S.counts i (S.counts i + 1) j) = fup (fun j => V.int (S.counts j)) i (.int (S.counts i + 1)) j
              unfold fup
              split <;> rfl
            rw [en] at hp
            rw [if_pos rfl]
            exact ⟨rfl, hp.1, hp.2⟩
      rintro σ' H1 ⟨rfl, h1, k1⟩
      have l1 := (h1.hn.lt i hi).1
      have l2 : (la i).length = (S.letters i).length := by rw [l1]; unfold letV; rw [List.length_map]
      -- the letter
      refine ⟨fun σ' H' => σ' = [some (.ref p), some (.ref d), some (.int i), some (.bl b), some (.bl (needS S i))] ∧ ∃ la', LW K H' d pu us.length { tellS S (r : Int) i b with lsum := S.lsum } ad la' ca ∧ KF (lfoot us.length ad S d pu) H H', ?_, ?_⟩
      · refine ⟨_, rfl, d, _, rfl, h1.get gK4, _, rfl, ad .l, _, (i : Int), .ref (ad (.lr i)), rfl, rfl, .inl (.inl (h1.hn.nd .l trivial)), atI_nat (range_at _ hi), .inl ⟨rfl, _, .inl (.inl (h1.hn.nd (.lr i) hi))⟩, ?_⟩
        refine ⟨_, rfl, _, rfl, d, _, rfl, h1.get gK2, _, rfl, ad .c, _, (i : Int), .int (cN S i), rfl, rfl, .inl (.inl (h1.hn.nd .c trivial)), atI_nat ((range_at _ hi).trans (by rw [cN_eq])), by show 2 ≤ sizeLine; decide, fun tp ntp => ?_⟩
        have kG := K0.new ntp (o := .tup [.bl (needS S i), .int (cN S i)])
        have hG : SqT K (upd H1 tp (.tup [.bl (needS S i), .int (cN S i)])) tp [.bl (needS S i), .int (cN S i)] := .inl (.inl upd_same)
        generalize upd H1 tp (.tup [.bl (needS S i), .int (cN S i)]) = G at kG hG ⊢
        have h2 := h1.k0 kG
        have hp := h2.put (t0 := .lr i) hi (S' := { tellS S (r : Int) i b with lsum := S.lsum }) (la' := fup la i (la i ++ [tp])) (ca' := ca) (fun t => by rw [hT]; cases t <;> exact Iff.rfl) (fun t ht _ => by
          rw [hT]
          cases t with
          | lr j => 
            have : j ≠ i := fun z => ht (by rw [z])
            simp only [node, fup_ne this]
          | _ => rfl) (fun j hj => by
          rw [hT]
          by_cases e : j = i
          · subst e
            show TupRows K G (fup la j (la j ++ [tp]) j) (letV V.bl (fup S.letters j (S.letters j ++ [(needS S j, if needS S j = true then S.counts j + 1 else S.counts j)]) j))
            rw [fup_same, fup_same]
            unfold letV
            rw [List.map_append]
            refine TupRows.snoc (h2.hn.lt j hj) ?_
            exact hG
          · show TupRows K G (fup la i (la i ++ [tp]) j) (letV V.bl (fup S.letters i _ j))
            rw [fup_ne e, fup_ne e]
            exact h2.hn.lt j hj) (fun j hj => by rw [hT]; exact h2.hn.ct j hj) (by rw [hT]) rfl (by rw [hT])
        have en : node us.length ad { tellS S (r : Int) i b with lsum := S.lsum } (fup la i (la i ++ [tp])) ca (.lr i) = .lst ((la i).map V.ref ++ [.ref tp]) := by
          show HO.lst ((fup la i (la i ++ [tp]) i).map V.ref) = _
          rw [fup_same, List.map_append]
          rfl
        rw [en] at hp
        refine ⟨ad (.lr i), _, .ref tp, rfl, rfl, h2.hn.nd (.lr i) hi, ?_, rfl, _, hp.1, ?_⟩
        · rw [List.length_map, sizeLine_eq]; omega
        · refine (k1.trans (kG.kf (F := fun _ => False)) fun c hc => hc.elim).trans hp.2 fun c hc => .inl hc
      rintro σ' H2 ⟨rfl, la', h2, k2⟩
      have h3 := h2.sums (S.lsum + 1) S.csum
      have e3 : ({ { tellS S (r : Int) i b with lsum := S.lsum } with lsum := S.lsum + 1, csum := S.csum } : HS) = tellS S (r : Int) i b := by rw [hT]
      rw [e3] at h3
      have ec : ({ tellS S (r : Int) i b with lsum := S.lsum } : HS).csum = S.csum := by rw [hT]
      have hp2 : H2 pu = some (.lst [.int S.lsum, .int S.csum]) := by rw [← ec]; exact h2.hp
      refine ⟨_, rfl, d, _, rfl, h2.get gK8, pu, _, 0, .int S.lsum, rfl, rfl, .inl (.inl hp2), atI_nat (j := 0) rfl, _, 1, rfl, rfl, _, rfl, d, _, rfl, h2.get gK8, pu, _, 0, 0, rfl, rfl, hp2, rfl, ?_⟩
      have al : ∀ t, alive us.length (tellS S (r : Int) i b) t ↔ alive us.length S t := fun t => by rw [hT]; cases t <;> exact Iff.rfl
      have al2 : ∀ t, alive us.length { tellS S (r : Int) i b with lsum := S.lsum } t ↔ alive us.length S t := fun t => by rw [hT]; cases t <;> exact Iff.rfl
      refine q F _ ?_ (fun c hc => .inl hc) ⟨pu, ad, la', ca, h3.1, fun c => (hF c).trans (lfoot_eq al).symm⟩
      exact (k2.trans h3.2 fun c hc => .inl ((lfoot_eq al2).mp hc)).of fun c hc => (hF c).mpr hc
end
end HK

set_option Elab.async false
set_option linter.all false
set_option maxRecDepth 100000
set_option maxHeartbeats 4000000
namespace HK
open PySem PySem.Spec PyProof.Rows L2 GAl GxR
open Evl (pss_cut)
abbrev sKTakes : Stmt := topS 83
abbrev N_scKTakes : List Str := ["state", "place", "number", "below"]
theorem scKTakes : FnScope N_scKTakes ["state", "place", "number"] (defScope sKTakes) := ⟨rfl, rfl, rfl, by decide +kernel, rfl, by decide +kernel, by decide +kernel⟩
section
variable {K : PySem.W.Frag} {H : Hp} {d pu : Addr} {n : Nat} {S : HS} {ad : Tg → Addr} {la ca : Nat → List Addr}
/-- a number more in the stay that is going on -/
theorem LW.num (h : LW K H d pu n S ad la ca) {i : Nat} (hi : i < n) {l : List (List Int)} {l0 : List Int} (hl : S.stays i = l ++ [l0]) (num : Int) :
    H (ad (.sy i l.length)) = some (.lst (l0.map V.int)) ∧ LW K (upd H (ad (.sy i l.length)) (.lst (l0.map V.int ++ [.int num]))) d pu n { S with stays := fup S.stays i (l ++ [l0 ++ [num]]) } ad la ca ∧ KF (lfoot n ad S d pu) H (upd H (ad (.sy i l.length)) (.lst (l0.map V.int ++ [.int num]))) := by
  have ha : alive n S (.sy i l.length) := ⟨hi, by rw [hl, List.length_append]; exact Nat.lt_succ_self _⟩
  have e0 := h.hn.nd _ ha
  have e1 : node n ad S la ca (.sy i l.length) = .lst (l0.map V.int) := by
    show HO.lst (((S.stays i).getD l.length []).map V.int) = _
    rw [hl, List.getD_eq_getElem?_getD, List.getElem?_append_right (Nat.le_refl _), Nat.sub_self]
    rfl
  have len : ∀ j, (fup S.stays i (l ++ [l0 ++ [num]]) j).length = (S.stays j).length := fun j => by
    by_cases e : j = i
    · subst e; rw [fup_same, hl, List.length_append, List.length_append]; rfl
    · rw [fup_ne e]
  have hp := h.put ha (S' := { S with stays := fup S.stays i (l ++ [l0 ++ [num]]) }) (la' := la) (ca' := ca) (fun t => by
    cases t with
    | sy a b => exact and_congr Iff.rfl (by rw [len])
    | _ => exact Iff.rfl) (fun t ht hta => by
    cases t with
    | sl j =>
      show HO.lst ((List.range (fup S.stays i (l ++ [l0 ++ [num]]) j).length).map _) = _
      rw [len]; rfl
    | sy a b =>
      show HO.lst (((fup S.stays i (l ++ [l0 ++ [num]]) a).getD b []).map V.int) = HO.lst (((S.stays a).getD b []).map V.int)
      by_cases e : a = i
      · subst e
        have hb : b ≠ l.length := fun z => ht (by rw [z])
        have hb2 : b < l.length := by
          have := hta.2
          rw [hl, List.length_append] at this
          have h3 : b < l.length + 1 := this
          omega
        rw [fup_same, hl, List.getD_eq_getElem?_getD, List.getD_eq_getElem?_getD, List.getElem?_append_left hb2, List.getElem?_append_left hb2]
      · rw [fup_ne e]
    | _ => rfl) h.hn.lt h.hn.ct rfl rfl rfl
  have en : node n ad { S with stays := fup S.stays i (l ++ [l0 ++ [num]]) } la ca (.sy i l.length) = .lst (l0.map V.int ++ [.int num]) := by
    show HO.lst (((fup S.stays i (l ++ [l0 ++ [num]]) i).getD l.length []).map V.int) = _
    rw [fup_same, List.getD_eq_getElem?_getD, List.getElem?_append_right (Nat.le_refl _), Nat.sub_self]
    show HO.lst ((l0 ++ [num]).map V.int) = _
    rw [List.map_append]
    rfl
  rw [en] at hp
  exact ⟨e0.trans (by rw [e1]), hp⟩
/-- a copy more in a row -/
theorem LW.copy (h : LW K H d pu n S ad la ca) {j : Nat} (hj : j < n) {tp : Addr} {num c : Int} (hs : SqT K H tp [.int num, .int c]) :
    LW K (upd H (ad (.cr j)) (.lst ((ca j).map V.ref ++ [.ref tp]))) d pu n { S with copies := fup S.copies j (S.copies j ++ [(num, c)]) } ad la (fup ca j (ca j ++ [tp])) ∧ KF (lfoot n ad S d pu) H (upd H (ad (.cr j)) (.lst ((ca j).map V.ref ++ [.ref tp]))) := by
  have hp := h.put (t0 := .cr j) hj (S' := { S with copies := fup S.copies j (S.copies j ++ [(num, c)]) }) (la' := la) (ca' := fup ca j (ca j ++ [tp])) (fun t => by cases t <;> exact Iff.rfl) (fun t ht _ => by
    cases t with
    | cr k =>
      have : k ≠ j := fun z => ht (by rw [z])
      simp only [node, fup_ne this]
    | _ => rfl) h.hn.lt (fun k hk => by
    show TupRows K H (fup ca j (ca j ++ [tp]) k) (copV (fup S.copies j (S.copies j ++ [(num, c)]) k))
    by_cases e : k = j
    · subst e
      rw [fup_same, fup_same]
      unfold copV
      rw [List.map_append]
      exact TupRows.snoc (h.hn.ct k hk) hs
    · rw [fup_ne e, fup_ne e]
      exact h.hn.ct k hk) rfl rfl rfl
  have en : node n ad { S with copies := fup S.copies j (S.copies j ++ [(num, c)]) } la (fup ca j (ca j ++ [tp])) (.cr j) = .lst ((ca j).map V.ref ++ [.ref tp]) := by
    show HO.lst ((fup ca j (ca j ++ [tp]) j).map V.ref) = _
    rw [fup_same, List.map_append]
    rfl
  rw [en] at hp
  exact hp
end
section
variable {P : Program} {w : World} {K : PySem.W.Frag} {mg : Str → Option Value} {base : Heap}
def spKTakes (K : PySem.W.Frag) : Sp := fun vs H Q _ => ∃ (d : Addr) (n : Nat) (S : HS) (F : Addr → Prop) (i : Nat) (num : Int), vs = [.ref d, .int i, .int num] ∧ Law K H d n S F ∧ i < n ∧ NumOk n S i ∧ (keysS S i).Nodup ∧
  ∀ (F' : Addr → Prop) (H' : Hp), KF F H H' → (∀ c, F' c → F c ∨ H c = none) → Law K H' d n (takeNumS S i num) F' → Q .non H'
theorem ok_ktakes {f : Addr} {fd : FuncData} (F : Fun K "_law_e_takes" "_law_e_takes" sKTakes f fd) : FnOk P w K mg base CX0 1 f fd ["state", "place", "number"] (spKTakes K) := by
  refine F.ok scKTakes (fun vs H Q E h => ?_) (fun cdv A outer s H vs Q E hr h => ?_)
  · obtain ⟨d, n, S, F, i, num, rfl, _⟩ := h
    rfl
  · obtain ⟨d, n, S, F, i, num, rfl, hh, hi, ho, hnd, q⟩ := h
    have hu := hu_of hr
    refine ⟨_, (pss_cut (ps_if (pt_val (pe_ix ix_list (pe_dget hu (pv 0) pe_str (fun _ _ => rfl)) (pv 1) (fun _ _ => rfl))) (pss_one (ps_expr (pe_bm PySem.F.plainAttrs_list PySem.F.slot_list_append PySem.F.type_list_append mt_append (pe_ix ix_list (pe_ix ix_list (pe_dget hu (pv 0) pe_str (fun _ _ => rfl)) (pv 1) (fun _ _ => rfl)) (pe_un un_neg pe_int) (fun _ _ => rfl)) (pa_cons (pv 2) pa_nil)))) pss_nil)
      (pss_one (ps_lock (ps_for PassesOwn.never rfl (pi_keys (pe_ix ix_list (pe_dget hu (pv 0) pe_str (fun _ _ => rfl)) (pv 1) (fun _ _ => rfl))) (pg_name (i := 3) scKTakes.nd rfl (.inl rfl))
      (pss_cons (ps_expr (pe_bm PySem.F.plainAttrs_list PySem.F.slot_list_append PySem.F.type_list_append mt_append (pe_ix ix_list (pe_dget hu (pv 0) pe_str (fun _ _ => rfl)) (pv 3) (fun _ _ => rfl)) (pa_cons (pe_tup (pa_cons (pv 2) (pa_cons (pe_dget hu (pe_ix ix_list (pe_dget hu (pv 0) pe_str (fun _ _ => rfl)) (pv 1) (fun _ _ => rfl)) (pv 3) (fun _ _ => rfl)) pa_nil))) pa_nil)))
      (pss_one (ps_asg (pe_op op_add (pe_ix ix_list (pe_dget hu (pv 0) pe_str (fun _ _ => rfl)) pe_int (fun _ _ => rfl)) pe_int) (pg_sub (pe_dget hu (pv 0) pe_str (fun _ _ => rfl)) pe_int set_list)))))))), ?_⟩
    obtain ⟨pu, ad, la, ca, h, hF⟩ := hh
    -- the stay that is going on
    refine ⟨fun σ' H1 => σ' = [some (.ref d), some (.int i), some (.int num), none] ∧ LW K H1 d pu n (hearNum S i num) ad la ca ∧ KF (lfoot n ad S d pu) H H1, ?_, ?_⟩
    · refine ⟨_, rfl, d, _, rfl, h.get gK1, _, rfl, ad .h, _, (i : Int), .bl (S.hears i), rfl, rfl, .inl (.inl (h.hn.nd .h trivial)), atI_nat (range_at _ hi), _, rfl, ?_⟩
      cases hb : S.hears i with
      | false =>
        refine iteF ⟨rfl, ?_, (K0.refl H).kf⟩
        unfold hearNum
        rw [hb, if_neg Bool.false_ne_true]
        exact h
      | true =>
        obtain ⟨hne, hlen⟩ := ho.st hb
        have hl : S.stays i = (S.stays i).dropLast ++ [(S.stays i).getLast hne] := (List.dropLast_concat_getLast hne).symm
        have hgl : (S.stays i).getLast?.getD [] = (S.stays i).getLast hne := by rw [List.getLast?_eq_some_getLast hne]; rfl
        rw [hgl] at hlen
        obtain ⟨e0, h1, k1⟩ := h.num hi hl num
        have hm : (S.stays i).length = (S.stays i).dropLast.length + 1 := by
          conv => lhs; rw [hl]
          rw [List.length_append]; rfl
        have eS : hearNum S i num = { S with stays := fup S.stays i ((S.stays i).dropLast ++ [(S.stays i).getLast hne ++ [num]]) } := by
          unfold hearNum
          rw [hb, if_pos rfl, hgl]
        rw [eS]
        have sq : SqL K H (ad (.sl i)) ((List.range (S.stays i).dropLast.length).map (fun j => V.ref (ad (.sy i j))) ++ [.ref (ad (.sy i (S.stays i).dropLast.length))]) := by
          refine .inl (.inl ?_)
          have := h.hn.nd (.sl i) hi
          rw [this]
          show some (HO.lst ((List.range (S.stays i).length).map fun j => V.ref (ad (.sy i j)))) = _
          rw [hm, List.range_succ, List.map_append]
          rfl
        refine iteT ⟨_, rfl, d, _, rfl, h.get gK6, _, rfl, ad .t, _, (i : Int), .ref (ad (.sl i)), rfl, rfl, .inl (.inl (h.hn.nd .t trivial)), atI_nat (range_at _ hi), 1, rfl, ad (.sl i), _, -1, .ref (ad (.sy i (S.stays i).dropLast.length)), rfl, rfl, sq, L2.atI_last _ _, .inl ⟨rfl, _, .inl (.inl e0)⟩, _, rfl, ad (.sy i (S.stays i).dropLast.length), _, .int num, rfl, rfl, e0, ?_, rfl, h1, k1⟩
        rw [List.length_map, sizeLine_eq]; omega
    rintro σ' H1 ⟨rfl, h1, k1⟩
    have sv : (hearNum S i num).served = S.served := by unfold hearNum; split <;> rfl
    have cp : (hearNum S i num).copies = S.copies := by unfold hearNum; split <;> rfl
    have al1 : ∀ t, alive n (hearNum S i num) t ↔ alive n S t := fun t => by
      unfold hearNum
      by_cases hb : S.hears i = true
      · rw [if_pos hb]
        obtain ⟨hne, _⟩ := ho.st hb
        cases t with
        | sy a b =>
          refine and_congr Iff.rfl ?_
          show b < (fup S.stays i _ a).length ↔ _
          by_cases e : a = i
          · subst e
            rw [fup_same, List.length_append, List.length_dropLast]
            have := List.length_pos_iff.mpr hne
            show b < (S.stays a).length - 1 + 1 ↔ _
            rw [Nat.sub_add_cancel this]
          · rw [fup_ne e]
        | _ => exact Iff.rfl
      · rw [if_neg hb]
    have e1 := h1.hn.nd (.sd i) hi
    have e1' : H1 (ad (.sd i)) = some (.dK ((S.served i).map fun q => (.inl q.1, .int q.2))) := by
      rw [e1]
      show some (HO.dK (((hearNum S i num).served i).map _)) = _
      rw [sv]
    have dne : d ≠ ad (.sd i) := (h.dn (t := .sd i) hi).symm
    have pne : pu ≠ ad (.sd i) := (h.pn (.sd i) hi).symm
    have gd : ∀ {G : Hp} {e : Int} {k : Str} {v : V}, G d = some (.dK (stK ad pu e)) → valV (stK ad pu e) (.inr k : Key) = some v → DGet G d (.str k) (some v) := fun {G e k v} hG ev => .inl ⟨_, .inr k, .inl hG, rfl, ev.symm⟩
    have ub : ∀ {G : Hp} {t : Tg} {u o : HO}, alive n S t → t ≠ .sd i → upd G (ad (.sd i)) u (ad t) = some o → G (ad t) = some o := fun {G t u o} ht hne e => by
      rw [upd_ne (fun z => hne (h.hn.inj t (.sd i) ht hi z))] at e
      exact e
    refine ⟨ad (.sd i), _, e1', trivial, fun od => ?_⟩
    generalize hkv : (S.served i).map (fun q => ((.inl q.1 : Key), V.int q.2)) = kvs at e1'
    have hkl : kvs.length = (S.served i).length := by rw [← hkv, List.length_map]
    have hkn : (kvs.map (·.1)).Nodup := by
      rw [← hkv, List.map_map]
      have e : (fun q : Int × Int => ((.inl q.1 : Key), V.int q.2).1) = fun q => (.inl q.1 : Key) := rfl
      show ((S.served i).map fun q => (.inl q.1 : Key)).Nodup
      have e2 : ((S.served i).map fun q => (.inl q.1 : Key)) = (keysS S i).map (Sum.inl : Int → Key) := by unfold keysS; rw [List.map_map]; rfl
      rw [e2]
      exact List.pairwise_map.mpr (hnd.imp fun a z => a (Sum.inl.inj z))
    have hG : ∀ {t : Tg} {o : HO}, alive n S t → t ≠ .sd i → H1 (ad t) = some o → upd H1 (ad (.sd i)) (.frz od (.dK kvs)) (ad t) = some o := fun {t o} ht hne e => by
      rw [upd_ne (fun z => hne (h.hn.inj t (.sd i) ht hi z))]
      exact e
    refine ⟨_, rfl, d, _, rfl, gd (by rw [upd_ne dne]; exact h1.hd) gK3, _, rfl, ad .s, _, (i : Int), .ref (ad (.sd i)), rfl, rfl, .inl (.inl (hG (t := .s) trivial (fun z => by cases z) (h1.hn.nd .s trivial))), atI_nat (range_at _ hi), ad (.sd i), od, rfl, .inl ⟨kvs, upd_same, ?_⟩⟩
    have same : upd (upd H1 (ad (.sd i)) (.frz od (.dK kvs))) (ad (.sd i)) (.dK kvs) = H1 := by
      rw [upd_upd]
      funext c
      by_cases e : c = ad (.sd i)
      · subst e; rw [upd_same, e1']
      · rw [upd_ne e]
    refine for_it walk_keys (fun j σ' H' => ∃ y3 ca', σ' = [some (.ref d), some (.int i), some (.int num), y3] ∧ H' (ad (.sd i)) = some (.frz od (.dK kvs)) ∧ LW K (upd H' (ad (.sd i)) (.dK kvs)) d pu n (((S.served i).take j).foldl (copyTo num) (hearNum S i num)) ad la ca' ∧ KF (lfoot n ad S d pu) H (upd H' (ad (.sd i)) (.dK kvs)))
      ⟨none, ca, rfl, upd_same, by rw [same, List.take_zero]; exact h1, by rw [same]; exact k1⟩ (fun j σ' H' _ hh => ?_) (fun j z σ' H' H2 hj hh y => ?_) (fun σ' H' hh => ?_)
    · obtain ⟨_, _, _, e, _⟩ := hh
      exact e
    · obtain ⟨y3, ca', rfl, ez, hw, kw⟩ := hh
      obtain ⟨rfl, k1', v1, hk1, rfl⟩ := y
      have hjs : j < (S.served i).length := by omega
      obtain ⟨b, c, eq⟩ : ∃ b c, (S.served i)[j]? = some (b, c) := ⟨_, _, List.getElem?_eq_getElem hjs⟩
      have hk : kvs[j]? = some (.inl b, .int c) := by rw [← hkv, List.getElem?_map, eq]; rfl
      rw [hk] at hk1
      cases hk1
      have hbm := List.mem_of_getElem? eq
      obtain ⟨b0, b1⟩ := ho.ks _ hbm
      obtain ⟨m, rfl⟩ := Int.eq_ofNat_of_zero_le b0
      have hm : m < n := by omega
      have hval : valV kvs (.inl (m : Int) : Key) = some (.int c) := valV_mem (p := ((.inl (m : Int) : Key), V.int c)) hkn (List.mem_of_getElem? hk)
      have htk : (S.served i).take (j + 1) = (S.served i).take j ++ [((m : Int), c)] := by rw [List.take_add_one, eq]; rfl
      have hcl := (copyTo_all (num := num) ((S.served i).take j) (hearNum S i num)).2.2.2.2.2 m
      have hcl2 := List.length_take_le' j (S.served i)
      have hfew := ho.few m hm
      rw [cp] at hcl
      have gt : ∀ {G : Hp} {t : Tg} {o : HO}, alive n S t → t ≠ .sd i → upd G (ad (.sd i)) (.dK kvs) (ad t) = some o → G (ad t) = some o := fun {G t o} ht hne e => ub ht hne e
      have gx : ∀ {G : Hp} {o : HO}, upd G (ad (.sd i)) (.dK kvs) d = some o → G d = some o := fun {G o} e => by rw [upd_ne dne] at e; exact e
      have gp : ∀ {G : Hp} {o : HO}, upd G (ad (.sd i)) (.dK kvs) pu = some o → G pu = some o := fun {G o} e => by rw [upd_ne pne] at e; exact e
      refine ⟨_, rfl, d, _, rfl, gd (gx hw.hd) gK5, _, rfl, ad .p, _, (m : Int), .ref (ad (.cr m)), rfl, rfl, .inl (.inl (gt (t := .p) trivial (fun z => by cases z) (hw.hn.nd .p trivial))), atI_nat (range_at _ hm), .inl ⟨rfl, _, .inl (.inl (gt (t := .cr m) hm (fun z => by cases z) (hw.hn.nd (.cr m) hm)))⟩, ?_⟩
      refine ⟨_, rfl, _, rfl, d, _, rfl, gd (gx hw.hd) gK3, _, rfl, ad .s, _, (i : Int), .ref (ad (.sd i)), rfl, rfl, .inl (.inl (gt (t := .s) trivial (fun z => by cases z) (hw.hn.nd .s trivial))), atI_nat (range_at _ hi), _, rfl, ad (.sd i), .int c, rfl, .inl ⟨kvs, .inl (m : Int), .inr ⟨od, ez⟩, rfl, hval.symm⟩, by show 2 ≤ sizeLine; decide, fun tp ntp => ?_⟩
      have ntpa : tp ≠ ad (.sd i) := fun z => by rw [z, ez] at ntp; cases ntp
      have hw3 : LW K (upd (upd H2 tp (.tup [.int num, .int c])) (ad (.sd i)) (.dK kvs)) d pu n (((S.served i).take j).foldl (copyTo num) (hearNum S i num)) ad la ca' := by
        rw [upd_swap ntpa]
        exact hw.k0 (K0.new (by rw [upd_ne ntpa]; exact ntp))
      have kw3 : KF (lfoot n ad S d pu) H (upd (upd H2 tp (.tup [.int num, .int c])) (ad (.sd i)) (.dK kvs)) := by
        rw [upd_swap ntpa]
        exact kw.trans ((K0.new (by rw [upd_ne ntpa]; exact ntp)).kf (F := fun _ => False)) fun c hc => hc.elim
      have ez3 : upd H2 tp (.tup [.int num, .int c]) (ad (.sd i)) = some (.frz od (.dK kvs)) := by rw [upd_ne ntpa.symm]; exact ez
      have htp : SqT K (upd (upd H2 tp (.tup [.int num, .int c])) (ad (.sd i)) (.dK kvs)) tp [.int num, .int c] := .inl (.inl (by rw [upd_ne ntpa, upd_same]))
      generalize upd H2 tp (.tup [.int num, .int c]) = G3 at hw3 kw3 ez3 htp ⊢
      have al : ∀ l : List (Int × Int), ∀ S0 : HS, ∀ t, alive n (l.foldl (copyTo num) S0) t ↔ alive n S0 t := fun l => by
        induction l with
        | nil => exact fun S0 t => Iff.rfl
        | cons q l ih => exact fun S0 t => (ih (copyTo num S0 q) t).trans (by cases t <;> exact Iff.rfl)
      have alj : ∀ t, alive n (((S.served i).take j).foldl (copyTo num) (hearNum S i num)) t ↔ alive n S t := fun t => (al _ _ t).trans (al1 t)
      have hcp := hw3.copy hm htp
      have ncr : ad (.cr m) ≠ ad (.sd i) := fun z => by have := h.hn.inj (.cr m) (.sd i) hm hi z; cases this
      refine ⟨ad (.cr m), _, .ref tp, rfl, rfl, gt (t := .cr m) hm (fun z => by cases z) (hw3.hn.nd (.cr m) hm), ?_, ?_⟩
      · have l2 := (hw3.hn.ct m hm).1
        unfold copV at l2
        rw [List.length_map] at l2
        rw [List.length_map, l2, sizeLine_eq]
        omega
      have hw4 := hcp.1
      rw [← upd_swap ncr] at hw4
      have kw4 : KF (lfoot n ad S d pu) H (upd (upd G3 (ad (.cr m)) (.lst ((ca' m).map V.ref ++ [.ref tp]))) (ad (.sd i)) (.dK kvs)) := by
        rw [upd_swap ncr]
        exact kw3.trans hcp.2 fun c hc => .inl ((lfoot_eq alj).mp hc)
      have ez4 : upd G3 (ad (.cr m)) (.lst ((ca' m).map V.ref ++ [.ref tp])) (ad (.sd i)) = some (.frz od (.dK kvs)) := by rw [upd_ne ncr.symm]; exact ez3
      generalize upd G3 (ad (.cr m)) (.lst ((ca' m).map V.ref ++ [.ref tp])) = G4 at hw4 kw4 ez4 ⊢
      have hS : ((S.served i).take (j + 1)).foldl (copyTo num) (hearNum S i num) = copyTo num (((S.served i).take j).foldl (copyTo num) (hearNum S i num)) ((m : Int), c) := by
        rw [htk, List.foldl_append]; rfl
      generalize ((S.served i).take j).foldl (copyTo num) (hearNum S i num) = S0 at hw4 kw4 hS alj ⊢
      rw [hS]
      have h5 := hw4.sums S0.lsum (S0.csum + 1)
      refine ⟨_, rfl, d, _, rfl, gd (gx hw4.hd) gK8, pu, _, 1, .int S0.csum, rfl, rfl, .inl (.inl (gp hw4.hp)), atI_nat (j := 1) rfl, _, 1, rfl, rfl, _, rfl, d, _, rfl, gd (gx hw4.hd) gK8, pu, _, 1, 1, rfl, rfl, gp hw4.hp, rfl, ?_⟩
      have h6 := h5.1
      have k6 := kw4.trans h5.2 (fun c hc => .inl ((lfoot_eq (S := S) (fun t => (by cases t <;> exact Iff.rfl : alive n _ t ↔ alive n S0 t).trans (alj t))).mp hc))
      rw [← upd_swap pne] at h6 k6
      exact ⟨_, _, rfl, (upd_ne pne.symm).trans ez4, h6, k6⟩
    · obtain ⟨y3, ca', rfl, ez, hw, kw⟩ := hh
      rw [List.take_of_length_le (by omega)] at hw
      have al : ∀ l : List (Int × Int), ∀ S0 : HS, ∀ t, alive n (l.foldl (copyTo num) S0) t ↔ alive n S0 t := fun l => by
        induction l with
        | nil => exact fun S0 t => Iff.rfl
        | cons q l ih => exact fun S0 t => (ih (copyTo num S0 q) t).trans (by cases t <;> exact Iff.rfl)
      have al2 : ∀ t, alive n (takeNumS S i num) t ↔ alive n S t := fun t => (al _ _ t).trans (al1 t)
      exact ⟨ez, q F _ (kw.of fun c hc => (hF c).mpr hc) (fun c hc => .inl hc) ⟨pu, ad, la, ca', hw, fun c => (hF c).trans (lfoot_eq al2).symm⟩⟩
end
end HK

set_option Elab.async false
set_option linter.all false
set_option maxRecDepth 100000
set_option maxHeartbeats 4000000
namespace HK
open PySem PySem.Spec PyProof.Rows L2 GAl GxR
/-! ### the law's state: what is written in it -/
theorem Kt.dct {t : Addr} {H : Hp} {ls ms : List (Key × V)} (h : H t = some (.dK ls)) : Kt t H (upd H t (.dK ms)) := ⟨fun b zs e => by
  rw [upd_ne (ne_of e h (fun z => by cases z))]; exact e, fun b o u e => by
  rw [upd_ne (ne_of e h (fun z => by cases z))]; exact e, fun b o e n _ => by rw [upd_ne n]; exact e, fun P hP => by
  obtain ⟨ps, e, ht⟩ := hP
  exact ⟨ps, by rw [upd_ne (ne_of e h (fun z => by cases z))]; exact e, ht⟩, fun _ e => upd_none e⟩
section
variable {K : PySem.W.Frag} {H : Hp} {d pu : Addr} {n : Nat} {S : HS} {ad : Tg → Addr} {la ca : Nat → List Addr}
theorem LW.popC (h : LW K H d pu n S ad la ca) {j : Nat} (hj : j < n) {num c : Int} {rest : List (Int × Int)} (hs : S.copies j = (num, c) :: rest) :
    ∃ tp ta, ca j = tp :: ta ∧ SqT K H tp [.int num, .int c] ∧ LW K (upd H (ad (.cr j)) (.lst (ta.map V.ref))) d pu n { S with copies := fup S.copies j rest } ad la (fup ca j ta) ∧ KF (lfoot n ad S d pu) H (upd H (ad (.cr j)) (.lst (ta.map V.ref))) := by
  have hr := h.hn.ct j hj
  obtain ⟨tp, ta, ec⟩ : ∃ tp ta, ca j = tp :: ta := by
    have l := hr.1
    rw [hs] at l
    cases hc : ca j with
    | nil => rw [hc] at l; cases l
    | cons a b => exact ⟨a, b, rfl⟩
  rw [ec, hs] at hr
  have hp := h.put (t0 := .cr j) hj (S' := { S with copies := fup S.copies j rest }) (la' := la) (ca' := fup ca j ta) (fun t => by cases t <;> exact Iff.rfl) (fun t ht _ => by
    cases t with
    | cr k =>
      have : k ≠ j := fun z => ht (by rw [z])
      simp only [node, fup_ne this]
    | _ => rfl) h.hn.lt (fun k hk => by
    show TupRows K H (fup ca j ta k) (copV (fup S.copies j rest k))
    by_cases e : k = j
    · subst e
      rw [fup_same, fup_same]
      exact hr.tail
    · rw [fup_ne e, fup_ne e]
      exact h.hn.ct k hk) rfl rfl rfl
  have en : node n ad { S with copies := fup S.copies j rest } la (fup ca j ta) (.cr j) = .lst (ta.map V.ref) := by
    show HO.lst ((fup ca j ta j).map V.ref) = _
    rw [fup_same]
  rw [en] at hp
  exact ⟨tp, ta, ec, hr.2 0 _ _ rfl rfl, hp⟩
theorem LW.popL (h : LW K H d pu n S ad la ca) {j : Nat} (hj : j < n) {b : Bool} {c : Int} {rest : List (Bool × Int)} (hs : S.letters j = (b, c) :: rest) :
    ∃ tp ta, la j = tp :: ta ∧ SqT K H tp [V.bl b, .int c] ∧ LW K (upd H (ad (.lr j)) (.lst (ta.map V.ref))) d pu n { S with letters := fup S.letters j rest } ad (fup la j ta) ca ∧ KF (lfoot n ad S d pu) H (upd H (ad (.lr j)) (.lst (ta.map V.ref))) := by
  have hr := h.hn.lt j hj
  obtain ⟨tp, ta, ec⟩ : ∃ tp ta, la j = tp :: ta := by
    have l := hr.1
    rw [hs] at l
    cases hc : la j with
    | nil => rw [hc] at l; cases l
    | cons a b => exact ⟨a, b, rfl⟩
  rw [ec, hs] at hr
  have hp := h.put (t0 := .lr j) hj (S' := { S with letters := fup S.letters j rest }) (la' := fup la j ta) (ca' := ca) (fun t => by cases t <;> exact Iff.rfl) (fun t ht _ => by
    cases t with
    | lr k =>
      have : k ≠ j := fun z => ht (by rw [z])
      simp only [node, fup_ne this]
    | _ => rfl) (fun k hk => by
    show TupRows K H (fup la j ta k) (letV V.bl (fup S.letters j rest k))
    by_cases e : k = j
    · subst e
      rw [fup_same, fup_same]
      exact hr.tail
    · rw [fup_ne e, fup_ne e]
      exact h.hn.lt k hk) h.hn.ct rfl rfl rfl
  have en : node n ad { S with letters := fup S.letters j rest } (fup la j ta) ca (.lr j) = .lst (ta.map V.ref) := by
    show HO.lst ((fup la j ta j).map V.ref) = _
    rw [fup_same]
  rw [en] at hp
  exact ⟨tp, ta, ec, hr.2 0 _ _ rfl rfl, hp⟩
theorem LW.serve (h : LW K H d pu n S ad la ca) {j : Nat} (hj : j < n) (l : List (Int × Int)) :
    LW K (upd H (ad (.sd j)) (.dK (l.map srv))) d pu n { S with served := fup S.served j l } ad la ca ∧ KF (lfoot n ad S d pu) H (upd H (ad (.sd j)) (.dK (l.map srv))) := by
  have hp := h.put (t0 := .sd j) hj (S' := { S with served := fup S.served j l }) (la' := la) (ca' := ca) (fun t => by cases t <;> exact Iff.rfl) (fun t ht _ => by
    cases t with
    | sd k =>
      have : k ≠ j := fun z => ht (by rw [z])
      simp only [node, fup_ne this]
    | _ => rfl) h.hn.lt h.hn.ct rfl rfl rfl
  have en : node n ad { S with served := fup S.served j l } la ca (.sd j) = .dK (l.map srv) := by
    show HO.dK ((fup S.served j l j).map _) = _
    rw [fup_same]
    rfl
  rw [en] at hp
  exact hp
theorem LW.hears (h : LW K H d pu n S ad la ca) {i : Nat} (v : Bool) :
    LW K (upd H (ad .h) (.lst (((List.range n).map fun j => V.bl (S.hears j)).set i (.bl v)))) d pu n { S with hears := fup S.hears i v } ad la ca ∧ KF (lfoot n ad S d pu) H (upd H (ad .h) (.lst (((List.range n).map fun j => V.bl (S.hears j)).set i (.bl v)))) := by
  have hp := h.put (t0 := .h) trivial (S' := { S with hears := fup S.hears i v }) (la' := la) (ca' := ca) (fun t => by cases t <;> exact Iff.rfl) (fun t ht _ => by cases t <;> first | rfl | exact absurd rfl ht) h.hn.lt h.hn.ct rfl rfl rfl
  have en : node n ad { S with hears := fup S.hears i v } la ca .h = .lst (((List.range n).map fun j => V.bl (S.hears j)).set i (.bl v)) := by
    rw [range_set]
    show HO.lst _ = HO.lst _
    congr 1
    refine List.map_congr_left fun j _ => ?_
    show V.bl (fup S.hears i v j) = fup (fun j => V.bl (S.hears j)) i (.bl v) j
    unfold fup
    split <;> rfl
  rw [en] at hp
  exact hp
theorem LW.stay (h : LW K H d pu n S ad la ca) {i : Nat} (hi : i < n) {q : Addr} (nq : H q = none) :
    LW K (upd (upd H q (.lst [])) (ad (.sl i)) (.lst ((List.range (S.stays i).length).map (fun j => V.ref (ad (.sy i j))) ++ [.ref q]))) d pu n { S with stays := fup S.stays i (S.stays i ++ [[]]) } (adS ad i (S.stays i).length q) la ca ∧
      KF (lfoot n ad S d pu) H (upd (upd H q (.lst [])) (ad (.sl i)) (.lst ((List.range (S.stays i).length).map (fun j => V.ref (ad (.sy i j))) ++ [.ref q]))) ∧
      ∀ c, lfoot n (adS ad i (S.stays i).length q) { S with stays := fup S.stays i (S.stays i ++ [[]]) } d pu c → lfoot n ad S d pu c ∨ H c = none := by
  have k1 : K0 H (upd H q (.lst [])) := K0.new nq
  have h1 := h.k0 k1
  have k2 : Kt (ad (.sl i)) (upd H q (.lst [])) (upd (upd H q (.lst [])) (ad (.sl i)) (.lst ((List.range (S.stays i).length).map (fun j => V.ref (ad (.sy i j))) ++ [.ref q]))) := h1.hn.ktu (t0 := .sl i) hi
  have old : ∀ t, alive n { S with stays := fup S.stays i (S.stays i ++ [[]]) } t → t ≠ .sy i (S.stays i).length → alive n S t := fun t ht hne => by
    cases t with
    | sy a b =>
      obtain ⟨ha, hb⟩ := ht
      refine ⟨ha, ?_⟩
      have hb' : b < (fup S.stays i (S.stays i ++ [[]]) a).length := hb
      by_cases e : a = i
      · subst e
        rw [fup_same, List.length_append] at hb'
        have : b ≠ (S.stays a).length := fun z => hne (by rw [z])
        have hb2 : b < (S.stays a).length + 1 := hb'
        omega
      · rw [fup_ne e] at hb'
        exact hb'
    | _ => exact ht
  have qne : ∀ t, alive n S t → ad t ≠ q := fun t ht z => by
    have e := h.hn.nd t ht
    rw [z, nq] at e; cases e
  have qd : q ≠ d := fun z => by rw [z, h.hd] at nq; cases nq
  have qp : q ≠ pu := fun z => by rw [z, h.hp] at nq; cases nq
  refine ⟨⟨?_, ?_, ⟨fun t ht => ?_, fun t t' ht ht' e => ?_, fun j hj => ?_, fun j hj => ?_⟩, fun t ht => ?_⟩, ?_, fun c hc => ?_⟩
  · rw [upd_ne (h.dn (t := .sl i) hi).symm, upd_ne qd.symm]; exact h.hd
  · rw [upd_ne (h.pn (.sl i) hi).symm, upd_ne qp.symm]; exact h.hp
  · by_cases e : t = .sy i (S.stays i).length
    · subst e
      rw [adS_same]
      have : q ≠ ad (.sl i) := (qne (.sl i) hi).symm
      rw [upd_ne this, upd_same]
      show some (HO.lst []) = some (.lst (((fup S.stays i (S.stays i ++ [[]]) i).getD (S.stays i).length []).map V.int))
      rw [fup_same, List.getD_eq_getElem?_getD, List.getElem?_append_right (Nat.le_refl _), Nat.sub_self]
      rfl
    · have ht0 := old t ht e
      rw [adS_ne e]
      by_cases e2 : t = .sl i
      · subst e2
        rw [upd_same]
        show _ = some (HO.lst ((List.range (fup S.stays i (S.stays i ++ [[]]) i).length).map fun j => V.ref (adS ad i (S.stays i).length q (.sy i j))))
        rw [fup_same, List.length_append]
        show _ = some (HO.lst ((List.range ((S.stays i).length + 1)).map fun j => V.ref (adS ad i (S.stays i).length q (.sy i j))))
        rw [List.range_succ, List.map_append]
        congr 2
        congr 1
        · refine List.map_congr_left fun j hj => ?_
          have hj2 := List.mem_range.mp hj
          rw [adS_ne (fun z => by cases z; omega)]
        · show _ = [V.ref (adS ad i (S.stays i).length q (.sy i (S.stays i).length))]
          rw [adS_same]
      · have ne : ad t ≠ ad (.sl i) := fun z => e2 (h.hn.inj t (.sl i) ht0 hi z)
        rw [upd_ne ne, upd_ne (qne t ht0), h.hn.nd t ht0]
        cases t with
        | sl j =>
          have hj : j ≠ i := fun z => e2 (by rw [z])
          show some (HO.lst _) = some (HO.lst ((List.range (fup S.stays i (S.stays i ++ [[]]) j).length).map fun k => V.ref (adS ad i (S.stays i).length q (.sy j k))))
          rw [fup_ne hj]
          congr 2
          refine List.map_congr_left fun k _ => ?_
          rw [adS_ne (fun z => by cases z; exact hj rfl)]
        | sy a b =>
          show some (HO.lst _) = some (HO.lst (((fup S.stays i (S.stays i ++ [[]]) a).getD b []).map V.int))
          by_cases ea : a = i
          · subst ea
            rw [fup_same, List.getD_eq_getElem?_getD, List.getD_eq_getElem?_getD, List.getElem?_append_left ht0.2]
          · rw [fup_ne ea]
        | _ => rfl
  · by_cases e1 : t = .sy i (S.stays i).length
    · by_cases e2 : t' = .sy i (S.stays i).length
      · rw [e1, e2]
      · rw [e1, adS_same, adS_ne e2] at e
        exact absurd e.symm (qne t' (old t' ht' e2))
    · by_cases e2 : t' = .sy i (S.stays i).length
      · rw [e2, adS_same, adS_ne e1] at e
        exact absurd e (qne t (old t ht e1))
      · rw [adS_ne e1, adS_ne e2] at e
        exact h.hn.inj t t' (old t ht e1) (old t' ht' e2) e
  · exact (h1.hn.lt j hj).mono fun _ _ => k2.sqT
  · exact (h1.hn.ct j hj).mono fun _ _ => k2.sqT
  · by_cases e : t = .sy i (S.stays i).length
    · rw [e, adS_same]; exact qp
    · rw [adS_ne e]; exact h.pn t (old t ht e)
  · exact (k1.kf (F := lfoot n ad S d pu)).trans (k2.kf (F := fun c => c = ad (.sl i)) rfl) fun c hc => .inl (by rw [hc]; exact .inr (.inr ⟨.sl i, hi, rfl⟩))
  · rcases hc with rfl | rfl | ⟨t, ht, rfl⟩
    · exact .inl (.inl rfl)
    · exact .inl (.inr (.inl rfl))
    · by_cases e : t = .sy i (S.stays i).length
      · rw [e, adS_same]; exact .inr nq
      · rw [adS_ne e]; exact .inl (.inr (.inr ⟨t, old t ht e, rfl⟩))
/-- the next number is written -/
theorem LW.next (h : LW K H d pu n S ad la ca) (e : Int) :
    LW K (upd H d (.dK (stK ad pu e))) d pu n { S with emitted := e } ad la ca ∧ KF (lfoot n ad S d pu) H (upd H d (.dK (stK ad pu e))) := by
  have k : Kt d H (upd H d (.dK (stK ad pu e))) := Kt.dct h.hd
  have al : ∀ t, alive n { S with emitted := e } t ↔ alive n S t := fun t => by cases t <;> exact Iff.rfl
  refine ⟨⟨upd_same, by rw [upd_ne h.dpu.symm]; exact h.hp, ⟨fun t ht => ?_, fun t t' x y => h.hn.inj t t' ((al t).mp x) ((al t').mp y), fun i hi => (h.hn.lt i hi).mono fun _ _ => k.sqT, fun i hi => (h.hn.ct i hi).mono fun _ _ => k.sqT⟩, fun t ht => h.pn t ((al t).mp ht)⟩, k.kf (.inl rfl)⟩
  rw [upd_ne (h.dn ((al t).mp ht)), h.hn.nd t ((al t).mp ht)]
  cases t <;> rfl
theorem putK_next {ad : Tg → Addr} {pu : Addr} {e e' : Int} : putK (stK ad pu e) (.inr "next" : Key) (.int e') = stK ad pu e' := rfl
end
end HK

set_option Elab.async false
set_option linter.all false
set_option maxRecDepth 100000
set_option maxHeartbeats 8000000
namespace HK
open PySem PySem.Spec PyProof.Rows L2 GAl GxR
open Evl (pss_cut)
abbrev sKGoes : Stmt := topS 84
abbrev N_scKGoes : List Str := ["up", "state", "deed", "place", "number", "count", "one", "was", "begins"]
theorem scKGoes : FnScope N_scKGoes ["up", "state", "deed"] (defScope sKGoes) := ⟨rfl, rfl, rfl, by decide +kernel, rfl, by decide +kernel, by decide +kernel⟩
theorem copyTo_em {num : Int} : ∀ (l : List (Int × Int)) (S : HS), (l.foldl (copyTo num) S).emitted = S.emitted
  | [], _ => rfl
  | q :: l, S => copyTo_em (num := num) l (copyTo num S q)
theorem takeNum_em {S : HS} {i : Nat} {num : Int} : (takeNumS S i num).emitted = S.emitted := by
  unfold takeNumS
  rw [copyTo_em]
  unfold hearNum
  split <;> rfl
section
variable {P : Program} {w : World} {K : PySem.W.Frag} {mg : Str → Option Value} {base : Heap}
def spKGoes (K : PySem.W.Frag) : Sp := fun vs H Q _ => ∃ (p d a : Addr) (us : List (Option Int)) (r : Nat) (S : HS) (F : Addr → Prop) (m : Nat) (e : Deed), vs = [.ref p, .ref d, .ref a] ∧ WaysAt H p us ∧ Ways us ∧ Law K H d us.length S F ∧ SqT K H a e.vs ∧ HInv us r S m ∧ m ≤ 700 ∧ Legal us S e ∧
  ∀ (F' : Addr → Prop) (H' : Hp), KF F H H' → (∀ c, F' c → F c ∨ H c = none) → Law K H' d us.length (doS us (r : Int) true S e) F' → Q (doV S e) H'
theorem ok_kgoes {f : Addr} {fd : FuncData} {f_kwants f_ktells f_ktakes : Addr} {fd_kwants fd_ktells fd_ktakes : FuncData} (F : Fun K "_law_e_goes" "_law_e_goes" sKGoes f fd) (k_kwants : PySem.W.keepIn K (.ref f_kwants) = true) (b_kwants : Binds K fd_kwants ["state", "place"] []) (g_kwants : mg "_law_e_wants" = some (.ref f_kwants)) (G_kwants : FnOk P w K mg base CX0 1 f_kwants fd_kwants ["state", "place"] (spKWants K))
    (k_ktells : PySem.W.keepIn K (.ref f_ktells) = true) (b_ktells : Binds K fd_ktells ["up", "state", "place", "was"] []) (g_ktells : mg "_law_e_tells" = some (.ref f_ktells)) (G_ktells : FnOk P w K mg base CX0 2 f_ktells fd_ktells ["up", "state", "place", "was"] (spKTells K))
    (k_ktakes : PySem.W.keepIn K (.ref f_ktakes) = true) (b_ktakes : Binds K fd_ktakes ["state", "place", "number"] []) (g_ktakes : mg "_law_e_takes" = some (.ref f_ktakes)) (G_ktakes : FnOk P w K mg base CX0 1 f_ktakes fd_ktakes ["state", "place", "number"] (spKTakes K)) : FnOk P w K mg base CX0 3 f fd ["up", "state", "deed"] (spKGoes K) := by
  refine F.ok scKGoes (fun vs H Q E h => ?_) (fun cdv A outer s H vs Q E hr h => ?_)
  · obtain ⟨p, d, a, us, r, S, F, m, e, rfl, _⟩ := h
    rfl
  · obtain ⟨p, d, a, us, r, S, F, m, e, rfl, hA, hW, hl, ha, hv, hm, hlg, q⟩ := h
    have hu := hu_of hr
    refine ⟨_, (pss_cons (ps_if (pt_cmpR op_eq (pe_ix ix_tup (pv 2) pe_int (fun _ _ => rfl)) pe_str (nomark _)) (pss_cons (ps_dput hu (pv 1) pe_str (pe_op op_add (pe_dget hu (pv 1) pe_str (fun _ _ => rfl)) pe_int) rfl)
      (pss_cons (ps_expr (pe_call G_ktakes (hr.mono (by decide)) (by rfl) g_ktakes k_ktakes b_ktakes .nil pass0 (pa_cons (pv 1) (pa_cons (pe_bmF PySem.F.plainAttrs_tuple PySem.F.slot_tuple_index PySem.F.type_tuple_index (mt_indexT (show (A.deeper (envOfC "_law_e_goes" (defScope sKGoes) s.heap.objs.size f cdv)).units + 65 < cLine by have := hr.un; omega)) (pv 0) (pa_cons pe_non pa_nil)) (pa_cons (pe_op op_sub (pe_dget hu (pv 1) pe_str (fun _ _ => rfl)) pe_int) pa_nil)))))
      (pss_one (ps_ret (pe_op op_sub (pe_dget hu (pv 1) pe_str (fun _ _ => rfl)) pe_int))))) pss_nil)
      (pss_cons (ps_set (i := 3) scKGoes.nd rfl (.inl rfl) (pe_ix ix_tup (pv 2) pe_int (fun _ _ => rfl)))
      (pss_cons (ps_if (pt_cmpR op_eq (pe_ix ix_tup (pv 2) pe_int (fun _ _ => rfl)) pe_str (nomark _)) (pss_cons (ps_asg (pe_bm PySem.F.plainAttrs_list PySem.F.slot_list_pop PySem.F.type_list_pop mt_popAt (pe_ix ix_list (pe_dget hu (pv 1) pe_str (fun _ _ => rfl)) (pv 3) (fun _ _ => rfl)) (pa_cons pe_int pa_nil)) (pg_tup rfl (pgs_cons (pg_name (i := 4) scKGoes.nd rfl (.inl rfl)) (pgs_cons (pg_name (i := 5) scKGoes.nd rfl (.inl rfl)) pgs_nil))))
      (pss_cons (ps_if (PW.pt (pw_and (pt_val (pe_call G_kwants (hr.mono (by decide)) (by rfl) g_kwants k_kwants b_kwants .nil pass0 (pa_cons (pv 1) (pa_cons (pv 3) pa_nil)))) (pw_and1 (pt_cmpR op_eq (pv 5) (pe_ix ix_list (pe_dget hu (pv 1) pe_str (fun _ _ => rfl)) (pv 3) (fun _ _ => rfl)) (nomark _))))) (pss_one (ps_expr (pe_call G_ktakes (hr.mono (by decide)) (by rfl) g_ktakes k_ktakes b_ktakes .nil pass0 (pa_cons (pv 1) (pa_cons (pv 3) (pa_cons (pv 4) pa_nil)))))) pss_nil)
      (pss_one (ps_ret pe_non)))) pss_nil)
      (pss_cons (ps_set (i := 6) scKGoes.nd rfl (.inl rfl) (pv 3))
      (pss_cons (ps_if (pt_cmpR op_eq (pe_ix ix_tup (pv 2) pe_int (fun _ _ => rfl)) pe_str (nomark _)) (pss_one (ps_set (i := 6) scKGoes.nd rfl (.inl rfl) (pe_ix ix_tup (pv 0) (pv 3) (fun _ _ => rfl)))) pss_nil)
      (pss_cons (ps_set (i := 7) scKGoes.nd rfl (.inl rfl) (pe_call G_kwants (hr.mono (by decide)) (by rfl) g_kwants k_kwants b_kwants .nil pass0 (pa_cons (pv 1) (pa_cons (pv 6) pa_nil))))
      (pss_cons (ps_if (pt_cmpR op_eq (pe_ix ix_tup (pv 2) pe_int (fun _ _ => rfl)) pe_str (nomark _)) (pss_cons (ps_asg pe_bl (pg_sub (pe_dget hu (pv 1) pe_str (fun _ _ => rfl)) (pv 3) set_list))
      (pss_one (ps_expr (pe_bm PySem.F.plainAttrs_list PySem.F.slot_list_append PySem.F.type_list_append mt_append (pe_ix ix_list (pe_dget hu (pv 1) pe_str (fun _ _ => rfl)) (pv 3) (fun _ _ => rfl)) (pa_cons (pe_lst pa_nil) pa_nil))))) (pss_one (ps_if (pt_cmpR op_eq (pe_ix ix_tup (pv 2) pe_int (fun _ _ => rfl)) pe_str (nomark _)) (pss_one (ps_asg pe_bl (pg_sub (pe_dget hu (pv 1) pe_str (fun _ _ => rfl)) (pv 3) set_list))) (pss_cons (ps_asg (pe_bm PySem.F.plainAttrs_list PySem.F.slot_list_pop PySem.F.type_list_pop mt_popAt (pe_ix ix_list (pe_dget hu (pv 1) pe_str (fun _ _ => rfl)) (pv 3) (fun _ _ => rfl)) (pa_cons pe_int pa_nil)) (pg_tup rfl (pgs_cons (pg_name (i := 8) scKGoes.nd rfl (.inl rfl)) (pgs_cons (pg_name (i := 5) scKGoes.nd rfl (.inl rfl)) pgs_nil))))
      (pss_cons (ps_expr (pe_dpop2 (pe_ix ix_list (pe_dget hu (pv 1) pe_str (fun _ _ => rfl)) (pv 6) (fun _ _ => rfl)) (pv 3) pe_non ⟨rfl, rfl, rfl, rfl⟩))
      (pss_one (ps_if (pt_val (pv 8)) (pss_one (ps_dput hu (pe_ix ix_list (pe_dget hu (pv 1) pe_str (fun _ _ => rfl)) (pv 6) (fun _ _ => rfl)) (pv 3) (pv 5) rfl)) pss_nil)))))))
      (pss_cons (ps_expr (pe_call G_ktells (hr.mono (by decide)) (by rfl) g_ktells k_ktells b_ktells .nil pass0 (pa_cons (pv 0) (pa_cons (pv 1) (pa_cons (pv 6) (pa_cons (pv 7) pa_nil))))))
      (pss_one (ps_ret pe_non)))))))))), ?_⟩
    obtain ⟨hcan, _⟩ := hv.can (cnt := true) hW hm hlg
    obtain ⟨r0, hr0, hr1⟩ := hW.one
    obtain rfl := hr1 r hv.hr
    have hr2 := hr1
    have hl' := hl
    obtain ⟨pu, ad, la, ca, h, hF⟩ := hl
    have hp := hA.sq (K := K)
    cases e with
    | emit =>
      refine ⟨_, rfl, a, _, 0, _, rfl, rfl, ha, atI_nat (j := 0) rfl, rfl, true, rfl, iteT ?_⟩
      obtain ⟨h1, k1⟩ := h.next (S.emitted + 1)
      refine ⟨_, rfl, d, _, rfl, h.get gK7, _, 1, rfl, rfl, _, rfl, d, _, rfl, DPut.k (k := .inr "next") h.hd (by show 8 < sizeLine; decide), ?_⟩
      rw [putK_next]
      have hA1 : WaysAt (upd H d (.dK (stK ad pu (S.emitted + 1)))) p us := by
        obtain ⟨o, e1, e2⟩ := hA
        exact ⟨o, k1.frz _ _ _ e1, e2⟩
      generalize upd H d (.dK (stK ad pu (S.emitted + 1))) = G at h1 k1 hA1 ⊢
      obtain ⟨o, hpo, oc, od⟩ := hA1
      refine ⟨_, rfl, _, rfl, ⟨p, o, _, rfl, hpo, oc, od⟩, p, .non, .none, us.map oD, r, .none, rfl, rfl, .tup (.inl (.inr ⟨o, hpo⟩)) (oV_dp us), .non, shaped_us us, by decide +kernel, by rw [List.getElem?_map, hr0]; rfl, by decide +kernel, fun m z' hm hz' => ?_, ?_⟩
      · rw [List.getElem?_map] at hz'
        cases e : us[m]? with
        | none => rw [e] at hz'; cases hz'
        | some x =>
          rw [e] at hz'
          cases hz'
          cases x with
          | none => have := hr1 m e; omega
          | some u => simp [oD, PyData.eqv]
      have ho := hv.numOk (i := r) hm
      have hrl : r < us.length := (List.getElem?_eq_some_iff.mp hv.hr).1
      have eN : S.emitted + 1 - 1 = S.emitted := by omega
      refine ⟨_, rfl, d, _, rfl, h1.get gK7, _, 1, rfl, rfl, d, us.length, _, _, r, S.emitted + 1 - 1, rfl, h1.law, hrl, ⟨ho.st, ho.ks, ho.few, ho.sl⟩, hv.nd r, fun F' H' k' hF' hH' => ?_⟩
      rw [eN] at hH'
      have hE : emitS S r = takeNumS { S with emitted := S.emitted + 1 } r S.emitted := rfl
      have hH2 := hH'
      obtain ⟨pu', ad', la', ca', h2, hF2⟩ := hH'
      have em : (takeNumS { S with emitted := S.emitted + 1 } r S.emitted).emitted = S.emitted + 1 := takeNum_em
      have ge := h2.get (gK7 (ad := ad') (pu := pu'))
      rw [em] at ge
      refine ⟨_, rfl, d, _, rfl, ge, _, 1, rfl, rfl, ?_⟩
      show Q (.int (S.emitted + 1 - 1)) H'
      rw [eN]
      have kF : KF F H G := k1.of fun c hc => (hF c).mpr hc
      have fe : ∀ c, lfoot us.length ad { S with emitted := S.emitted + 1 } d pu c → F c := fun c hc => (hF c).mpr ((lfoot_eq (S := S) (fun t => by cases t <;> exact Iff.rfl)).mp hc)
      refine q F' H' (kF.trans k' fun c hc => .inl (fe c hc)) (fun c hc => ?_) hH2
      rcases hF' c hc with z | z
      · exact .inl (fe c z)
      · exact .inr (kF.dom c z)
    | pl dw i =>
      refine ⟨_, rfl, a, _, 0, _, rfl, rfl, ha, atI_nat (j := 0) rfl, rfl, false, by cases dw <;> decide +kernel, iteF ?_⟩
      refine ⟨_, rfl, a, _, 1, _, rfl, rfl, ha, atI_nat (j := 1) rfl, ?_⟩
      cases dw with
      | down =>
        obtain ⟨hi, hne⟩ := hlg
        cases hc : S.copies i with
        | nil => exact absurd hc hne
        | cons q0 rest =>
        obtain ⟨num, c⟩ := q0
        have eD : doS us (r : Int) true S (.pl .down i) = gotS S true i num c rest := by
          show (match S.copies i with
            | (n, c) :: rest => gotS S true i n c rest
            | _ => S) = _
          rw [hc]
        rw [eD] at q
        refine ⟨_, rfl, a, _, 0, _, rfl, rfl, ha, atI_nat (j := 0) rfl, rfl, true, by decide +kernel, iteT ?_⟩
        obtain ⟨tp, ta, ec, ht, h1, k1⟩ := h.popC hi hc
        have e1 := h.hn.nd (.cr i) hi
        have e2 : H (ad (.cr i)) = some (.lst (V.ref tp :: ta.map V.ref)) := by
          rw [e1]
          show some (HO.lst ((ca i).map V.ref)) = _
          rw [ec]; rfl
        have ho := hv.numOk (i := i) hm
        have few1 : ∀ j, ((fup S.copies i rest) j).length ≤ (S.copies j).length := fun j => by
          by_cases e : j = i
          · subst e; rw [fup_same, hc]; exact Nat.le_succ _
          · rw [fup_ne e]; exact Nat.le_refl _
        have ho1 : NumOk us.length { S with copies := fup S.copies i rest } i := ⟨ho.st, ho.ks, fun j hj => Nat.lt_of_le_of_lt (Nat.add_le_add_right (few1 j) _) (ho.few j hj), ho.sl⟩
        refine ⟨_, rfl, d, _, rfl, h.get gK5, _, rfl, ad .p, _, (i : Int), .ref (ad (.cr i)), rfl, rfl, .inl (.inl (h.hn.nd .p trivial)), atI_nat (range_at _ hi), .inl ⟨rfl, _, .inl (.inl e2)⟩, ad (.cr i), _, 0, 0, .ref tp, rfl, rfl, e2, by decide, by decide, by rw [PyProof.Rows.seqIndex_at (by omega) (by rw [List.length_cons]; omega)]; rfl, rfl, ?_⟩
        have ht1 : SqT K (upd H (ad (.cr i)) (.lst (ta.map V.ref))) tp [.int num, .int c] := k1.sqT ht
        generalize hG : upd H (ad (.cr i)) (.lst (ta.map V.ref)) = G at h1 k1 ht1
        have hG' : upd H (ad (.cr i)) (.lst ((V.ref tp :: ta.map V.ref).eraseIdx 0)) = G := hG
        rw [hG']
        refine ⟨tp, _, rfl, ht1, rfl, _, _, rfl, _, _, rfl, rfl, ?_⟩
        have kF : KF F H G := k1.of fun c hc => (hF c).mpr hc
        have hF1 : ∀ c, lfoot us.length ad { S with copies := fup S.copies i rest } d pu c → F c := fun c hc => (hF c).mpr ((lfoot_eq (S := S) (fun t => by cases t <;> exact Iff.rfl)).mp hc)
        have skip : ¬ (needS S i = true ∧ (c = S.counts i ∨ true = false)) → Q .non G := fun z => q _ G kF (fun c hc => .inl (hF1 c hc)) (by unfold gotS; rw [if_neg z]; exact h1.law)
        refine ⟨_, rfl, _, rfl, d, us.length, _, _, i, rfl, h1.law, hi, ?_⟩
        have e3 : needS { S with copies := fup S.copies i rest } i = needS S i := rfl
        rw [e3]
        refine ⟨_, rfl, ?_⟩
        cases hn : needS S i with
        | false => exact iteF (iteF (skip fun z => by rw [hn] at z; cases z.1))
        | true =>
          refine iteT ⟨_, rfl, _, rfl, d, _, rfl, h1.get gK2, _, rfl, ad .c, _, (i : Int), .int (S.counts i), rfl, rfl, .inl (.inl (h1.hn.nd .c trivial)), atI_nat (range_at _ hi), rfl, _, rfl, ?_⟩
          by_cases hcc : c = S.counts i
          · rw [decide_eq_true (show V.int c = V.int (S.counts i) by rw [hcc])]
            refine iteT ⟨_, rfl, _, rfl, _, rfl, d, us.length, _, _, i, num, rfl, h1.law, hi, ho1, hv.nd i, fun F' H' k' hF' hH' => ?_⟩
            refine q F' H' (kF.trans k' fun c hc => .inl (hF1 c hc)) (fun c hc => ?_) (by unfold gotS; rw [if_pos ⟨hn, .inl hcc⟩]; exact hH')
            rcases hF' c hc with z | z
            · exact .inl (hF1 c z)
            · exact .inr (kF.dom c z)
          · rw [decide_eq_false (show ¬ V.int c = V.int (S.counts i) from fun z => hcc (V.int.inj z))]
            exact iteF (skip fun z => z.2.elim hcc fun y => Bool.noConfusion y)
      | come =>
        obtain ⟨hi, _, hsz, hst⟩ := hcan
        refine ⟨_, rfl, a, _, 0, _, rfl, rfl, ha, atI_nat (j := 0) rfl, rfl, false, by decide +kernel, iteF ?_⟩
        refine ⟨_, rfl, ?_⟩
        refine ⟨_, rfl, a, _, 0, _, rfl, rfl, ha, atI_nat (j := 0) rfl, rfl, false, by decide +kernel, iteF ?_⟩
        refine ⟨_, rfl, _, rfl, d, us.length, S, F, i, rfl, hl', hi, ?_⟩
        refine ⟨_, rfl, a, _, 0, _, rfl, rfl, ha, atI_nat (j := 0) rfl, rfl, true, by decide +kernel, iteT ?_⟩
        have h1 := h.hears (i := i) true
        refine ⟨_, rfl, d, _, rfl, h.get gK1, _, rfl, ad .h, _, (i : Int), i, rfl, rfl, h.hn.nd .h trivial, ?_, ?_⟩
        · rw [List.length_map, List.length_range]
          exact Evl.ixN_nat hi
        generalize upd H (ad .h) (.lst (((List.range us.length).map fun j => V.bl (S.hears j)).set i (.bl true))) = H1 at h1 ⊢
        refine ⟨_, rfl, d, _, rfl, h1.1.get gK6, _, rfl, ad .t, _, (i : Int), .ref (ad (.sl i)), rfl, rfl, .inl (.inl (h1.1.hn.nd .t trivial)), atI_nat (range_at _ hi), .inl ⟨rfl, _, .inl (.inl (h1.1.hn.nd (.sl i) hi))⟩, Nat.zero_le _, fun q1 nq1 => ?_⟩
        obtain ⟨h2, k2, f2⟩ := h1.1.stay hi nq1
        have e1 := (h1.1.k0 (K0.new nq1 (o := .lst []))).hn.nd (.sl i) hi
        refine ⟨ad (.sl i), _, .ref q1, rfl, rfl, e1, ?_, ?_⟩
        · show ((List.range (S.stays i).length).map _).length < _
          rw [List.length_map, List.length_range, sizeLine_eq]; omega
        have k12 : KF F H _ := (h1.2.of fun c hc => (hF c).mpr hc).trans (k2.of fun c hc => hc) fun c hc => .inl ((hF c).mpr hc)
        refine ⟨_, rfl, _, rfl, _, rfl, _, rfl, p, d, us, r, _, _, i, needS S i, rfl, k12.sqT hp, hr0, hr1, h2.law, hi, hsz, fun F' H' k' hF' hH' => q F' H' ?_ (fun c hc => ?_) hH'⟩
        · refine k12.trans k' fun c hc => ?_
          rcases f2 c hc with z | z
          · exact .inl ((hF c).mpr z)
          · exact .inr (h1.2.dom c z)
        · rcases hF' c hc with z | z
          · rcases f2 c z with z | z
            · exact .inl ((hF c).mpr z)
            · exact .inr (h1.2.dom c z)
          · exact .inr (k12.dom c z)
      | go =>
        obtain ⟨hi, hh, hsz⟩ := hcan
        have hn : needS S i = true := by unfold needS; rw [hh]; rfl
        refine ⟨_, rfl, a, _, 0, _, rfl, rfl, ha, atI_nat (j := 0) rfl, rfl, false, by decide +kernel, iteF ?_⟩
        refine ⟨_, rfl, ?_⟩
        refine ⟨_, rfl, a, _, 0, _, rfl, rfl, ha, atI_nat (j := 0) rfl, rfl, false, by decide +kernel, iteF ?_⟩
        refine ⟨_, rfl, _, rfl, d, us.length, S, F, i, rfl, hl', hi, ?_⟩
        refine ⟨_, rfl, a, _, 0, _, rfl, rfl, ha, atI_nat (j := 0) rfl, rfl, false, by decide +kernel, iteF ?_⟩
        refine ⟨_, rfl, a, _, 0, _, rfl, rfl, ha, atI_nat (j := 0) rfl, rfl, true, by decide +kernel, iteT ?_⟩
        have h1 := h.hears (i := i) false
        refine ⟨_, rfl, d, _, rfl, h.get gK1, _, rfl, ad .h, _, (i : Int), i, rfl, rfl, h.hn.nd .h trivial, ?_, ?_⟩
        · rw [List.length_map, List.length_range]
          exact Evl.ixN_nat hi
        have kF : KF F H _ := h1.2.of fun c hc => (hF c).mpr hc
        refine ⟨_, rfl, _, rfl, _, rfl, _, rfl, p, d, us, r, _, _, i, needS S i, rfl, kF.sqT hp, hr0, hr1, h1.1.law, hi, hsz, fun F' H' k' hF' hH' => q F' H' (kF.trans k' fun c hc => .inl ((hF c).mpr hc)) (fun c hc => ?_) (by rw [hn] at hH'; exact hH')⟩
        rcases hF' c hc with z | z
        · exact .inl ((hF c).mpr z)
        · exact .inr (kF.dom c z)
      | up =>
        obtain ⟨hi, _, j, b, c, rest, hj, hij, hlt, hsz, hsv, hb⟩ := hcan
        have eD : doS us (r : Int) true S (.pl .up i) = tletS S (r : Int) j i b c rest := by
          show (match S.letters i, us[i]? with
            | (b, c) :: rest, some (some j) => tletS S (r : Int) j.toNat i b c rest
            | _, _ => S) = _
          rw [hlt, hij]
          rfl
        rw [eD] at q
        refine ⟨_, rfl, a, _, 0, _, rfl, rfl, ha, atI_nat (j := 0) rfl, rfl, false, by decide +kernel, iteF ?_⟩
        refine ⟨_, rfl, ?_⟩
        refine ⟨_, rfl, a, _, 0, _, rfl, rfl, ha, atI_nat (j := 0) rfl, rfl, true, by decide +kernel, iteT ?_⟩
        refine ⟨_, rfl, _, rfl, p, _, (i : Int), .int (j : Int), rfl, rfl, hp, atI_nat (by rw [List.getElem?_map, hij]; rfl), ?_⟩
        refine ⟨_, rfl, _, rfl, d, us.length, S, F, j, rfl, hl', hj, ?_⟩
        refine ⟨_, rfl, a, _, 0, _, rfl, rfl, ha, atI_nat (j := 0) rfl, rfl, false, by decide +kernel, iteF ?_⟩
        refine ⟨_, rfl, a, _, 0, _, rfl, rfl, ha, atI_nat (j := 0) rfl, rfl, false, by decide +kernel, iteF ?_⟩
        obtain ⟨tp, ta, ec, ht, h1, k1⟩ := h.popL hi hlt
        have e1 := h.hn.nd (.lr i) hi
        have e2 : H (ad (.lr i)) = some (.lst (V.ref tp :: ta.map V.ref)) := by
          rw [e1]
          show some (HO.lst ((la i).map V.ref)) = _
          rw [ec]; rfl
        refine ⟨_, rfl, d, _, rfl, h.get gK4, _, rfl, ad .l, _, (i : Int), .ref (ad (.lr i)), rfl, rfl, .inl (.inl (h.hn.nd .l trivial)), atI_nat (range_at _ hi), .inl ⟨rfl, _, .inl (.inl e2)⟩, ad (.lr i), _, 0, 0, .ref tp, rfl, rfl, e2, by decide, by decide, by rw [PyProof.Rows.seqIndex_at (by omega) (by rw [List.length_cons]; omega)]; rfl, rfl, ?_⟩
        have ht1 : SqT K (upd H (ad (.lr i)) (.lst (ta.map V.ref))) tp [.bl b, .int c] := k1.sqT ht
        generalize hG : upd H (ad (.lr i)) (.lst (ta.map V.ref)) = G at h1 k1 ht1
        have hG' : upd H (ad (.lr i)) (.lst ((V.ref tp :: ta.map V.ref).eraseIdx 0)) = G := hG
        rw [hG']
        have kF : KF F H G := k1.of fun c hc => (hF c).mpr hc
        have hF1 : ∀ c, lfoot us.length ad { S with letters := fup S.letters i rest } d pu c → F c := fun c hc => (hF c).mpr ((lfoot_eq (S := S) (fun t => by cases t <;> exact Iff.rfl)).mp hc)
        refine ⟨tp, _, rfl, ht1, rfl, _, _, rfl, _, _, rfl, rfl, ?_⟩
        have sv1 : G (ad (.sd j)) = some (.dK ((S.served j).map srv)) := h1.hn.nd (.sd j) hj
        have le1 : ((fup S.letters i rest) j).length ≤ (S.letters j).length := by
          by_cases e : j = i
          · subst e; rw [fup_same, hlt]; exact Nat.le_succ _
          · rw [fup_ne e]; exact Nat.le_refl _
        refine ⟨_, rfl, d, _, rfl, h1.get gK3, _, rfl, ad .s, _, (j : Int), .ref (ad (.sd j)), rfl, rfl, .inl (.inl (h1.hn.nd .s trivial)), atI_nat (range_at _ hj), ad (.sd j), rfl, ?_, _, rfl, _, .inl (i : Int), sv1, rfl, ?_, ?_⟩
        · exact .inl ⟨_, .inl sv1⟩
        · intro v hv
          have bf : b = false := by
            cases b with
            | false => rfl
            | true =>
              refine absurd rfl (fun z => (hb.mp z) ?_)
              have y := valV_any (.inl (i : Int) : Key) ((S.served j).map srv)
              rw [hv] at y
              obtain ⟨kv, hkv, e⟩ := List.any_eq_true.mp y
              exact keys_srv.mp (List.mem_map.mpr ⟨kv, hkv, of_decide_eq_true e⟩)
          subst bf
          obtain ⟨h2, k2⟩ := h1.serve hj (dropI (S.served j) i)
          rw [dropK_srv]
          refine ⟨_, rfl, _, rfl, iteF ?_⟩
          refine ⟨_, rfl, _, rfl, _, rfl, _, rfl, p, d, us, r, _, _, j, needS S j, rfl, k2.sqT (kF.sqT hp), hr0, hr1, h2.law, hj, Nat.lt_of_le_of_lt le1 hsz, fun F' H' k' hF' hH' => q F' H' ?_ (fun c hc => ?_) hH'⟩
          · exact (kF.trans k2 fun c hc => .inl (hF1 c hc)).trans k' fun c hc => .inl (hF1 c ((lfoot_eq (fun t => by cases t <;> exact Iff.rfl)).mp hc))
          · rcases hF' c hc with z | z
            · exact .inl (hF1 c ((lfoot_eq (fun t => by cases t <;> exact Iff.rfl)).mp z))
            · exact .inr (kF.dom c (k2.dom c z))
        · intro hv
          have bt : b = true := by
            cases b with
            | true => rfl
            | false =>
              exfalso
              have ik : (i : Int) ∈ (S.served j).map (·.1) := by
                by_cases z : (i : Int) ∈ (S.served j).map (·.1)
                · exact z
                · exact absurd (hb.mpr z) Bool.false_ne_true
              have y := valV_any (.inl (i : Int) : Key) ((S.served j).map srv)
              rw [hv] at y
              obtain ⟨kv, hkv, e⟩ := List.mem_map.mp (keys_srv.mpr ik)
              have y2 : (((S.served j).map srv).any fun kv => decide (kv.1 = (.inl (i : Int) : Key))) = true := List.any_eq_true.mpr ⟨kv, hkv, decide_eq_true e⟩
              rw [y] at y2
              cases y2
          subst bt
          have nk : (.inl (i : Int) : Key) ∉ ((S.served j).map srv).map (·.1) := fun z => (hb.mp rfl) (keys_srv.mp z)
          obtain ⟨h2, k2⟩ := h1.serve hj (S.served j ++ [((i : Int), c)])
          refine ⟨_, rfl, _, rfl, iteT ⟨_, rfl, _, rfl, d, _, rfl, h1.get gK3, _, rfl, ad .s, _, (j : Int), .ref (ad (.sd j)), rfl, rfl, .inl (.inl (h1.hn.nd .s trivial)), atI_nat (range_at _ hj), _, rfl, ad (.sd j), _, rfl, DPut.k (k := .inl (i : Int)) sv1 (by rw [List.length_map, sizeLine_eq]; omega), ?_⟩⟩
          rw [putK_app nk]
          have e3 : (S.served j).map srv ++ [((.inl (i : Int) : Key), V.int c)] = (S.served j ++ [((i : Int), c)]).map srv := by rw [List.map_append]; rfl
          rw [e3]
          refine ⟨_, rfl, _, rfl, _, rfl, _, rfl, p, d, us, r, _, _, j, needS S j, rfl, k2.sqT (kF.sqT hp), hr0, hr1, h2.law, hj, Nat.lt_of_le_of_lt le1 hsz, fun F' H' k' hF' hH' => q F' H' ?_ (fun c hc => ?_) hH'⟩
          · exact (kF.trans k2 fun c hc => .inl (hF1 c hc)).trans k' fun c hc => .inl (hF1 c ((lfoot_eq (fun t => by cases t <;> exact Iff.rfl)).mp hc))
          · rcases hF' c hc with z | z
            · exact .inl (hF1 c ((lfoot_eq (fun t => by cases t <;> exact Iff.rfl)).mp z))
            · exact .inr (kF.dom c (k2.dom c z))
end
end HK

set_option Elab.async false
set_option linter.all false
set_option maxRecDepth 100000
set_option maxHeartbeats 8000000
namespace HK
open PySem PySem.Spec PyProof.Rows L2 GAl GxR
open Evl (pss_cut)
abbrev sKBegun : Stmt := topS 80
abbrev N_scKBegun : List Str := ["up", "state", "place"]
theorem scKBegun : FnScope N_scKBegun ["up"] (defScope sKBegun) := ⟨rfl, rfl, rfl, by decide +kernel, rfl, by decide +kernel, by decide +kernel⟩
/-- the six lists, each behind so many places -/
def six (ad : Tg → Addr) (m : Tg → Nat) : Tg → HO
  | .h => .lst ((List.range (m .h)).map fun _ => .bl false)
  | .c => .lst ((List.range (m .c)).map fun _ => .int 0)
  | .s => .lst ((List.range (m .s)).map fun j => .ref (ad (.sd j)))
  | .l => .lst ((List.range (m .l)).map fun j => .ref (ad (.lr j)))
  | .p => .lst ((List.range (m .p)).map fun j => .ref (ad (.cr j)))
  | .t => .lst ((List.range (m .t)).map fun j => .ref (ad (.sl j)))
  | .sd _ => .dK []
  | _ => .lst []
def al6 (m : Tg → Nat) : Tg → Prop
  | .sd k => k < m .s
  | .lr k => k < m .l
  | .cr k => k < m .p
  | .sl k => k < m .t
  | .sy _ _ => False
  | _ => True
/-- the state while it is made -/
structure LB (H G : Hp) (d pu : Addr) (ad : Tg → Addr) (m : Tg → Nat) : Prop where
  nd : ∀ t, al6 m t → G (ad t) = some (six ad m t)
  inj : ∀ t t', al6 m t → al6 m t' → ad t = ad t' → t = t'
  nH : ∀ t, al6 m t → H (ad t) = none
  hd : G d = some (.dK (stK ad pu 0))
  hp : G pu = some (.lst [.int 0, .int 0])
  dH : H d = none
  pH : H pu = none
  dn : ∀ t, al6 m t → ad t ≠ d
  pn : ∀ t, al6 m t → ad t ≠ pu
  k : K0 H G
/-- one of the lists is written, with or without one object more -/
theorem LB.write {H G G1 : Hp} {d pu q : Addr} {ad ad' : Tg → Addr} {m m' : Tg → Nat} {t0 t1 : Tg} (h : LB H G d pu ad m) (k1 : K0 G G1) (h0 : al6 m t0) (e0 : ad' t0 = ad t0) (eK : stK ad' pu 0 = stK ad pu 0)
    (al : ∀ t, al6 m' t → (al6 m t ∧ ad' t = ad t ∧ (t ≠ t0 → six ad' m' t = six ad m t)) ∨ (t = t1 ∧ ad' t = q ∧ G q = none ∧ G1 q = some (six ad' m' t))) :
    LB H (upd G1 (ad t0) (six ad' m' t0)) d pu ad' m' := by
  have nt : ∀ t ps, six ad m t ≠ .tbl ps := fun t => by cases t <;> exact fun _ z => by cases z
  refine ⟨fun t ht => ?_, fun t t' ht ht' e => ?_, fun t ht => ?_, ?_, ?_, h.dH, h.pH, fun t ht => ?_, fun t ht => ?_, ?_⟩
  · rcases al t ht with ⟨a, b, c⟩ | ⟨a, b, c, e⟩
    · by_cases z : t = t0
      · rw [z, e0, upd_same]
      · rw [b, upd_ne (fun y => z (h.inj t t0 a h0 y)), c z]
        exact k1.oth _ _ (h.nd t a) (nt t)
    · have : q ≠ ad t0 := fun z => by rw [z, h.nd t0 h0] at c; cases c
      rw [b, upd_ne this]; exact e
  · rcases al t ht with ⟨a, b, c⟩ | ⟨a, b, c, _⟩
    · rcases al t' ht' with ⟨a', b', c'⟩ | ⟨a', b', c', _⟩
      · rw [b, b'] at e; exact h.inj t t' a a' e
      · rw [b, b'] at e
        rw [← e, h.nd t a] at c'; cases c'
    · rcases al t' ht' with ⟨a', b', c'⟩ | ⟨a', b', c', _⟩
      · rw [b, b'] at e
        rw [e, h.nd t' a'] at c; cases c
      · rw [a, a']
  · rcases al t ht with ⟨a, b, c⟩ | ⟨a, b, c, _⟩
    · rw [b]; exact h.nH t a
    · rw [b]; exact h.k.dom _ c
  · rw [upd_ne (h.dn t0 h0).symm, eK]; exact k1.oth _ _ h.hd (fun _ z => by cases z)
  · rw [upd_ne (h.pn t0 h0).symm]; exact k1.oth _ _ h.hp (fun _ z => by cases z)
  · rcases al t ht with ⟨a, b, c⟩ | ⟨a, b, c, _⟩
    · rw [b]; exact h.dn t a
    · rw [b]; exact fun z => by rw [z, h.hd] at c; cases c
  · rcases al t ht with ⟨a, b, c⟩ | ⟨a, b, c, _⟩
    · rw [b]; exact h.pn t a
    · rw [b]; exact fun z => by rw [z, h.hp] at c; cases c
  · exact (h.k.trans k1).mut (h.nH t0 h0)
/-- all places are there: the state at the start -/
theorem LB.law {K : PySem.W.Frag} {H G : Hp} {d pu : Addr} {ad : Tg → Addr} {n : Nat} (h : LB H G d pu ad (fun _ => n)) : Law K G d n HS.ini (lfoot n ad HS.ini d pu) ∧ ∀ b, lfoot n ad HS.ini d pu b → H b = none := by
  have al : ∀ t, alive n HS.ini t → al6 (fun _ => n) t := fun t ht => by
    cases t with
    | sy a b => exact absurd ht.2 (Nat.not_lt_zero b)
    | _ => exact ht
  refine ⟨⟨pu, ad, nil0, nil0, ⟨h.hd, h.hp, ⟨fun t ht => ?_, fun t t' x y => h.inj t t' (al t x) (al t' y), fun i hi => ⟨rfl, fun j a v e => by cases e⟩, fun i hi => ⟨rfl, fun j a v e => by cases e⟩⟩, fun t ht => h.pn t (al t ht)⟩, fun _ => Iff.rfl⟩, fun b hb => ?_⟩
  · rw [h.nd t (al t ht)]
    cases t with
    | sy a b => exact absurd ht.2 (Nat.not_lt_zero b)
    | _ => rfl
  · rcases hb with rfl | rfl | ⟨t, ht, rfl⟩
    · exact h.dH
    · exact h.pH
    · exact h.nH t (al t ht)
theorem upd_fr {H : Hp} {a q : Addr} {o : HO} (h : upd H a o q = none) : q ≠ a ∧ H q = none := by
  by_cases e : q = a
  · rw [e, upd_same] at h; cases h
  · rw [upd_ne e] at h; exact ⟨e, h⟩
def bm (i : Nat) (k : Nat) : Tg → Nat
  | .h => if 1 ≤ k then i + 1 else i
  | .c => if 2 ≤ k then i + 1 else i
  | .s => if 3 ≤ k then i + 1 else i
  | .l => if 4 ≤ k then i + 1 else i
  | .p => if 5 ≤ k then i + 1 else i
  | _ => i
def ad0 (d qh qc qs ql qp qt : Addr) : Tg → Addr
  | .h => qh
  | .c => qc
  | .s => qs
  | .l => ql
  | .p => qp
  | .t => qt
  | _ => d
theorem LB.zero {H : Hp} {d qh qc qs ql qp qt pu : Addr} (nd : H d = none) (nh : upd H d (.dK []) qh = none) (nc : upd (upd H d (.dK [])) qh (.lst []) qc = none) (ns : upd (upd (upd H d (.dK [])) qh (.lst [])) qc (.lst []) qs = none)
    (nl : upd (upd (upd (upd H d (.dK [])) qh (.lst [])) qc (.lst [])) qs (.lst []) ql = none) (np : upd (upd (upd (upd (upd H d (.dK [])) qh (.lst [])) qc (.lst [])) qs (.lst [])) ql (.lst []) qp = none)
    (nt : upd (upd (upd (upd (upd (upd H d (.dK [])) qh (.lst [])) qc (.lst [])) qs (.lst [])) ql (.lst [])) qp (.lst []) qt = none) (nu : upd (upd (upd (upd (upd (upd (upd H d (.dK [])) qh (.lst [])) qc (.lst [])) qs (.lst [])) ql (.lst [])) qp (.lst [])) qt (.lst []) pu = none) :
    LB H (upd (upd (upd (upd (upd (upd (upd (upd (upd H d (.dK [])) qh (.lst [])) qc (.lst [])) qs (.lst [])) ql (.lst [])) qp (.lst [])) qt (.lst [])) pu (.lst [.int 0, .int 0])) d (.dK (stK (ad0 d qh qc qs ql qp qt) pu 0))) d pu (ad0 d qh qc qs ql qp qt) (fun _ => 0) := by
  have k := ((((((((K0.new nd (o := .dK [])).trans (K0.new nh (o := .lst []))).trans (K0.new nc (o := .lst []))).trans (K0.new ns (o := .lst []))).trans (K0.new nl (o := .lst []))).trans (K0.new np (o := .lst []))).trans (K0.new nt (o := .lst []))).trans (K0.new nu (o := .lst [.int 0, .int 0]))).mut nd (o := .dK (stK (ad0 d qh qc qs ql qp qt) pu 0))
  obtain ⟨h1, h0⟩ := upd_fr nh
  obtain ⟨c1, nc⟩ := upd_fr nc
  obtain ⟨c2, c0⟩ := upd_fr nc
  obtain ⟨s1, ns⟩ := upd_fr ns
  obtain ⟨s2, ns⟩ := upd_fr ns
  obtain ⟨s3, s0⟩ := upd_fr ns
  obtain ⟨l1, nl⟩ := upd_fr nl
  obtain ⟨l2, nl⟩ := upd_fr nl
  obtain ⟨l3, nl⟩ := upd_fr nl
  obtain ⟨l4, l0⟩ := upd_fr nl
  obtain ⟨p1, np⟩ := upd_fr np
  obtain ⟨p2, np⟩ := upd_fr np
  obtain ⟨p3, np⟩ := upd_fr np
  obtain ⟨p4, np⟩ := upd_fr np
  obtain ⟨p5, p0⟩ := upd_fr np
  obtain ⟨t1, nt⟩ := upd_fr nt
  obtain ⟨t2, nt⟩ := upd_fr nt
  obtain ⟨t3, nt⟩ := upd_fr nt
  obtain ⟨t4, nt⟩ := upd_fr nt
  obtain ⟨t5, nt⟩ := upd_fr nt
  obtain ⟨t6, t0⟩ := upd_fr nt
  obtain ⟨u1, nu⟩ := upd_fr nu
  obtain ⟨u2, nu⟩ := upd_fr nu
  obtain ⟨u3, nu⟩ := upd_fr nu
  obtain ⟨u4, nu⟩ := upd_fr nu
  obtain ⟨u5, nu⟩ := upd_fr nu
  obtain ⟨u6, nu⟩ := upd_fr nu
  obtain ⟨u7, u0⟩ := upd_fr nu
  have six0 : ∀ t, al6 (fun _ => 0) t → t = .h ∨ t = .c ∨ t = .s ∨ t = .l ∨ t = .p ∨ t = .t := fun t ht => by
    cases t <;> first | exact absurd ht (Nat.not_lt_zero _) | exact ht.elim | simp
  refine ⟨fun t ht => ?_, fun t t' ht ht' e => ?_, fun t ht => ?_, upd_same, by rw [upd_ne u7, upd_same], nd, u0, fun t ht => ?_, fun t ht => ?_, k⟩
  · rcases six0 t ht with rfl | rfl | rfl | rfl | rfl | rfl
    · show _ = some (HO.lst [])
      show upd _ d _ qh = _
      rw [upd_ne h1, upd_ne u6.symm, upd_ne t5.symm, upd_ne p4.symm, upd_ne l3.symm, upd_ne s2.symm, upd_ne c1.symm, upd_same]
    · show upd _ d _ qc = some (HO.lst [])
      rw [upd_ne c2, upd_ne u5.symm, upd_ne t4.symm, upd_ne p3.symm, upd_ne l2.symm, upd_ne s1.symm, upd_same]
    · show upd _ d _ qs = some (HO.lst [])
      rw [upd_ne s3, upd_ne u4.symm, upd_ne t3.symm, upd_ne p2.symm, upd_ne l1.symm, upd_same]
    · show upd _ d _ ql = some (HO.lst [])
      rw [upd_ne l4, upd_ne u3.symm, upd_ne t2.symm, upd_ne p1.symm, upd_same]
    · show upd _ d _ qp = some (HO.lst [])
      rw [upd_ne p5, upd_ne u2.symm, upd_ne t1.symm, upd_same]
    · show upd _ d _ qt = some (HO.lst [])
      rw [upd_ne t6, upd_ne u1.symm, upd_same]
  · rcases six0 t ht with rfl | rfl | rfl | rfl | rfl | rfl <;> rcases six0 t' ht' with rfl | rfl | rfl | rfl | rfl | rfl <;> first | rfl | (exfalso; simp only [ad0] at e; first | exact absurd e (by assumption) | exact absurd e.symm (by assumption))
  · rcases six0 t ht with rfl | rfl | rfl | rfl | rfl | rfl <;> assumption
  · rcases six0 t ht with rfl | rfl | rfl | rfl | rfl | rfl <;> assumption
  · rcases six0 t ht with rfl | rfl | rfl | rfl | rfl | rfl <;> first | assumption | exact fun z => absurd z.symm (by assumption)
end HK

set_option Elab.async false
set_option linter.all false
set_option maxRecDepth 100000
set_option maxHeartbeats 8000000
namespace HK
open PySem PySem.Spec PyProof.Rows L2 GAl GxR
open Evl (pss_cut)
/-! ### the law's state at the start -/
section
variable {H G : Hp} {d pu q : Addr} {ad : Tg → Addr} {i : Nat}
theorem LB.h1 (h : LB H G d pu ad (bm i 0)) : LB H (upd G (ad .h) (.lst ((List.range i).map (fun _ => V.bl false) ++ [.bl false]))) d pu ad (bm i 1) := by
  have e : six ad (bm i 1) .h = .lst ((List.range i).map (fun _ => V.bl false) ++ [.bl false]) := by
    show HO.lst ((List.range (i + 1)).map _) = _
    rw [List.range_succ, List.map_append]; rfl
  have := h.write (ad' := ad) (m' := bm i 1) (q := d) (t0 := .h) (t1 := .h) (K0.refl _) trivial rfl rfl (fun t ht => .inl ⟨by cases t <;> exact ht, rfl, fun ne => by cases t <;> first | rfl | exact absurd rfl ne⟩)
  rw [e] at this
  exact this
theorem LB.h2 (h : LB H G d pu ad (bm i 1)) : LB H (upd G (ad .c) (.lst ((List.range i).map (fun _ => V.int 0) ++ [.int 0]))) d pu ad (bm i 2) := by
  have e : six ad (bm i 2) .c = .lst ((List.range i).map (fun _ => V.int 0) ++ [.int 0]) := by
    show HO.lst ((List.range (i + 1)).map _) = _
    rw [List.range_succ, List.map_append]; rfl
  have := h.write (ad' := ad) (m' := bm i 2) (q := d) (t0 := .c) (t1 := .h) (K0.refl _) trivial rfl rfl (fun t ht => .inl ⟨by cases t <;> exact ht, rfl, fun ne => by cases t <;> first | rfl | exact absurd rfl ne⟩)
  rw [e] at this
  exact this
theorem LB.new {t0 : Tg} {tg : Nat → Tg} {o : HO} {k k' : Nat} (h : LB H G d pu ad (bm i k)) (nq : G q = none) (h0 : al6 (bm i k) t0) (n0 : t0 ≠ tg i) (eK : stK (adN ad (tg i) q) pu 0 = stK ad pu 0)
    (ho : ∀ ad', six ad' (bm i k') (tg i) = o) (al : ∀ t, al6 (bm i k') t → t ≠ tg i → al6 (bm i k) t) (hs : ∀ t, t ≠ tg i → t ≠ t0 → al6 (bm i k) t → six (adN ad (tg i) q) (bm i k') t = six ad (bm i k) t) :
    LB H (upd (upd G q o) (ad t0) (six (adN ad (tg i) q) (bm i k') t0)) d pu (adN ad (tg i) q) (bm i k') := by
  refine h.write (q := q) (t0 := t0) (t1 := tg i) (K0.new nq) h0 (adN_ne n0) eK (fun t ht => ?_)
  by_cases e : t = tg i
  · refine .inr ⟨e, by rw [e, adN_same], nq, ?_⟩
    rw [e, ho, upd_same]
  · exact .inl ⟨al t ht e, adN_ne e, fun ne => hs t e ne (al t ht e)⟩
theorem lst_adN {tg : Nat → Tg} (ti : ∀ j k, tg j = tg k → j = k) : HO.lst ((List.range (i + 1)).map fun j => V.ref (adN ad (tg i) q (tg j))) = .lst ((List.range i).map (fun j => V.ref (ad (tg j))) ++ [.ref q]) := by
  rw [List.range_succ, List.map_append]
  congr 2
  · refine List.map_congr_left fun j hj => ?_
    have := List.mem_range.mp hj
    rw [adN_ne (fun z => by have := ti _ _ z; omega)]
  · show [V.ref (adN ad (tg i) q (tg i))] = _
    rw [adN_same]
theorem LB.h3 (h : LB H G d pu ad (bm i 2)) (nq : G q = none) : LB H (upd (upd G q (.dK [])) (ad .s) (.lst ((List.range i).map (fun j => V.ref (ad (.sd j))) ++ [.ref q]))) d pu (adN ad (.sd i) q) (bm i 3) := by
  have := h.new (tg := fun j => .sd j) (k' := 3) (t0 := .s) (o := .dK []) nq trivial (fun z => by cases z) rfl (fun _ => rfl) (fun t ht ne => by
    cases t with
    | sd a =>
      have h1 : a < i + 1 := ht
      have h2 : a ≠ i := fun z => ne (by rw [z])
      show a < i
      omega
    | _ => exact ht) (fun t ne n0 ht => by
    cases t <;> first | rfl | exact absurd rfl n0)
  rw [show six (adN ad (.sd i) q) (bm i 3) .s = _ from lst_adN (tg := fun j => .sd j) (fun j k z => by cases z; rfl)] at this
  exact this
theorem LB.h4 (h : LB H G d pu ad (bm i 3)) (nq : G q = none) : LB H (upd (upd G q (.lst [])) (ad .l) (.lst ((List.range i).map (fun j => V.ref (ad (.lr j))) ++ [.ref q]))) d pu (adN ad (.lr i) q) (bm i 4) := by
  have := h.new (tg := fun j => .lr j) (k' := 4) (t0 := .l) (o := .lst []) nq trivial (fun z => by cases z) rfl (fun _ => rfl) (fun t ht ne => by
    cases t with
    | lr a =>
      have h1 : a < i + 1 := ht
      have h2 : a ≠ i := fun z => ne (by rw [z])
      show a < i
      omega
    | _ => exact ht) (fun t ne n0 ht => by
    cases t <;> first | rfl | exact absurd rfl n0)
  rw [show six (adN ad (.lr i) q) (bm i 4) .l = _ from lst_adN (tg := fun j => .lr j) (fun j k z => by cases z; rfl)] at this
  exact this
theorem LB.h5 (h : LB H G d pu ad (bm i 4)) (nq : G q = none) : LB H (upd (upd G q (.lst [])) (ad .p) (.lst ((List.range i).map (fun j => V.ref (ad (.cr j))) ++ [.ref q]))) d pu (adN ad (.cr i) q) (bm i 5) := by
  have := h.new (tg := fun j => .cr j) (k' := 5) (t0 := .p) (o := .lst []) nq trivial (fun z => by cases z) rfl (fun _ => rfl) (fun t ht ne => by
    cases t with
    | cr a =>
      have h1 : a < i + 1 := ht
      have h2 : a ≠ i := fun z => ne (by rw [z])
      show a < i
      omega
    | _ => exact ht) (fun t ne n0 ht => by
    cases t <;> first | rfl | exact absurd rfl n0)
  rw [show six (adN ad (.cr i) q) (bm i 5) .p = _ from lst_adN (tg := fun j => .cr j) (fun j k z => by cases z; rfl)] at this
  exact this
theorem bm0 : bm i 0 = fun _ => i := by
  funext t
  cases t <;> rfl
theorem LB.ext {m m' : Tg → Nat} (h : LB H G d pu ad m) (e : ∀ t, al6 m' t → al6 m t) (s : ∀ t, al6 m' t → six ad m' t = six ad m t) : LB H G d pu ad m' :=
  ⟨fun t ht => by rw [s t ht]; exact h.nd t (e t ht), fun t t' a b => h.inj t t' (e t a) (e t' b), fun t ht => h.nH t (e t ht), h.hd, h.hp, h.dH, h.pH, fun t ht => h.dn t (e t ht), fun t ht => h.pn t (e t ht), h.k⟩
theorem LB.h6 (h : LB H G d pu ad (bm i 5)) (nq : G q = none) : LB H (upd (upd G q (.lst [])) (ad .t) (.lst ((List.range i).map (fun j => V.ref (ad (.sl j))) ++ [.ref q]))) d pu (adN ad (.sl i) q) (fun _ => i + 1) := by
  have := h.write (ad' := adN ad (.sl i) q) (m' := fun _ => i + 1) (q := q) (t0 := .t) (t1 := .sl i) (G1 := upd G q (.lst [])) (K0.new nq) trivial rfl rfl (fun t ht => by
    by_cases e : t = .sl i
    · refine .inr ⟨e, by rw [e, adN_same], nq, ?_⟩
      rw [e, upd_same]; rfl
    · refine .inl ⟨?_, adN_ne e, fun n0 => by cases t <;> first | rfl | exact absurd rfl n0⟩
      cases t with
      | sl a =>
        have h1 : a < i + 1 := ht
        have h2 : a ≠ i := fun z => e (by rw [z])
        show a < i
        omega
      | _ => exact ht)
  rw [show six (adN ad (.sl i) q) (fun _ => i + 1) .t = _ from lst_adN (tg := fun j => .sl j) (fun j k z => by cases z; rfl)] at this
  exact this
end
theorem LB.get {H G : Hp} {d pu : Addr} {ad : Tg → Addr} {m : Tg → Nat} (h : LB H G d pu ad m) {k : Str} {v : V} (e : valV (stK ad pu 0) (.inr k : Key) = some v) : DGet G d (.str k) (some v) := by
  rw [← e]
  exact DGet.k (k := .inr k) h.hd
theorem LB.k0 {H G G' : Hp} {d pu : Addr} {ad : Tg → Addr} {m : Tg → Nat} (h : LB H G d pu ad m) (k : K0 G G') : LB H G' d pu ad m := by
  have nt : ∀ t ps, six ad m t ≠ .tbl ps := fun t => by cases t <;> exact fun _ z => by cases z
  exact ⟨fun t ht => k.oth _ _ (h.nd t ht) (nt t), h.inj, h.nH, k.oth _ _ h.hd (fun _ z => by cases z), k.oth _ _ h.hp (fun _ z => by cases z), h.dH, h.pH, h.dn, h.pn, h.k.trans k⟩
section
variable {P : Program} {w : World} {K : PySem.W.Frag} {mg : Str → Option Value} {base : Heap}
def spKBegun (K : PySem.W.Frag) : Sp := fun vs H Q _ => ∃ (p : Addr) (us : List (Option Int)), vs = [.ref p] ∧ SqT K H p (us.map oV) ∧ us.length ≤ 8 ∧ ∀ (d : Addr) (F : Addr → Prop) (H' : Hp), K0 H H' → Law K H' d us.length HS.ini F → (∀ b, F b → H b = none) → Q (.ref d) H'
theorem ok_kbegun {f : Addr} {fd : FuncData} (F : Fun K "_law_e_begun" "_law_e_begun" sKBegun f fd) : FnOk P w K mg base CX0 1 f fd ["up"] (spKBegun K) := by
  refine F.ok scKBegun (fun vs H Q E h => ?_) (fun cdv A outer s H vs Q E hr h => ?_)
  · obtain ⟨p, us, rfl, _⟩ := h
    rfl
  · obtain ⟨p, us, rfl, hS, hn8, q⟩ := h
    have hu := hu_of hr
    refine ⟨_, (pss_cons (ps_set (i := 1) scKBegun.nd rfl (.inl rfl) (pe_disp (pps_cons pe_str (pe_lst pa_nil) (pps_cons pe_str (pe_lst pa_nil) (pps_cons pe_str (pe_lst pa_nil) (pps_cons pe_str (pe_lst pa_nil) (pps_cons pe_str (pe_lst pa_nil) (pps_cons pe_str (pe_lst pa_nil) (pps_cons pe_str pe_int (pps_cons pe_str (pe_lst (pa_cons pe_int (pa_cons pe_int pa_nil))) pps_nil)))))))) rfl rfl (fun z => by cases z) (by decide)))
      (pss_cons (ps_for PassesOwn.never rfl (pi_tup (pv 0)) (pg_name (i := 2) scKBegun.nd rfl (.inl rfl))
      (pss_cons (ps_expr (pe_bm PySem.F.plainAttrs_list PySem.F.slot_list_append PySem.F.type_list_append mt_append (pe_dget hu (pv 1) pe_str (fun _ _ => rfl)) (pa_cons pe_bl pa_nil)))
      (pss_cons (ps_expr (pe_bm PySem.F.plainAttrs_list PySem.F.slot_list_append PySem.F.type_list_append mt_append (pe_dget hu (pv 1) pe_str (fun _ _ => rfl)) (pa_cons pe_int pa_nil)))
      (pss_cons (ps_expr (pe_bm PySem.F.plainAttrs_list PySem.F.slot_list_append PySem.F.type_list_append mt_append (pe_dget hu (pv 1) pe_str (fun _ _ => rfl)) (pa_cons pe_dnewK pa_nil)))
      (pss_cons (ps_expr (pe_bm PySem.F.plainAttrs_list PySem.F.slot_list_append PySem.F.type_list_append mt_append (pe_dget hu (pv 1) pe_str (fun _ _ => rfl)) (pa_cons (pe_lst pa_nil) pa_nil)))
      (pss_cons (ps_expr (pe_bm PySem.F.plainAttrs_list PySem.F.slot_list_append PySem.F.type_list_append mt_append (pe_dget hu (pv 1) pe_str (fun _ _ => rfl)) (pa_cons (pe_lst pa_nil) pa_nil)))
      (pss_one (ps_expr (pe_bm PySem.F.plainAttrs_list PySem.F.slot_list_append PySem.F.type_list_append mt_append (pe_dget hu (pv 1) pe_str (fun _ _ => rfl)) (pa_cons (pe_lst pa_nil) pa_nil))))))))))
      (pss_one (ps_ret (pv 1))))), ?_⟩
    refine fun d nd => ⟨Nat.zero_le _, fun qh nh => ⟨Nat.zero_le _, fun qc nc => ⟨Nat.zero_le _, fun qs ns => ⟨Nat.zero_le _, fun ql nl => ⟨Nat.zero_le _, fun qp np => ⟨Nat.zero_le _, fun qt nt => ⟨by show 2 ≤ sizeLine; decide, fun pu npu => ?_⟩⟩⟩⟩⟩⟩⟩
    have h0 := LB.zero nd nh nc ns nl np nt npu
    have e0 := (((((((K0.new nh).trans (K0.new nc)).trans (K0.new ns)).trans (K0.new nl)).trans (K0.new np)).trans (K0.new nt)).trans (K0.new npu (o := .lst [.int 0, .int 0]))).oth d _ upd_same (fun _ z => by cases z)
    refine ⟨e0, stK (ad0 d qh qc qs ql qp qt) pu 0, rfl, (by show 8 ≤ 15; decide), ?_⟩
    show _
    generalize hG : upd (upd (upd (upd (upd (upd (upd (upd (upd H d (HO.dK [])) qh (HO.lst [])) qc (HO.lst [])) qs (HO.lst [])) ql (HO.lst [])) qp (HO.lst [])) qt (HO.lst [])) pu (HO.lst [V.int 0, V.int 0])) d (HO.dK (stK (ad0 d qh qc qs ql qp qt) pu 0)) = G at h0
    have hG' : upd (upd (upd (upd (upd (upd (upd (upd (upd H d (HO.dK [])) qh (HO.lst [])) qc (HO.lst [])) qs (HO.lst [])) ql (HO.lst [])) qp (HO.lst [])) qt (HO.lst [])) pu (HO.lst [V.int 0, V.int 0])) d (HO.dK (mergeK [] (stK (ad0 d qh qc qs ql qp qt) pu 0))) = G := hG
    rw [hG']
    have hl0 : (us.map oV).length = us.length := List.length_map ..
    refine ⟨.ref p, rfl, p, rfl, ⟨_, h0.k.sqT hS⟩, for_tup (K := K) (a := p) (xs := us.map oV) (fun i σ' H' => ∃ y2 ad, σ' = [some (.ref p), some (.ref d), y2] ∧ LB H H' d pu ad (fun _ => i))
      ⟨none, _, rfl, h0⟩ (fun i σ' H' _ h => ?_) (fun i x σ' H' hx h => ?_) (fun σ' H' h => ?_)⟩
    · obtain ⟨_, _, _, h⟩ := h
      exact h.k.sqT hS
    · obtain ⟨y2, ad, rfl, h⟩ := h
      have hi : i < us.length := by
        have := (List.getElem?_eq_some_iff.mp hx).1
        rw [hl0] at this; exact this
      rw [← bm0] at h
      have li : i < 5000 := by omega
      have lz : ∀ g : Nat → V, ((List.range i).map g).length < sizeLine := fun g => by rw [List.length_map, List.length_range]; exact Nat.lt_of_lt_of_le li (by decide)
      have e1 := h.nd .h trivial
      refine ⟨_, rfl, d, _, rfl, h.get gK1, .inl ⟨rfl, _, .inl (.inl e1)⟩, ad .h, _, .bl false, rfl, rfl, e1, lz _, ?_⟩
      have h1 := h.h1
      refine ⟨_, rfl, d, _, rfl, h1.get gK2, .inl ⟨rfl, _, .inl (.inl (h1.nd .c trivial))⟩, ad .c, _, .int 0, rfl, rfl, h1.nd .c trivial, lz _, ?_⟩
      have h2 := h1.h2
      refine ⟨_, rfl, d, _, rfl, h2.get gK3, .inl ⟨rfl, _, .inl (.inl (h2.nd .s trivial))⟩, fun q1 n1 => ⟨ad .s, _, .ref q1, rfl, rfl, (h2.k0 (K0.new n1)).nd .s trivial, lz _, ?_⟩⟩
      have h3 := h2.h3 n1
      refine ⟨_, rfl, d, _, rfl, h3.get gK4, .inl ⟨rfl, _, .inl (.inl (h3.nd .l trivial))⟩, Nat.zero_le _, fun q2 n2 => ⟨_, _, .ref q2, rfl, rfl, (h3.k0 (K0.new n2)).nd .l trivial, lz _, ?_⟩⟩
      have h4 := h3.h4 n2
      refine ⟨_, rfl, d, _, rfl, h4.get gK5, .inl ⟨rfl, _, .inl (.inl (h4.nd .p trivial))⟩, Nat.zero_le _, fun q3 n3 => ⟨_, _, .ref q3, rfl, rfl, (h4.k0 (K0.new n3)).nd .p trivial, lz _, ?_⟩⟩
      have h5 := h4.h5 n3
      refine ⟨_, rfl, d, _, rfl, h5.get gK6, .inl ⟨rfl, _, .inl (.inl (h5.nd .t trivial))⟩, Nat.zero_le _, fun q4 n4 => ⟨_, _, .ref q4, rfl, rfl, (h5.k0 (K0.new n4)).nd .t trivial, lz _, ?_⟩⟩
      exact ⟨_, _, rfl, h5.h6 n4⟩
    · obtain ⟨y2, ad, rfl, h⟩ := h
      rw [hl0] at h
      obtain ⟨h1, h2⟩ := h.law (K := K)
      exact ⟨_, rfl, q d _ H' h.k h1 h2⟩
end
end HK

set_option Elab.async false
set_option linter.all false
set_option maxRecDepth 100000
set_option maxHeartbeats 2000000
/-! data that can be laid, of depth k at most -/
namespace HkX
open PySem PySem.Spec PyProof.Rows L2
def Shp (k : Nat) (d : PyData) : Prop := d.canLay0 = true ∧ d.depth ≤ k
theorem Shp.int {k : Nat} (i : Int) : Shp k (.int i) := ⟨by simp only [PyData.canLay0], by simp only [PyData.depth]; exact Nat.zero_le _⟩
theorem Shp.bl {k : Nat} (b : Bool) : Shp k (.bool b) := ⟨by simp only [PyData.canLay0], by simp only [PyData.depth]; exact Nat.zero_le _⟩
theorem Shp.non {k : Nat} : Shp k .none := ⟨by simp only [PyData.canLay0], by simp only [PyData.depth]; exact Nat.zero_le _⟩
theorem Shp.all {k : Nat} : ∀ {ds : List PyData}, (∀ d ∈ ds, Shp k d) → PyData.canLayAll0 ds = true ∧ PyData.depthAll ds ≤ k
  | [], _ => ⟨by simp only [PyData.canLayAll0], by simp only [PyData.depthAll]; exact Nat.zero_le _⟩
  | d :: ds, h => by
    obtain ⟨a1, a2⟩ := Shp.all (k := k) (ds := ds) fun e he => h e (List.mem_cons_of_mem _ he)
    obtain ⟨b1, b2⟩ := h d (List.mem_cons_self)
    refine ⟨by simp only [PyData.canLayAll0, a1, b1, Bool.and_true], ?_⟩
    simp only [PyData.depthAll]
    exact Nat.max_le.mpr ⟨b2, a2⟩
theorem Shp.lst {k : Nat} {ds : List PyData} (h : ∀ d ∈ ds, Shp k d) : Shp (k + 1) (.list ds) := by
  obtain ⟨a1, a2⟩ := Shp.all h
  exact ⟨by simp only [PyData.canLay0]; exact a1, by simp only [PyData.depth]; exact Nat.succ_le_succ a2⟩
theorem Shp.tup {k : Nat} {ds : List PyData} (h : ∀ d ∈ ds, Shp k d) : Shp (k + 1) (.tuple ds) := by
  obtain ⟨a1, a2⟩ := Shp.all h
  exact ⟨by simp only [PyData.canLay0]; exact a1, by simp only [PyData.depth]; exact Nat.succ_le_succ a2⟩
theorem Shp.mono {k m : Nat} {d : PyData} (h : Shp k d) (l : k ≤ m) : Shp m d := ⟨h.1, Nat.le_trans h.2 l⟩
theorem Shp.shaped {k : Nat} {d : PyData} (h : Shp k d) (l : k ≤ 64 := by decide) : SeqAt.shaped d = true := by
  show (d.canLay0 && decide (d.depth ≤ 64)) = true
  rw [h.1, decide_eq_true (Nat.le_trans h.2 l)]
  rfl
theorem Shp.eqv {k : Nat} {d : PyData} (h : Shp k d) : PyData.eqv d d = true := SeqAt.eqv_refl d h.1
theorem Shp.ints {k : Nat} (ns : List Int) : ∀ d ∈ ns.map PyData.int, Shp k d := fun d hd => by
  obtain ⟨n, _, rfl⟩ := List.mem_map.mp hd
  exact .int n
theorem Shp.map {k : Nat} {α : Type} {f : α → PyData} (h : ∀ x, Shp k (f x)) (ls : List α) : ∀ d ∈ ls.map f, Shp k d := fun d hd => by
  obtain ⟨n, _, rfl⟩ := List.mem_map.mp hd
  exact h n
theorem eqv_lnil {α : Type} (f : α → PyData) (ls : List α) : PyData.eqv (.list (ls.map f)) (.list []) = ls.isEmpty := by
  cases ls <;> simp [PyData.eqv, PyData.eqvAll]
end HkX

set_option Elab.async false
set_option linter.all false
set_option maxRecDepth 100000
set_option maxHeartbeats 8000000
namespace HK
open PySem PySem.Spec PyProof.Rows L2 GAl GxR HkX
open Evl (pss_cut)
/-! ### a deed is drawn -/
abbrev sKDeed : Stmt := topS 85
abbrev N_scKDeed : List Str := ["tray", "up", "state", "way", "place", "some", "k"]
theorem scKDeed : FnScope N_scKDeed ["tray", "up", "state"] (defScope sKDeed) := ⟨rfl, rfl, rfl, by decide +kernel, rfl, by decide +kernel, by decide +kernel⟩
theorem Law.kf {K : PySem.W.Frag} {H H' : Hp} {d : Addr} {n : Nat} {S : HS} {F G : Addr → Prop} (h : Law K H d n S F) (k : KF G H H') (dj : ∀ b, F b → ¬ G b) : Law K H' d n S F := by
  obtain ⟨pu, ad, la, ca, hw, hF⟩ := h
  exact ⟨pu, ad, la, ca, ⟨k.oth _ _ hw.hd (dj _ ((hF _).mpr (.inl rfl))) (fun _ z => by cases z), k.oth _ _ hw.hp (dj _ ((hF _).mpr (.inr (.inl rfl)))) (fun _ z => by cases z), hw.hn.kf k fun t ht => dj _ ((hF _).mpr (.inr (.inr ⟨t, ht, rfl⟩))), hw.pn⟩, hF⟩
theorem Law.k0 {K : PySem.W.Frag} {H H' : Hp} {d : Addr} {n : Nat} {S : HS} {F : Addr → Prop} (h : Law K H d n S F) (k : K0 H H') : Law K H' d n S F := h.kf (k.kf (F := fun _ => False)) fun _ _ z => z
theorem Law.kt {K : PySem.W.Frag} {H H' : Hp} {d t : Addr} {n : Nat} {S : HS} {F : Addr → Prop} (h : Law K H d n S F) (k : Kt t H H') (ht : ¬ F t) : Law K H' d n S F := h.kf (k.kf (F := fun b => b = t) rfl) fun b hb z => ht (by rw [← z]; exact hb)
theorem Law.some {K : PySem.W.Frag} {H : Hp} {d : Addr} {n : Nat} {S : HS} {F : Addr → Prop} (h : Law K H d n S F) {b : Addr} (hb : F b) : ∃ o, H b = some o := by
  obtain ⟨pu, ad, la, ca, hw, hF⟩ := h
  rcases (hF b).mp hb with rfl | rfl | ⟨t, ht, rfl⟩
  · exact ⟨_, hw.hd⟩
  · exact ⟨_, hw.hp⟩
  · exact ⟨_, hw.hn.nd t ht⟩
theorem few_szK {k : Nat} (h : k ≤ 1000) : k ≤ sizeLine := Nat.le_trans h (by decide)
def letD (ls : List (Bool × Int)) : PyData := .list (ls.map fun q => .tuple [.bool q.1, .int q.2])
def copD (ls : List (Int × Int)) : PyData := .list (ls.map fun q => .tuple [.int q.1, .int q.2])
theorem letD_dp {K : PySem.W.Frag} {H : Hp} {a : Addr} : ∀ {as : List Addr} {ls : List (Bool × Int)}, TupRows K H as (letV V.bl ls) → DpAll K H (as.map V.ref) (ls.map fun q => .tuple [.bool q.1, .int q.2])
  | [], [], _ => .nil
  | [], q :: ls, h => by cases h.1
  | a :: as, [], h => by cases h.1
  | a :: as, q :: ls, h => .cons (.tup (h.2 0 _ _ rfl rfl) (.cons (.bl _) (.cons (.int _) .nil))) (letD_dp (a := a) (h.tail))
theorem copD_dp {K : PySem.W.Frag} {H : Hp} {a : Addr} : ∀ {as : List Addr} {ls : List (Int × Int)}, TupRows K H as (copV ls) → DpAll K H (as.map V.ref) (ls.map fun q => .tuple [.int q.1, .int q.2])
  | [], [], _ => .nil
  | [], q :: ls, h => by cases h.1
  | a :: as, [], h => by cases h.1
  | a :: as, q :: ls, h => .cons (.tup (h.2 0 _ _ rfl rfl) (.cons (.int _) (.cons (.int _) .nil))) (copD_dp (a := a) (h.tail))
theorem letD_sh (ls : List (Bool × Int)) : SeqAt.shaped (letD ls) = true := (Shp.lst (k := 1) (Shp.map (fun q => Shp.tup (k := 0) fun d hd => by
  rcases List.mem_cons.mp hd with rfl | hd
  · exact .bl _
  · rw [List.mem_singleton.mp hd]; exact .int _) ls)).shaped
theorem copD_sh (ls : List (Int × Int)) : SeqAt.shaped (copD ls) = true := (Shp.lst (k := 1) (Shp.map (fun q => Shp.tup (k := 0) fun d hd => by
  rcases List.mem_cons.mp hd with rfl | hd
  · exact .int _
  · rw [List.mem_singleton.mp hd]; exact .int _) ls)).shaped
theorem nil_sh : SeqAt.shaped (.list []) = true := (Shp.lst (k := 0) (ds := []) fun d hd => by cases hd).shaped
theorem dpI {K : PySem.W.Frag} {H : Hp} : ∀ ns : List Int, DpAll K H (ns.map V.int) (ns.map PyData.int)
  | [] => .nil
  | n :: ns => .cons (.int n) (dpI ns)
theorem intsL_sh (ns : List Int) : SeqAt.shaped (.list (ns.map PyData.int)) = true := (Shp.lst (k := 0) (Shp.ints ns)).shaped
/-- the places for which f holds, from 0 on -/
def filtV (f : Nat → Bool) (i : Nat) : List Int := ((List.range i).filter f).map fun (k : Nat) => (k : Int)
theorem filtV_succ {f : Nat → Bool} {i : Nat} : filtV f (i + 1) = if f i = true then filtV f i ++ [(i : Int)] else filtV f i := by
  unfold filtV
  rw [List.range_succ, List.filter_append, List.map_append]
  by_cases h : f i = true
  · rw [if_pos h]
    simp [h]
  · rw [if_neg h]
    simp [h]
theorem filtV_len {f : Nat → Bool} {i : Nat} : (filtV f i).length ≤ i := by
  unfold filtV
  rw [List.length_map]
  exact Nat.le_trans (List.length_filter_le _ _) (by rw [List.length_range]; exact Nat.le_refl _)
theorem filtV_mem {f : Nat → Bool} {i : Nat} {v : Int} (h : v ∈ filtV f i) : ∃ k : Nat, v = k ∧ k < i ∧ f k = true := by
  obtain ⟨k, hk, rfl⟩ := List.mem_map.mp h
  obtain ⟨h1, h2⟩ := List.mem_filter.mp hk
  exact ⟨k, rfl, List.mem_range.mp h1, h2⟩
section
variable {P : Program} {w : World} {K : PySem.W.Frag} {mg : Str → Option Value} {base : Heap}
def spKDeed (K : PySem.W.Frag) : Sp := fun vs H Q _ => ∃ (t sc p d : Addr) (ns : List Int) (b : Int) (us : List (Option Int)) (S : HS) (F : Addr → Prop), vs = [.ref t, .ref p, .ref d] ∧ Tray K H t sc ns b ∧ b ≤ 900000 ∧ SqT K H p (us.map oV) ∧ 0 < us.length ∧ us.length ≤ 8 ∧ Law K H d us.length S F ∧ ¬ F t ∧
  ∀ (a : Addr) (e : Deed) (H' : Hp), Kt t H H' → Tray K H' t sc ns (b + 3) → SqT K H' a e.vs → Legal us S e → Q (.ref a) H'
theorem ok_kdeed {f : Addr} {fd : FuncData} {f_draw : Addr} {fd_draw : FuncData} (F : Fun K "_law_e_deed" "_law_e_deed" sKDeed f fd) (k_draw : PySem.W.keepIn K (.ref f_draw) = true) (b_draw : Binds K fd_draw ["tray", "many"] []) (g_draw : mg "_law_e_draw" = some (.ref f_draw)) (G_draw : FnOk P w K mg base CX0 2 f_draw fd_draw ["tray", "many"] (spDraw K)) (m_len : mg "len" = none) (m_range : mg "range" = none) : FnOk P w K mg base CX0 3 f fd ["tray", "up", "state"] (spKDeed K) := by
  refine F.ok scKDeed (fun vs H Q E h => ?_) (fun cdv A outer s H vs Q E hr h => ?_)
  · obtain ⟨t, sc, p, d, ns, b, us, S, F, rfl, _⟩ := h
    rfl
  · obtain ⟨t, sc, p, d, ns, b, us, S, F, rfl, hT, hb, hS, hn0, hn8, hL, hF, q⟩ := h
    have hu := hu_of hr
    refine ⟨_, (pss_cons (ps_set (i := 3) scKDeed.nd rfl (.inl rfl) (pe_call G_draw (hr.mono (by decide)) (by rfl) g_draw k_draw b_draw .nil pass0 (pa_cons (pv 0) (pa_cons pe_int pa_nil))))
      (pss_cons (ps_set (i := 4) scKDeed.nd rfl (.inl rfl) (pe_call G_draw (hr.mono (by decide)) (by rfl) g_draw k_draw b_draw .nil pass0 (pa_cons (pv 0) (pa_cons (pe_callB call_len_seq (by rfl) m_len PySem.boot_len (pa_cons (pv 1) pa_nil)) pa_nil))))
      (pss_cons (ps_setLc (i := 5) (own := [("k", 6)]) (g := (gName 6)) (tt := (tTest (tOp (rNeD K) (tOp (rIxL K) (tDGet (tVar 2) (tC (.str (Str.ofString "letters")))) (tVar 6)) (tLst tNil)))) (te := (tVar 6)) rfl scKDeed.nd rfl rfl (sw_true rfl rfl rfl rfl) (pi_range1 (by rfl) m_range (pa_cons (pe_callB call_len_seq (by rfl) m_len PySem.boot_len (pa_cons (pv 1) pa_nil)) pa_nil)) (blkOk_by (N := N_scKDeed) (sc := defScope sKDeed) (by decide +kernel)) (fun _ _ _ _ _ => (pg_name (i := 6) scKDeed.nd rfl (.inl rfl))) (fun _ _ _ _ _ => (pts_one (pt_cmpR (op_neD hr.units) (pe_ix ix_list (pe_dget hu (pv 2) pe_str (fun _ _ => rfl)) (pv 6) (fun _ _ => rfl)) (pe_lst pa_nil) (nomark _)))) (fun _ _ _ _ _ => (pv 6)))
      (pss_cut (ps_if (PW.pt (pw_and (pt_cmpR op_lt (pv 3) pe_int (nomark _)) (pw_and1 (pt_cmpR (op_neD hr.units) (pv 5) (pe_lst pa_nil) (nomark _))))) (pss_one (ps_ret (pe_tup (pa_cons pe_str (pa_cons (pe_ix ix_list (pv 5) (pe_call G_draw (hr.mono (by decide)) (by rfl) g_draw k_draw b_draw .nil pass0 (pa_cons (pv 0) (pa_cons (pe_callB call_len_seq (by rfl) m_len PySem.boot_len (pa_cons (pv 5) pa_nil)) pa_nil))) (fun _ _ => rfl)) pa_nil))))) pss_nil)
      (pss_cons (ps_setLc (i := 5) (own := [("k", 6)]) (g := (gName 6)) (tt := (tTest (tOp (rNeD K) (tOp (rIxL K) (tDGet (tVar 2) (tC (.str (Str.ofString "copies")))) (tVar 6)) (tLst tNil)))) (te := (tVar 6)) rfl scKDeed.nd rfl rfl (sw_true rfl rfl rfl rfl) (pi_range1 (by rfl) m_range (pa_cons (pe_callB call_len_seq (by rfl) m_len PySem.boot_len (pa_cons (pv 1) pa_nil)) pa_nil)) (blkOk_by (N := N_scKDeed) (sc := defScope sKDeed) (by decide +kernel)) (fun _ _ _ _ _ => (pg_name (i := 6) scKDeed.nd rfl (.inl rfl))) (fun _ _ _ _ _ => (pts_one (pt_cmpR (op_neD hr.units) (pe_ix ix_list (pe_dget hu (pv 2) pe_str (fun _ _ => rfl)) (pv 6) (fun _ _ => rfl)) (pe_lst pa_nil) (nomark _)))) (fun _ _ _ _ _ => (pv 6)))
      (pss_cut (ps_if (PW.pt (pw_and (pt_cmpR op_lt (pv 3) pe_int (nomark _)) (pw_and1 (pt_cmpR (op_neD hr.units) (pv 5) (pe_lst pa_nil) (nomark _))))) (pss_one (ps_ret (pe_tup (pa_cons pe_str (pa_cons (pe_ix ix_list (pv 5) (pe_call G_draw (hr.mono (by decide)) (by rfl) g_draw k_draw b_draw .nil pass0 (pa_cons (pv 0) (pa_cons (pe_callB call_len_seq (by rfl) m_len PySem.boot_len (pa_cons (pv 5) pa_nil)) pa_nil))) (fun _ _ => rfl)) pa_nil))))) pss_nil)
      (pss_cons (ps_if (PW.pt (pw_or (pt_cmpR op_gt (pv 3) pe_int (nomark _)) (pw_or1 (pt_cmpR op_eq (pv 3) pe_int (nomark _))))) (pss_one (ps_ret (pe_tup (pa_cons pe_str pa_nil)))) pss_nil)
      (pss_cons (ps_if (pt_val (pe_ix ix_list (pe_dget hu (pv 2) pe_str (fun _ _ => rfl)) (pv 4) (fun _ _ => rfl))) (pss_one (ps_ret (pe_tup (pa_cons pe_str (pa_cons (pv 4) pa_nil))))) pss_nil)
      (pss_one (ps_ret (pe_tup (pa_cons pe_str (pa_cons (pv 4) pa_nil))))))))))))), ?_⟩
    refine ⟨_, rfl, t, sc, 12, ns, b, rfl, hT, by omega, by decide, by decide, fun way H1 w0 w1 k1 T1 => ?_⟩
    refine ⟨.ref t, rfl, .ref p, rfl, p, _, rfl, .inr (k1.sqT hS), t, sc, _, ns, b + 1, rfl, T1, by omega, by rw [List.length_map]; omega, by rw [List.length_map]; omega, fun pl H2 p0 p1 k2 T2 => ?_⟩
    rw [List.length_map] at p1
    obtain ⟨pn, rfl⟩ := Int.eq_ofNat_of_zero_le p0
    have k12 := k1.trans k2
    have L2 := hL.kt k12 hF
    obtain ⟨pu, ad, la, ca, hw, hFF⟩ := L2
    have hl0 : (us.map oV).length = us.length := List.length_map ..
    -- places with letters
    refine ⟨_, rfl, p, _, rfl, .inr (k12.sqT hS), _, rfl, by omega, by omega, fun D nD => ?_⟩
    have hDt : D ≠ t := T2.ne nD
    refine lc_range (lo := 0) (n := (us.map oV).length) (fun i H' => K0 H2 H' ∧ H' D = some (.lst ((filtV (fun k => !(S.letters k).isEmpty) i).map V.int))) ⟨K0.new nD, upd_same⟩ (fun i H' hi h => ?_) (fun H' h => ?_)
    · obtain ⟨k3, hD⟩ := h
      rw [hl0] at hi
      have hw3 := hw.k0 k3
      rw [Int.zero_add]
      refine ⟨rfl, _, rfl, d, _, rfl, hw3.get gK4, _, rfl, ad .l, _, (i : Int), .ref (ad (.lr i)), rfl, rfl, .inl (.inl (hw3.hn.nd .l trivial)), atI_nat (range_at _ hi), Nat.zero_le _, fun e0 ne0 => ?_⟩
      have ke := K0.new ne0 (o := .lst [])
      have hw4 := hw3.k0 ke
      refine ⟨letD (S.letters i), .list [], .lst (.inl (.inl (hw4.hn.nd (.lr i) hi))) (letD_dp (a := p) (hw4.hn.lt i hi)), .lst (.inl (.inl upd_same)) .nil, letD_sh _, nil_sh, _, rfl, ?_⟩
      rw [show PyData.eqv (letD (S.letters i)) (.list []) = (S.letters i).isEmpty from eqv_lnil _ _]
      have hD4 := ke.oth D _ hD (fun _ z => by cases z)
      cases hb : (S.letters i).isEmpty with
      | true =>
        refine iteF ⟨k3.trans ke, ?_⟩
        rw [filtV_succ, hb, if_neg (by simp)]
        exact hD4
      | false =>
        refine iteT ⟨_, rfl, _, hD4, Nat.lt_of_le_of_lt (m := 5000) (by rw [List.length_map]; have := filtV_len (f := fun k => !(S.letters k).isEmpty) (i := i); omega) (by decide), (k3.trans ke).mut nD, ?_⟩
        rw [filtV_succ, hb, if_pos (by rfl), List.map_append]
        exact upd_same
    obtain ⟨k3, hD⟩ := h
    rw [hl0] at hD
    have hw3 := hw.k0 k3
    have T3 := T2.k0 k3
    -- a letter is taken
    refine ⟨fun σ' G => σ' = [some (.ref t), some (.ref p), some (.ref d), some (.int way), some (.int pn), some (.ref D), none] ∧ K0 H' G, ?_, ?_⟩
    · refine ⟨_, rfl, _, 5, rfl, rfl, _, rfl, ite2 (fun e => ?_) (fun e => iteF ⟨rfl, K0.refl _⟩)⟩
      refine ⟨_, rfl, Nat.zero_le _, fun e1 ne1 => ?_⟩
      have ke := K0.new ne1 (o := .lst [])
      have hD4 := ke.oth D _ hD (fun _ z => by cases z)
      have T4 := T3.k0 ke
      have hm : ∀ v ∈ filtV (fun k => !(S.letters k).isEmpty) us.length, ∃ k : Nat, v = k ∧ k < us.length ∧ (!(S.letters k).isEmpty) = true := fun v hv => filtV_mem hv
      have hl := filtV_len (f := fun k => !(S.letters k).isEmpty) (i := us.length)
      generalize filtV (fun k => !(S.letters k).isEmpty) us.length = L at hD4 hm hl
      refine ⟨.list (L.map PyData.int), .list [], .lst (.inl (.inl hD4)) (dpI L), .lst (.inl (.inl upd_same)) .nil, intsL_sh L, nil_sh, _, rfl, ?_⟩
      rw [show PyData.eqv (.list (L.map PyData.int)) (.list ([] : List PyData)) = L.isEmpty from eqv_lnil _ _]
      cases hb : L.isEmpty with
      | true => exact iteF ⟨rfl, ke⟩
      | false =>
        have hL0 : 0 < L.length := List.length_pos_iff.mpr fun z => by rw [z] at hb; cases hb
        refine iteT ?_
        refine ⟨_, rfl, .ref t, rfl, .ref D, rfl, D, _, rfl, .inl (.inl (.inl hD4)), t, sc, _, ns, b + 1 + 1, rfl, T4, by omega, by rw [List.length_map]; omega, by rw [List.length_map]; omega, fun dd G5 d0 d1 k5 T5 => ?_⟩
        rw [List.length_map] at d1
        obtain ⟨dn, rfl⟩ := Int.eq_ofNat_of_zero_le d0
        have hdn : dn < L.length := by omega
        have hD5 := k5.oth D _ hD4 hDt (fun _ z => by cases z)
        obtain ⟨k, ek, hk, hkl⟩ := hm _ (List.getElem_mem hdn)
        refine ⟨D, _, (dn : Int), .int (k : Int), rfl, rfl, .inl (.inl hD5), atI_nat (by rw [List.getElem?_map, List.getElem?_eq_getElem hdn, ek]; rfl), few_szK (show 2 ≤ 1000 by decide), fun a na => ?_⟩
        refine q a (.pl .up k) _ (((k12.trans k3.kt).trans ke.kt).trans (k5.trans (K0.new na).kt)) ((T5.k0 (K0.new na)).le (by omega)) (.inl (.inl upd_same)) ⟨hk, fun z => ?_⟩
        rw [z] at hkl
        cases hkl
    rintro σ' G ⟨rfl, kG⟩
    have k4 := k3.trans kG
    have k14 := k12.trans k4.kt
    have T4 := T2.k0 k4
    have hw4 := hw.k0 k4
    -- places with copies
    refine ⟨_, rfl, p, _, rfl, .inr (k14.sqT hS), _, rfl, by omega, by omega, fun D2 nD2 => ?_⟩
    have hDt2 : D2 ≠ t := T4.ne nD2
    refine lc_range (lo := 0) (n := (us.map oV).length) (fun i H' => K0 G H' ∧ H' D2 = some (.lst ((filtV (fun k => !(S.copies k).isEmpty) i).map V.int))) ⟨K0.new nD2, upd_same⟩ (fun i H' hi h => ?_) (fun H' h => ?_)
    · obtain ⟨k3, hD⟩ := h
      rw [hl0] at hi
      have hw3 := hw4.k0 k3
      rw [Int.zero_add]
      refine ⟨rfl, _, rfl, d, _, rfl, hw3.get gK5, _, rfl, ad .p, _, (i : Int), .ref (ad (.cr i)), rfl, rfl, .inl (.inl (hw3.hn.nd .p trivial)), atI_nat (range_at _ hi), Nat.zero_le _, fun e0 ne0 => ?_⟩
      have ke := K0.new ne0 (o := .lst [])
      have hw4 := hw3.k0 ke
      refine ⟨copD (S.copies i), .list [], .lst (.inl (.inl (hw4.hn.nd (.cr i) hi))) (copD_dp (a := p) (hw4.hn.ct i hi)), .lst (.inl (.inl upd_same)) .nil, copD_sh _, nil_sh, _, rfl, ?_⟩
      rw [show PyData.eqv (copD (S.copies i)) (.list []) = (S.copies i).isEmpty from eqv_lnil _ _]
      have hD4 := ke.oth D2 _ hD (fun _ z => by cases z)
      cases hb : (S.copies i).isEmpty with
      | true =>
        refine iteF ⟨k3.trans ke, ?_⟩
        rw [filtV_succ, hb, if_neg (by simp)]
        exact hD4
      | false =>
        refine iteT ⟨_, rfl, _, hD4, Nat.lt_of_le_of_lt (m := 5000) (by rw [List.length_map]; have := filtV_len (f := fun k => !(S.copies k).isEmpty) (i := i); omega) (by decide), (k3.trans ke).mut nD2, ?_⟩
        rw [filtV_succ, hb, if_pos (by rfl), List.map_append]
        exact upd_same
    obtain ⟨k5, hD5⟩ := h
    rw [hl0] at hD5
    have T5 := T4.k0 k5
    -- a copy is taken
    refine ⟨fun σ' G2 => σ' = [some (.ref t), some (.ref p), some (.ref d), some (.int way), some (.int pn), some (.ref D2), none] ∧ K0 H' G2, ?_, ?_⟩
    · refine ⟨_, rfl, _, 8, rfl, rfl, _, rfl, ite2 (fun e => ?_) (fun e => iteF ⟨rfl, K0.refl _⟩)⟩
      refine ⟨_, rfl, Nat.zero_le _, fun e1 ne1 => ?_⟩
      have ke := K0.new ne1 (o := .lst [])
      have hD4 := ke.oth D2 _ hD5 (fun _ z => by cases z)
      have T4 := T5.k0 ke
      have hm : ∀ v ∈ filtV (fun k => !(S.copies k).isEmpty) us.length, ∃ k : Nat, v = k ∧ k < us.length ∧ (!(S.copies k).isEmpty) = true := fun v hv => filtV_mem hv
      have hl := filtV_len (f := fun k => !(S.copies k).isEmpty) (i := us.length)
      generalize filtV (fun k => !(S.copies k).isEmpty) us.length = L at hD4 hm hl
      refine ⟨.list (L.map PyData.int), .list [], .lst (.inl (.inl hD4)) (dpI L), .lst (.inl (.inl upd_same)) .nil, intsL_sh L, nil_sh, _, rfl, ?_⟩
      rw [show PyData.eqv (.list (L.map PyData.int)) (.list ([] : List PyData)) = L.isEmpty from eqv_lnil _ _]
      cases hb : L.isEmpty with
      | true => exact iteF ⟨rfl, ke⟩
      | false =>
        have hL0 : 0 < L.length := List.length_pos_iff.mpr fun z => by rw [z] at hb; cases hb
        refine iteT ?_
        refine ⟨_, rfl, .ref t, rfl, .ref D2, rfl, D2, _, rfl, .inl (.inl (.inl hD4)), t, sc, _, ns, b + 1 + 1, rfl, T4, by omega, by rw [List.length_map]; omega, by rw [List.length_map]; omega, fun dd G5 d0 d1 k5x T5x => ?_⟩
        rw [List.length_map] at d1
        obtain ⟨dn, rfl⟩ := Int.eq_ofNat_of_zero_le d0
        have hdn : dn < L.length := by omega
        have hD6 := k5x.oth D2 _ hD4 hDt2 (fun _ z => by cases z)
        obtain ⟨k, ek, hk, hkl⟩ := hm _ (List.getElem_mem hdn)
        refine ⟨D2, _, (dn : Int), .int (k : Int), rfl, rfl, .inl (.inl hD6), atI_nat (by rw [List.getElem?_map, List.getElem?_eq_getElem hdn, ek]; rfl), few_szK (show 2 ≤ 1000 by decide), fun a na => ?_⟩
        refine q a (.pl .down k) _ (((k14.trans k5.kt).trans ke.kt).trans (k5x.trans (K0.new na).kt)) ((T5x.k0 (K0.new na)).le (by omega)) (.inl (.inl upd_same)) ⟨hk, fun z => ?_⟩
        rw [z] at hkl
        cases hkl
    rintro σ' G2 ⟨rfl, kG2⟩
    have k6 := k5.trans kG2
    have k16 := k14.trans k6.kt
    have T6 := T4.k0 k6
    have hw6 := hw4.k0 k6
    have emit : ∀ (a : Addr), G2 a = none → Q (.ref a) (upd G2 a (.tup [.str (Str.ofString "emit")])) := fun a na => q a .emit _ (k16.trans (K0.new na).kt) ((T6.k0 (K0.new na)).le (by omega)) (.inl (.inl upd_same)) trivial
    refine ⟨_, rfl, _, 9, rfl, rfl, _, rfl, ite2 (fun e => iteT ⟨few_szK (show 1 ≤ 1000 by decide), emit⟩) (fun e => ?_)⟩
    refine ⟨_, rfl, rfl, _, rfl, ite2 (fun e => ⟨few_szK (show 1 ≤ 1000 by decide), emit⟩) (fun e => ?_)⟩
    have hpn : pn < us.length := by omega
    refine ⟨_, rfl, d, _, rfl, hw6.get gK1, _, rfl, ad .h, _, (pn : Int), .bl (S.hears pn), rfl, rfl, .inl (.inl (hw6.hn.nd .h trivial)), atI_nat (range_at _ hpn), ?_⟩
    refine ⟨_, rfl, ?_⟩
    cases hh : S.hears pn with
    | true => exact iteT ⟨_, rfl, few_szK (show 2 ≤ 1000 by decide), fun a na => q a (.pl .go pn) _ (k16.trans (K0.new na).kt) ((T6.k0 (K0.new na)).le (by omega)) (.inl (.inl upd_same)) ⟨hpn, hh⟩⟩
    | false => exact iteF ⟨_, rfl, few_szK (show 2 ≤ 1000 by decide), fun a na => q a (.pl .come pn) _ (k16.trans (K0.new na).kt) ((T6.k0 (K0.new na)).le (by omega)) (.inl (.inl upd_same)) ⟨hpn, hh⟩⟩
end
end HK

set_option Elab.async false
set_option linter.all false
set_option maxRecDepth 100000
set_option maxHeartbeats 8000000
namespace HK
open PySem PySem.Spec PyProof.Rows L2 GAl GxR HkX
open Evl (pss_cut)
/-! ### a Hearing looks as the law's state does -/
theorem HInv.few8 {us : List (Option Int)} {r m : Nat} {S : HS} (h : HInv us r S m) (j : Nat) : (S.served j).length ≤ us.length := by
  have := sub_len (l := keysS S j) (ks := (List.range us.length).map fun (k : Nat) => (k : Int)) (h.nd j) (List.pairwise_map.mpr (List.nodup_range.imp fun a z => a (Int.ofNat.inj z))) (fun x hx => by
    obtain ⟨q, hq, rfl⟩ := List.mem_map.mp hx
    obtain ⟨k, e, hk, _⟩ := h.ks j q hq
    exact List.mem_map.mpr ⟨k, List.mem_range.mpr hk, e.symm⟩)
  unfold keysS at this
  rw [List.length_map, List.length_map, List.length_range] at this
  exact this
theorem perm_up_eq : ∀ {xs ys : List Int}, xs.Perm ys → xs.Pairwise (· ≤ ·) → ys.Pairwise (· ≤ ·) → xs = ys
  | [], ys, p, _, _ => p.nil_eq
  | x :: xs, [], p, _, _ => absurd p.symm.nil_eq.symm (by simp)
  | x :: xs, y :: ys, p, hx, hy => by
    have px := List.pairwise_cons.mp hx
    have py := List.pairwise_cons.mp hy
    have e : x = y := by
      rcases List.mem_cons.mp (p.mem_iff.mp (List.mem_cons_self ..)) with e | m
      · exact e
      · rcases List.mem_cons.mp (p.mem_iff.mpr (List.mem_cons_self ..)) with e | m2
        · exact e.symm
        · have a := py.1 x m
          have b := px.1 y m2
          omega
    subst e
    rw [perm_up_eq p.cons_inv px.2 py.2]
theorem tupI_sh (ns : List Int) : SeqAt.shaped (.tuple (ns.map PyData.int)) = true := (Shp.tup (k := 0) (Shp.ints ns)).shaped
theorem tupI_eq (ns : List Int) : PyData.eqv (.tuple (ns.map PyData.int)) (.tuple (ns.map PyData.int)) = true := (Shp.tup (k := 0) (Shp.ints ns)).eqv
def rowsD (vs : List (List Int)) : PyData := .list (vs.map fun l => .list (l.map PyData.int))
theorem rowsD_shp (vs : List (List Int)) : Shp 2 (rowsD vs) := Shp.lst (k := 1) (Shp.map (fun l => Shp.lst (k := 0) (Shp.ints l)) vs)
theorem rows_dp {K : PySem.W.Frag} {H : Hp} : ∀ {as : List Addr} {vs : List (List Int)}, LstRows H as vs → DpAll K H (as.map V.ref) (vs.map fun l => .list (l.map PyData.int))
  | [], [], _ => .nil
  | [], q :: ls, h => by cases h.1
  | a :: as, [], h => by cases h.1
  | a :: as, q :: ls, h => .cons (.lst (.inl (.inl (h.2 0 _ _ rfl rfl))) (dpI q)) (rows_dp ⟨Nat.succ.inj h.1, fun j b u e1 e2 => h.2 (j + 1) b u e1 e2⟩)
theorem HN.rows {K : PySem.W.Frag} {lw : Bool → V} {H : Hp} {n : Nat} {ad : Tg → Addr} {S : HS} {la ca : Nat → List Addr} (h : HN K lw H n ad S la ca) {i : Nat} (hi : i < n) : LstRows H ((List.range (S.stays i).length).map fun j => ad (.sy i j)) (S.stays i) := by
  refine ⟨by rw [List.length_map, List.length_range], fun j a v ea ev => ?_⟩
  have hj := (List.getElem?_eq_some_iff.mp ev).1
  rw [range_at _ hj] at ea
  cases ea
  have e := h.nd (.sy i j) ⟨hi, hj⟩
  rw [e]
  show some (HO.lst (((S.stays i).getD j []).map V.int)) = _
  rw [List.getD_eq_getElem?_getD, ev]
  rfl
theorem hearL_eq {n : Nat} (f : Nat → Bool) : hearL ((List.range n).map f) = filtV f n := by
  unfold hearL filtV
  rw [List.length_map, List.length_range]
  congr 1
  refine List.filter_congr fun i hi => ?_
  have h := List.mem_range.mp hi
  rw [List.getD_eq_getElem?_getD, List.getElem?_map, List.getElem?_range h]
  rfl
section
variable {P : Program} {w : World} {K : PySem.W.Frag} {mg : Str → Option Value} {base : Heap}
def spKLooks (K : PySem.W.Frag) (C Ph : Addr) : Sp := fun vs H Q _ => ∃ (x p d : Addr) (us : List (Option Int)) (r m : Nat) (S : HS) (F F' : Addr → Prop), vs = [.ref x, .ref p, .ref d] ∧ Hear K H C x p us (r : Int) true S F ∧ us.length ≤ 8 ∧ Law K H d us.length S F' ∧ HInv us r S m ∧ m ≤ 700 ∧ TabG H Ph ∧ ∀ H', K0 H H' → Q (.bl true) H'
end
end HK

set_option Elab.async false
set_option linter.all false
set_option maxRecDepth 100000
set_option maxHeartbeats 4000000
namespace HK
open PySem PySem.Spec PyProof.Rows L2 GAl GxR HkX
/-! ### what is made since H0 may be written -/
theorem Kt.kfn {t : Addr} {F : Addr → Prop} {H0 H H' : Hp} (k : Kt t H0 H) (kf : KF F H H') (n : ∀ c, F c → H0 c = none) : Kt t H0 H' :=
  ⟨fun b xs h => kf.tup b xs (k.tup b xs h), fun b o u h => kf.frz b o u (k.frz b o u h), fun b o h ne nt => kf.oth b o (k.oth b o h ne nt) (fun z => by rw [n b z] at h; cases h) nt, fun P h => kf.tab P (k.tab P h), fun b h => k.dom b (kf.dom b h)⟩
theorem Tray.kfn {K : PySem.W.Frag} {t s : Addr} {F : Addr → Prop} {ns : List Int} {b b0 : Int} {H0 H H' : Hp} (h : Tray K H t s ns b) (h0 : Tray K H0 t s ns b0) (k : Kt t H0 H) (kf : KF F H H') (n : ∀ c, F c → H0 c = none) : Tray K H' t s ns b := by
  obtain ⟨⟨p, v, e, r⟩, _⟩ := h
  have h1 := h0.scr.kt (k.kfn kf n)
  obtain ⟨_, _, e0, _⟩ := h0.v
  exact ⟨⟨p, v, kf.oth t _ e (fun z => by rw [n t z] at e0; cases e0) (fun _ z => by cases z), r⟩, h1⟩
theorem doV_flat (S : HS) (e : Deed) : scal (doV S e) (doV S e) = true := by cases e <;> rfl
theorem doV_ty {K : PySem.W.Frag} {H : Hp} (S : HS) (e : Deed) : ∃ T : String, TyX K H (doV S e) (.type T) ∧ kitB T "bool" = some false := by
  cases e with
  | emit => exact ⟨"int", .base (.int _), rfl⟩
  | pl d i => exact ⟨"NoneType", .base .non, rfl⟩
theorem K0.withH {L : Addr} {H H1 H' : Hp} (k1 : K0 H H1) (nL : H L = none) (kl : Kt L H1 H') : K0 H H' := ⟨fun b o e m => kl.oth b o (k1.oth b o e m) (ne_of_none e nL) m, fun P hP => kl.tab P (k1.tab P hP), fun b e => k1.dom b (kl.dom b e)⟩
theorem Hear.kt {K : PySem.W.Frag} {H H' : Hp} {C x p t : Addr} {us : List (Option Int)} {r : Int} {cnt : Bool} {S : HS} {F : Addr → Prop} (h : Hear K H C x p us r cnt S F) (k : Kt t H H') (ht : ¬ F t) : Hear K H' C x p us r cnt S F := h.kf (k.kf (F := fun b => b = t) rfl) fun b hb z => ht (by rw [← z]; exact hb)
end HK

set_option Elab.async false
set_option linter.all false
set_option maxRecDepth 100000
set_option maxHeartbeats 4000000
namespace HK
open PySem PySem.Spec PyProof.Rows L2 GAl GxR HkX
open Evl (pss_cut)
open TL (tl numL len_tl tl_num numL_len tl_append tl_join join_eq joinL ext_tl numL_free split_join int_num)
/-! ### answers about a hearing -/
abbrev scStay : Scope := { kind := .function, names := [(Str.ofString ".0", .local), (Str.ofString "stay", .local)], isGenerator := false, isCoroutine := false }
def rJoinT (K : PySem.W.Frag) : V → List V → Hp → VK → Prop := fun x xs H Q => ∃ a p, ∃ ys : List Str, x = .str a ∧ xs = [.ref p] ∧ (SqL K H p (ys.map V.str) ∨ SqT K H p (ys.map V.str)) ∧ (ys.map (·.length)).sum + ys.length * a.length ≤ 16777216 ∧ Q (.str (Txt.join a ys)) H
def rStrI : List V → Hp → VK → Prop := fun xs H Q => ∃ i, xs = [.int i] ∧ i.natAbs.log2 < 1920 ∧ Q (.str (Str.ofString (toString i))) H
abbrev sAnswer : Stmt := topS 75
abbrev N_scAnswer : List Str := ["word", "hearing", "numbers", "stays", "number", "served", "stay", "place"]
theorem scAnswer : FnScope N_scAnswer ["word", "hearing", "numbers"] (defScope sAnswer) := ⟨rfl, rfl, rfl, by decide +kernel, rfl, by decide +kernel, by decide +kernel⟩
def noneS : Str := Str.ofString "none"
def stayT (l : List Int) : Str := Txt.join (Str.ofString ",") (l.map sOf)
def staysT (vs : List (List Int)) : Str := if vs = [] then noneS else Txt.join (Str.ofString " | ") (vs.map stayT)
def servedT (ys : List Int) : Str := if ys = [] then noneS else Txt.join (Str.ofString " ") (ys.map sOf)
def okS : Str := Str.ofString "ok"
def doT (S : HS) : Deed → Str
  | .emit => sOf S.emitted
  | .pl _ _ => okS
def SmL (vs : List (List Int)) : Prop := vs.length ≤ 100 ∧ ∀ l ∈ vs, l.length ≤ 100 ∧ ∀ x ∈ l, Sm x
theorem strs_sum {c : Nat} {ys : List Str} {a : Str} (h : ∀ y ∈ ys, y.length ≤ c) (hc : c ≤ 1000) (hn : ys.length ≤ 1000) (ha : a.length ≤ 10) : (ys.map (·.length)).sum + ys.length * a.length ≤ 16777216 := by
  have h1 := sum_le h
  have h2 : c * ys.length ≤ 1000 * 1000 := Nat.mul_le_mul hc hn
  have h3 : ys.length * a.length ≤ 1000 * 10 := Nat.mul_le_mul hn ha
  omega
theorem nums_sum {l : List Int} {a : Str} (hl : l.length ≤ 100) (h : ∀ x ∈ l, Sm x) (ha : a.length ≤ 10) : ((l.map sOf).map (·.length)).sum + (l.map sOf).length * a.length ≤ 16777216 :=
  strs_sum (c := 4) (fun y hy => by obtain ⟨x, hx, rfl⟩ := List.mem_map.mp hy; exact sOf_len (h x hx)) (by decide) (by rw [List.length_map]; omega) ha
theorem joinc_len {c : Nat} {a : Str} (ha : a.length = 1) : ∀ {l : List Str}, (∀ p ∈ l, p.length ≤ c) → (Txt.join a l).length ≤ (c + 1) * l.length := fun {l} h => by
  rw [join_eq]
  induction l with
  | nil => exact Nat.zero_le _
  | cons y ys ih =>
    have h1 := h y (List.mem_cons_self ..)
    have h2 := ih fun z hz => h z (List.mem_cons_of_mem _ hz)
    cases ys with
    | nil =>
      show y.length ≤ _
      simp only [List.length_cons, List.length_nil]
      omega
    | cons z zs =>
      show (y ++ a ++ Str.join a (z :: zs)).length ≤ _
      rw [app_len, app_len, ha]
      have : (c + 1) * (y :: z :: zs).length = (c + 1) + (c + 1) * (z :: zs).length := by
        rw [List.length_cons (a := y), Nat.mul_add, Nat.mul_one, Nat.add_comm]
      omega
theorem stayT_len {l : List Int} (hl : l.length ≤ 100) (h : ∀ x ∈ l, Sm x) : (stayT l).length ≤ 500 := by
  have := joinc_len (c := 4) (a := Str.ofString ",") rfl (l := l.map sOf) fun y hy => by obtain ⟨x, hx, rfl⟩ := List.mem_map.mp hy; exact sOf_len (h x hx)
  rw [List.length_map] at this
  unfold stayT
  omega
section
variable {P : Program} {w : World} {K : PySem.W.Frag} {mg : Str → Option Value} {base : Heap}
def spAnswer (K : PySem.W.Frag) (C : Addr) : Sp := fun vs H Q _ => ∃ (wd : Str) (x p l : Addr) (us : List (Option Int)) (r : Nat) (S : HS) (F : Addr → Prop) (nl : List Int), vs = [.str wd, .ref x, .ref l] ∧ Hear K H C x p us (r : Int) true S F ∧ H l = some (.lst (nl.map V.int)) ∧
  ((∃ e : Deed, e.vs = .str wd :: nl.map V.int ∧ wd ≠ Str.ofString "stays" ∧ wd ≠ Str.ofString "served" ∧ CanDo us (r : Int) S e ∧ Sm S.emitted ∧ ∀ (F' : Addr → Prop) (H' : Hp), KF F H H' → (∀ c, F' c → F c ∨ H c = none) → Hear K H' C x p us (r : Int) true (doS us (r : Int) true S e) F' → Q (.str (doT S e)) H') ∨
  (∃ i : Nat, wd = Str.ofString "stays" ∧ nl = [(i : Int)] ∧ i < us.length ∧ SmL (S.stays i) ∧ ∀ H', K0 H H' → Q (.str (staysT (S.stays i))) H') ∨
  (∃ i : Nat, wd = Str.ofString "served" ∧ nl = [(i : Int)] ∧ i < us.length ∧ (S.served i).length ≤ 8 ∧ (∀ q ∈ S.served i, Sm q.1) ∧ ∀ ys H', ys.Perm ((S.served i).map (·.1)) → ys.Pairwise (· ≤ ·) → K0 H H' → Q (.str (servedT ys)) H'))
theorem ok_answer {C f : Addr} {fd : FuncData} {f_h_do f_h_stays f_h_serves : Addr} {fd_h_do fd_h_stays fd_h_serves : FuncData} (F : Fun K "answer_of_hearing" "answer_of_hearing" sAnswer f fd) (hC : HearN K C) (M_h_do : Meth K C "do" f_h_do) (b_h_do : Binds K fd_h_do ["self", "deed"] []) (G_h_do : FnOk P w K mg base CX0 7 f_h_do fd_h_do ["self", "deed"] (spHDo K C))
    (M_h_stays : Meth K C "stays" f_h_stays) (b_h_stays : Binds K fd_h_stays ["self", "place"] []) (G_h_stays : FnOk P w K mg base CX0 4 f_h_stays fd_h_stays ["self", "place"] (spHStays K C))
    (M_h_serves : Meth K C "serves" f_h_serves) (b_h_serves : Binds K fd_h_serves ["self", "place"] []) (G_h_serves : FnOk P w K mg base CX0 4 f_h_serves fd_h_serves ["self", "place"] (spHServes K C)) (m_str : mg "str" = none) : FnOk P w K mg base CX0 8 f fd ["word", "hearing", "numbers"] (spAnswer K C) := by
  refine F.ok scAnswer (fun vs H Q E h => ?_) (fun cdv A outer s H vs Q E hr h => ?_)
  · obtain ⟨wd, x, p, l, us, r, S, F, nl, rfl, _⟩ := h
    rfl
  · obtain ⟨wd, x, p, l, us, r, S, F, nl, rfl, hH, hl, hq⟩ := h
    have hu := hu_of hr
    refine ⟨_, (pss_cons (ps_if (pt_cmpR op_eq (pv 0) pe_str (nomark _)) (pss_cons (ps_set (i := 3) scAnswer.nd rfl (.inl rfl) (pe_meth (pv 1) hC.c M_h_stays G_h_stays (hr.mono (by decide)) b_h_stays .nil pass0 (pa_cons (pe_ix ix_list (pv 2) pe_int (fun _ _ => rfl)) pa_nil)))
      (pss_one (ps_ret (pe_ifExp (pt_truth (pv 3) (by intro _; rfl)) (pe_join pe_str (pe_lc (own := [("stay", 6)]) (g := (gName 6)) (tt := tYes) (te := (tM1 (rJoinT K) (tC (.str (Str.ofString ","))) (tLc (iList K (tVar 6)) (gName 4) tYes (tCB rStrI (tCons (tVar 4) tNil)) [4]))) rfl scAnswer.nd (pi_list (pv 3)) (blkOk_by (N := N_scAnswer) (sc := defScope sAnswer) (by decide +kernel)) (fun _ _ _ _ _ => (pg_name (i := 6) scAnswer.nd rfl (.inl rfl))) (fun _ _ _ _ _ => pts_nil) (fun _ _ _ _ _ => (pe_join pe_str (pe_lc (own := [("number", 4)]) (g := (gName 4)) (tt := tYes) (te := (tCB rStrI (tCons (tVar 4) tNil))) rfl scAnswer.nd (pi_list (pv 6)) (blkOk_by (N := N_scAnswer) (sc := scStay) (by decide +kernel)) (fun _ _ _ _ _ => (pg_name (i := 4) scAnswer.nd rfl (.inl rfl))) (fun _ _ _ _ _ => pts_nil) (fun _ _ _ _ _ => (pe_callTy call_str_int (by rfl) m_str (by decide +kernel) (pa_cons (pv 4) pa_nil)))))))) pe_str)))) pss_nil)
      (pss_cons (ps_if (pt_cmpR op_eq (pv 0) pe_str (nomark _)) (pss_cons (ps_set (i := 5) scAnswer.nd rfl (.inl rfl) (pe_meth (pv 1) hC.c M_h_serves G_h_serves (hr.mono (by decide)) b_h_serves .nil pass0 (pa_cons (pe_ix ix_list (pv 2) pe_int (fun _ _ => rfl)) pa_nil)))
      (pss_one (ps_ret (pe_ifExp (pt_truth (pv 5) (by intro _; rfl)) (pe_join pe_str (pe_lc (own := [("place", 7)]) (g := (gName 7)) (tt := tYes) (te := (tCB rStrI (tCons (tVar 7) tNil))) rfl scAnswer.nd (pi_tup (pv 5)) (blkOk_by (N := N_scAnswer) (sc := defScope sAnswer) (by decide +kernel)) (fun _ _ _ _ _ => (pg_name (i := 7) scAnswer.nd rfl (.inl rfl))) (fun _ _ _ _ _ => pts_nil) (fun _ _ _ _ _ => (pe_callTy call_str_int (by rfl) m_str (by decide +kernel) (pa_cons (pv 7) pa_nil))))) pe_str)))) pss_nil)
      (pss_cons (ps_set (i := 4) scAnswer.nd rfl (.inl rfl) (pe_meth (pv 1) hC.c M_h_do G_h_do (hr.mono (by decide)) b_h_do .nil pass0 (pa_cons (pe_tup (pa_cons (pv 0) (StX.pa_star (pv 2) pa_nil))) pa_nil)))
      (pss_one (ps_ret (pe_ifExp (pt_cmp (pc_isN (pv 4))) pe_str (pe_callTy call_str_int (by rfl) m_str (by decide +kernel) (pa_cons (pv 4) pa_nil)))))))), ?_⟩
    obtain ⟨dx', fs', _, _, _, hw1, _⟩ := hH.parts
    rcases hq with ⟨e, ev, n1, n2, hcan, hsm, q⟩ | ⟨i, rfl, rfl, hi, hsm, q⟩ | ⟨i, rfl, rfl, hi, h8, hsm, q⟩
    · refine ⟨_, rfl, rfl, _, rfl, ?_⟩
      rw [decide_eq_false (show ¬ V.str wd = V.str (Str.ofString "stays") from fun z => n1 (V.str.inj z))]
      refine iteF ⟨_, rfl, rfl, _, rfl, ?_⟩
      rw [decide_eq_false (show ¬ V.str wd = V.str (Str.ofString "served") from fun z => n2 (V.str.inj z))]
      refine iteF ⟨_, rfl, x, dx', fs', rfl, hw1.hx, hw1.hf.no _ (by decide +kernel), ?_⟩
      have hsz : (nl.map V.int).length ≤ 2 := by
        have := congrArg List.length ev
        cases e with
        | emit => exact Nat.le_of_succ_le_succ (show (nl.map V.int).length + 1 ≤ 3 from by rw [show (nl.map V.int).length + 1 = 1 from this.symm]; decide)
        | pl d i => exact Nat.le_of_succ_le_succ (show (nl.map V.int).length + 1 ≤ 3 from by rw [show (nl.map V.int).length + 1 = 2 from this.symm]; decide)
      refine ⟨_, rfl, _, rfl, l, _, rfl, .inr (.inl (.inl hl)), Nat.le_trans (m := 3) (by rw [List.append_nil, List.length_cons]; omega) (by decide), fun ta nta => ?_⟩
      have kt := K0.new nta (o := .tup (.str wd :: (nl.map V.int ++ [])))
      have hHt := hH.k0 kt
      refine ⟨x, p, us, (r : Int), true, S, F, ta, e, rfl, hHt, by rw [ev, ← List.append_nil (nl.map V.int)]; exact .inl (.inl (by rw [List.append_nil]; exact upd_same)), hcan, fun F1 G2 k2 g2 hH2 => ?_⟩
      have fin := q F1 G2 ((kt.kf (F := F)).trans k2 fun c hc => .inl hc) (fun c hc => (g2 c hc).imp id (kt.dom c)) hH2
      cases e with
      | emit => exact ⟨_, rfl, false, rfl, iteF ⟨_, rfl, _, rfl, hsm.log, fin⟩⟩
      | pl d i => exact ⟨_, rfl, true, rfl, iteT fin⟩
    · refine ⟨_, rfl, rfl, _, rfl, ?_⟩
      rw [decide_eq_true rfl]
      refine iteT ⟨_, rfl, x, dx', fs', rfl, hw1.hx, hw1.hf.no _ (by decide +kernel), _, rfl, l, _, 0, .int (i : Int), rfl, rfl, .inl (.inl hl), atI_nat (j := 0) rfl, x, p, us, (r : Int), true, S, F, i, rfl, hH, hi, by have := hsm.1; omega, fun as q1 G k1 hq1 hr1 nq1 nas nd nqas => ?_⟩
      have hasn : as.length = (S.stays i).length := hr1.1
      obtain ⟨hv1, hv2⟩ := hsm
      by_cases he : S.stays i = []
      · have h0 : as = [] := List.eq_nil_of_length_eq_zero (by rw [hasn, he]; rfl)
        subst h0
        refine ⟨_, rfl, false, .inl ⟨_, .inl (.inl hq1), rfl⟩, iteF ?_⟩
        have := q G k1
        rw [show staysT (S.stays i) = noneS by unfold staysT; rw [if_pos he]] at this
        exact this
      · have h0 : (as.map V.ref).isEmpty = false := Bool.eq_false_iff.mpr fun z => he (List.eq_nil_of_length_eq_zero (by rw [← hasn, ← List.length_map (f := V.ref), List.isEmpty_iff.mp z]; rfl))
        refine ⟨_, rfl, true, .inl ⟨_, .inl (.inl hq1), by rw [h0]; rfl⟩, iteT ?_⟩
        refine ⟨⟨_, rfl⟩, _, rfl, q1, rfl, ⟨_, .inl (.inl hq1)⟩, fun D nD => ?_⟩
        have k2 : K0 G (upd G D (.lst [])) := K0.new nD
        refine lc_list (K := K) (a := q1) (xs := as.map V.ref) (fun j H' => K0 G H' ∧ H' D = some (.lst (((S.stays i).take j).map fun v => .str (stayT v))))
          ⟨k2, by rw [List.take_zero]; exact upd_same⟩ (fun j H' _ hh => .inl (.inl (hh.1.oth _ _ hq1 (fun _ z => by cases z)))) (fun j y H' hy hh => ?_) (fun H' hh => ?_)
        · obtain ⟨k3, hD⟩ := hh
          have hj : j < as.length := by
            have := (List.getElem?_eq_some_iff.mp hy).1
            rw [List.length_map] at this
            exact this
          have hj2 : j < (S.stays i).length := by omega
          rw [List.getElem?_map, List.getElem?_eq_getElem hj] at hy
          cases hy
          have ha : G as[j] = some (.lst (((S.stays i)[j]).map V.int)) := hr1.2 j _ _ (List.getElem?_eq_getElem hj) (List.getElem?_eq_getElem hj2)
          have hm := hv2 _ (List.getElem_mem hj2)
          have ha2 : H' as[j] = some (.lst (((S.stays i)[j]).map V.int)) := k3.oth _ _ ha (fun _ z => by cases z)
          refine ⟨rfl, tyes ⟨⟨_, rfl⟩, _, rfl, as[j], rfl, ⟨_, .inl (.inl ha2)⟩, fun D2 nD2 => ?_⟩⟩
          have k4 : K0 H' (upd H' D2 (.lst [])) := K0.new nD2
          have nDD : D2 ≠ D := fun z => by rw [z, hD] at nD2; cases nD2
          refine lc_list (K := K) (a := as[j]) (xs := ((S.stays i)[j]).map V.int) (fun t H2 => K0 H' H2 ∧ H2 D2 = some (.lst (((((S.stays i)[j]).take t).map sOf).map V.str)))
            ⟨k4, by rw [List.take_zero]; exact upd_same⟩ (fun t H2 _ hh => .inl (.inl (hh.1.oth _ _ ha2 (fun _ z => by cases z)))) (fun t y H2 hy hh => ?_) (fun H2 hh => ?_)
          · obtain ⟨k5, hD2⟩ := hh
            have ht : t < ((S.stays i)[j]).length := by
              have := (List.getElem?_eq_some_iff.mp hy).1
              rw [List.length_map] at this
              exact this
            rw [List.getElem?_map, List.getElem?_eq_getElem ht] at hy
            cases hy
            refine ⟨rfl, tyes ⟨_, rfl, _, rfl, (hm.2 _ (List.getElem_mem ht)).log, _, hD2, ?_, k5.mut nD2, ?_⟩⟩
            · rw [List.length_map, List.length_map, List.length_take, sizeLine_eq]; have := hm.1; omega
            · rw [List.take_add_one, List.getElem?_eq_getElem ht, List.map_append, List.map_append]; exact upd_same
          · obtain ⟨k5, hD2⟩ := hh
            rw [List.length_map, List.take_length] at hD2
            refine ⟨_, D2, ((S.stays i)[j]).map sOf, rfl, rfl, .inl (.inl (.inl hD2)), nums_sum hm.1 hm.2 (by decide), _, k5.oth D _ hD (fun _ z => by cases z), ?_, (k3.trans k5).mut nD, ?_⟩
            · rw [List.length_map, List.length_take, sizeLine_eq]; omega
            · rw [List.take_add_one, List.getElem?_eq_getElem hj2, List.map_append]; exact upd_same
        · obtain ⟨k3, hD⟩ := hh
          rw [List.length_map, hasn, List.take_length] at hD
          refine ⟨_, D, (S.stays i).map stayT, rfl, rfl, .inl (.inl (.inl (by rw [List.map_map]; exact hD))), strs_sum (c := 500) (fun y hy => by obtain ⟨v, hv, rfl⟩ := List.mem_map.mp hy; exact stayT_len (hv2 v hv).1 (hv2 v hv).2) (by decide) (by rw [List.length_map]; omega) (by decide), ?_⟩
          have := q H' (k1.trans k3)
          rw [show staysT (S.stays i) = Txt.join (Str.ofString " | ") ((S.stays i).map stayT) by unfold staysT; rw [if_neg he]] at this
          exact this
    · refine ⟨_, rfl, rfl, _, rfl, ?_⟩
      rw [decide_eq_false (show ¬ V.str (Str.ofString "served") = V.str (Str.ofString "stays") from fun z => absurd (V.str.inj z) (by decide +kernel))]
      refine iteF ⟨_, rfl, rfl, _, rfl, ?_⟩
      rw [decide_eq_true rfl]
      refine iteT ⟨_, rfl, x, dx', fs', rfl, hw1.hx, hw1.hf.no _ (by decide +kernel), _, rfl, l, _, 0, .int (i : Int), rfl, rfl, .inl (.inl hl), atI_nat (j := 0) rfl, x, p, us, (r : Int), true, S, F, i, rfl, hH, hi, by omega, fun ys q1 G hp hs k1 hq1 => ?_⟩
      by_cases he : ys = []
      · subst he
        refine ⟨_, rfl, false, .inr (.inl ⟨_, .inl (.inl hq1), rfl⟩), iteF ?_⟩
        exact q [] G hp hs k1
      · have h0 : (ys.map V.int).isEmpty = false := Bool.eq_false_iff.mpr fun z => he (List.map_eq_nil_iff.mp (List.isEmpty_iff.mp z))
        refine ⟨_, rfl, true, .inr (.inl ⟨_, .inl (.inl hq1), by rw [h0]; rfl⟩), iteT ?_⟩
        have yl : ys.length ≤ 8 := by rw [hp.length_eq, List.length_map]; exact h8
        have ysm : ∀ y ∈ ys, Sm y := fun y hy => by
          obtain ⟨q2, hq2, rfl⟩ := List.mem_map.mp (hp.mem_iff.mp hy)
          exact hsm q2 hq2
        refine ⟨⟨_, rfl⟩, _, rfl, q1, rfl, ⟨_, .inl (.inl hq1)⟩, fun D nD => ?_⟩
        have k2 : K0 G (upd G D (.lst [])) := K0.new nD
        refine lc_tup (K := K) (a := q1) (xs := ys.map V.int) (fun t H2 => K0 G H2 ∧ H2 D = some (.lst (((ys.take t).map sOf).map V.str)))
          ⟨k2, by rw [List.take_zero]; exact upd_same⟩ (fun t H2 _ hh => .inl (.inl (hh.1.oth _ _ hq1 (fun _ z => by cases z)))) (fun t y H2 hy hh => ?_) (fun H2 hh => ?_)
        · obtain ⟨k5, hD2⟩ := hh
          have ht : t < ys.length := by
            have := (List.getElem?_eq_some_iff.mp hy).1
            rw [List.length_map] at this
            exact this
          rw [List.getElem?_map, List.getElem?_eq_getElem ht] at hy
          cases hy
          refine ⟨rfl, tyes ⟨_, rfl, _, rfl, (ysm _ (List.getElem_mem ht)).log, _, hD2, ?_, k5.mut nD, ?_⟩⟩
          · rw [List.length_map, List.length_map, List.length_take, sizeLine_eq]; omega
          · rw [List.take_add_one, List.getElem?_eq_getElem ht, List.map_append, List.map_append]; exact upd_same
        · obtain ⟨k5, hD2⟩ := hh
          rw [List.length_map, List.take_length] at hD2
          refine ⟨_, D, ys.map sOf, rfl, rfl, .inl (.inl (.inl hD2)), nums_sum (by omega) ysm (by decide), ?_⟩
          have := q ys H2 hp hs (k1.trans k5)
          rw [show servedT ys = Txt.join (Str.ofString " ") (ys.map sOf) by unfold servedT; rw [if_neg he]] at this
          exact this
end
end HK

set_option Elab.async false
set_option linter.all false
set_option maxRecDepth 100000
set_option maxHeartbeats 4000000
namespace HK
open PySem PySem.Spec PyProof.Rows L2 GAl GxR HkX
open Evl (pss_cut)
open TL (tl numL len_tl tl_num numL_len tl_append tl_join join_eq joinL ext_tl numL_free split_join int_num)
/-! ### a desk that is told rows about one Hearing -/
abbrev sDeskI : Stmt := methS 70 0
abbrev N_scDeskI : List Str := ["self"]
theorem scDeskI : FnScope N_scDeskI ["self"] (defScope sDeskI) := ⟨rfl, rfl, rfl, by decide +kernel, rfl, by decide +kernel, by decide +kernel⟩
abbrev sSay : Stmt := methS 70 1
abbrev N_scSay : List Str := ["self", "row", "line", "feed", "text", "words", "word", "name", "numbers", "part"]
theorem scSay : FnScope N_scSay ["self", "row"] (defScope sSay) := ⟨rfl, rfl, rfl, by decide +kernel, rfl, by decide +kernel, by decide +kernel⟩
structure DeskN (K : PySem.W.Frag) (C : Addr) : Prop where
  c : Cls K C
  n : ∀ f ∈ (["nets", "hearings"] : List Str), NoAttr K C f
/-- a desk at k, its dict of hearings at h -/
structure DeskAt (H : Hp) (CD k h : Addr) (es : List (Key × V)) : Prop where
  ex : ∃ (dk : Addr) (fs : List (Str × V)), H k = some (.ins CD dk fs) ∧ fs.lookup ("hearings" : Str) = some (.ref h) ∧ fs.lookup ("say" : Str) = none
  hh : H h = some (.dK es)
theorem DeskAt.kf {F : Addr → Prop} {H H' : Hp} {CD k h : Addr} {es : List (Key × V)} (d : DeskAt H CD k h es) (kf : KF F H H') (n1 : ¬ F k) (n2 : ¬ F h) : DeskAt H' CD k h es := by
  obtain ⟨dk, fs, h1, h2, h3⟩ := d.ex
  exact ⟨⟨dk, fs, kf.oth _ _ h1 n1 (fun _ z => by cases z), h2, h3⟩, kf.oth _ _ d.hh n2 (fun _ z => by cases z)⟩
theorem DeskAt.k0 {H H' : Hp} {CD k h : Addr} {es : List (Key × V)} (d : DeskAt H CD k h es) (k0 : K0 H H') : DeskAt H' CD k h es := d.kf (k0.kf (F := fun _ => False)) (fun z => z) fun z => z
section
variable {P : Program} {w : World} {K : PySem.W.Frag} {mg : Str → Option Value} {base : Heap}
def spDeskI (CD : Addr) : Sp := fun vs H Q _ => ∃ k dk : Addr, vs = [.ref k] ∧ H k = some (.ins CD dk []) ∧ ∀ (h : Addr) (H' : Hp), Kt k H H' → H h = none → DeskAt H' CD k h [] → Q .non H'
theorem ok_deski {f CD : Addr} {fd : FuncData} (F : Fun K "__init__" "Desk.__init__" sDeskI f fd) (hDk : DeskN K CD) : FnOk P w K mg base CX0 1 f fd ["self"] (spDeskI CD) := by
  refine F.ok scDeskI (fun vs H Q E h => ?_) (fun cdv A outer s H vs Q E hr h => ?_)
  · obtain ⟨k, dk, rfl, _⟩ := h
    rfl
  · obtain ⟨k, dk, rfl, hk, q⟩ := h
    have hu := hu_of hr
    refine ⟨_, (pss_cons (ps_fld (pv 0) pe_dnewK rfl)
      (pss_one (ps_fld (pv 0) pe_dnewK rfl))), ?_⟩
    have n1 : NoAttr K CD "nets" := hDk.n _ (by simp)
    have n2 : NoAttr K CD "hearings" := hDk.n _ (by simp)
    intro a na
    have nak : a ≠ k := fun z => by rw [z, hk] at na; cases na
    have k1 := K0.new na (o := .dK [])
    have hk1 := k1.oth _ _ hk (fun _ z => by cases z)
    refine ⟨_, rfl, k, CD, dk, [], rfl, hk1, hDk.c, n1, by decide, fun h nh => ?_⟩
    have kt1 := k1.kt.trans (Kt.setI hk1 (gs := putF "nets" (.ref a) []))
    have hk2 : (upd (upd H a (.dK [])) k (.ins CD dk (putF "nets" (.ref a) []))) k = some (.ins CD dk (putF "nets" (.ref a) [])) := upd_same
    generalize upd (upd H a (.dK [])) k (.ins CD dk (putF "nets" (.ref a) [])) = G at kt1 hk2 nh ⊢
    have nhk : h ≠ k := fun z => by rw [z, hk2] at nh; cases nh
    have k2 := K0.new nh (o := .dK [])
    have hk3 := k2.oth _ _ hk2 (fun _ z => by cases z)
    refine ⟨_, rfl, k, CD, dk, _, rfl, hk3, hDk.c, n2, Nat.lt_of_le_of_lt (length_putF _ _ _) (by decide), ?_⟩
    refine q h _ (kt1.trans (k2.kt.trans (Kt.setI hk3))) (kt1.dom _ nh) ⟨⟨dk, _, upd_same, by rw [lookup_putF, if_pos rfl], by rw [lookup_putF, if_neg (by decide), lookup_putF, if_neg (by decide)]; rfl⟩, (upd_ne nhk).trans upd_same⟩
def wordO : Option Int → Str
  | none => dash
  | some i => sOf i
def spSay (K : PySem.W.Frag) (C CD Pa Pi Pw Py : Addr) : Sp := fun vs H Q _ => ∃ (k h : Addr) (wd nm : Str) (ps : List Str), vs = [.ref k, .str (rowT wd nm ps)] ∧ RowOk wd nm ps ∧ TabG H Pa ∧ TabG H Pi ∧ TabG H Pw ∧ TabG H Py ∧
  ((∃ (us : List (Option Int)) (r : Nat), wd = Str.ofString "ways" ∧ DeskAt H CD k h [] ∧ ps = us.map wordO ∧ Ways us ∧ us[r]? = some none ∧ ∀ (x p : Addr) (F : Addr → Prop) (H' : Hp), KF (fun c => c = h) H H' → DeskAt H' CD k h [(.inr nm, .ref x)] → Hear K H' C x p us (r : Int) true HS.ini F → (∀ c, F c → H c = none) → Q (.str okS) H') ∨
  (∃ (x p : Addr) (us : List (Option Int)) (r : Nat) (S : HS) (F : Addr → Prop) (nl : List Int), DeskAt H CD k h [(.inr nm, .ref x)] ∧ Hear K H C x p us (r : Int) true S F ∧ ps = nl.map sOf ∧ (∀ x ∈ nl, Sm x) ∧ wd ≠ Str.ofString "ways" ∧
    ((∃ e : Deed, e.vs = .str wd :: nl.map V.int ∧ wd ≠ Str.ofString "stays" ∧ wd ≠ Str.ofString "served" ∧ CanDo us (r : Int) S e ∧ Sm S.emitted ∧ ∀ (F' : Addr → Prop) (H' : Hp), KF F H H' → (∀ c, F' c → F c ∨ H c = none) → Hear K H' C x p us (r : Int) true (doS us (r : Int) true S e) F' → Q (.str (doT S e)) H') ∨
    (∃ i : Nat, wd = Str.ofString "stays" ∧ nl = [(i : Int)] ∧ i < us.length ∧ SmL (S.stays i) ∧ ∀ H', K0 H H' → Q (.str (staysT (S.stays i))) H') ∨
    (∃ i : Nat, wd = Str.ofString "served" ∧ nl = [(i : Int)] ∧ i < us.length ∧ (S.served i).length ≤ 8 ∧ (∀ q ∈ S.served i, Sm q.1) ∧ ∀ ys H', ys.Perm ((S.served i).map (·.1)) → ys.Pairwise (· ≤ ·) → K0 H H' → Q (.str (servedT ys)) H'))))
def netWs : List V := [.str (Str.ofString "early"), .str (Str.ofString "cheapest"), .str (Str.ofString "ontime")]
theorem ok_dsay {f C CD f_I Pa Pi Pw Py c aNW : Addr} {fd fd_I : FuncData} {f_isrow f_under_ f_answer : Addr} {fd_isrow fd_under_ fd_answer : FuncData} (F : Fun K "say" "Desk.say" sSay f fd) (hDk : DeskN K CD) (hNW : ∀ H, SqT K H aNW netWs) (c_NET_WORDS : mg "NET_WORDS" = some (.ref aNW))
    (hC : HearN K C) (g_H : mg "Hearing" = some (.ref C)) (M_H : L2.Mk K C f_I) (b_I : Binds K fd_I ["self", "up"] []) (G_I : FnOk P w K mg base CX0 6 f_I fd_I ["self", "up"] (spInitH K C Py))
    (k_isrow : PySem.W.keepIn K (.ref f_isrow) = true) (b_isrow : Binds K fd_isrow ["thing"] []) (g_isrow : mg "is_row" = some (.ref f_isrow)) (G_isrow : FnOk P w K mg base CX0 5 f_isrow fd_isrow ["thing"] (spIsRow K Pa Pi Pw))
    (k_under_ : PySem.W.keepIn K (.ref f_under_) = true) (b_under_ : Binds K fd_under_ ["things", "name"] []) (g_under_ : mg "under" = some (.ref f_under_)) (G_under_ : FnOk P w K mg base CX0 1 f_under_ fd_under_ ["things", "name"] (spUnderD K))
    (k_answer : PySem.W.keepIn K (.ref f_answer) = true) (b_answer : Binds K fd_answer ["word", "hearing", "numbers"] []) (g_answer : mg "answer_of_hearing" = some (.ref f_answer)) (G_answer : FnOk P w K mg base CX0 8 f_answer fd_answer ["word", "hearing", "numbers"] (spAnswer K C)) (m_int : mg "int" = none) (m_tuple : mg "tuple" = none) : FnOk P w K mg base CX0 9 f fd ["self", "row"] (spSay K C CD Pa Pi Pw Py) := by
  refine F.ok scSay (fun vs H Q E h => ?_) (fun cdv A outer s H vs Q E hr h => ?_)
  · obtain ⟨k, h, wd, nm, ps, rfl, _⟩ := h
    rfl
  · obtain ⟨k, h, wd, nm, ps, rfl, hR, ta, ti, tw, ty, hq⟩ := h
    have hu := hu_of hr
    refine ⟨_, (pss_cons (ps_if (pt_not (pt_val (pe_call G_isrow (hr.mono (by decide)) (by rfl) g_isrow k_isrow b_isrow .nil pass0 (pa_cons (pv 1) pa_nil)))) pss_never pss_nil)
      (pss_cons (ps_asg (pe_partition (pv 1) pe_str) (pg_tup rfl (pgs_cons (pg_name (i := 2) scSay.nd rfl (.inl rfl)) (pgs_cons (pg_name (i := 3) scSay.nd rfl (.inl rfl)) (pgs_cons (pg_name (i := 4) scSay.nd rfl (.inl rfl)) pgs_nil)))))
      (pss_cons (ps_set (i := 5) scSay.nd rfl (.inl rfl) (pe_split (pv 2) pe_str))
      (pss_cons (ps_set (i := 6) scSay.nd rfl (.inl rfl) (pe_ix ix_list (pv 5) pe_int (fun _ _ => rfl)))
      (pss_cons (ps_set (i := 7) scSay.nd rfl (.inl rfl) (pe_ix ix_list (pv 5) pe_int (fun _ _ => rfl)))
      (pss_cons (ps_if (pt_cmpR op_eq (pv 6) pe_str (nomark _)) pss_never pss_nil)
      (pss_cons (ps_if (pt_cmpR op_eq (pv 6) pe_str (nomark _)) (pss_cons (ps_dput hu (pe_fld (pv 0) rfl) (pv 7) (pe_make M_H G_I (hr.mono (by decide)) (by rfl) g_H b_I .nil pass0 (pa_cons (pe_callTy call_tuple_fz (by rfl) m_tuple (by decide +kernel) (pa_cons (pe_lc (own := [("part", 9)]) (g := (gName 9)) (tt := tYes) rfl scSay.nd (pi_list (pe_slice sl_list (pv 5) (po_some pe_int) po_none)) (blkOk_by (N := N_scSay) (sc := defScope sSay) (by decide +kernel)) (fun _ _ _ _ _ => (pg_name (i := 9) scSay.nd rfl (.inl rfl))) (fun _ _ _ _ _ => pts_nil) (fun _ _ _ _ _ => (pe_ifExp (pt_cmpR op_eq (pv 9) pe_str (nomark _)) pe_non (pe_callTy call_int_str (by rfl) m_int (by decide +kernel) (pa_cons (pv 9) pa_nil))))) pa_nil)) pa_nil)) rfl)
      (pss_one (ps_ret pe_str))) pss_nil)
      (pss_cons (ps_setLc (i := 8) (own := [("part", 9)]) (g := (gName 9)) (tt := tYes) rfl scSay.nd rfl rfl (sw_true rfl rfl rfl rfl) (pi_list (pe_slice sl_list (pv 5) (po_some pe_int) po_none)) (blkOk_by (N := N_scSay) (sc := defScope sSay) (by decide +kernel)) (fun _ _ _ _ _ => (pg_name (i := 9) scSay.nd rfl (.inl rfl))) (fun _ _ _ _ _ => pts_nil) (fun _ _ _ _ _ => (pe_callTy call_int_str (by rfl) m_int (by decide +kernel) (pa_cons (pv 9) pa_nil))))
      (pss_cons (ps_if (pt_cmpR op_in_seq (pv 6) (pe_glob (v := .ref aNW) (by rfl) c_NET_WORDS rfl) rfl) pss_never pss_nil)
      (pss_one (ps_ret (pe_call G_answer (hr.mono (by decide)) (by rfl) g_answer k_answer b_answer .nil pass0 (pa_cons (pv 6) (pa_cons (pe_call G_under_ (hr.mono (by decide)) (by rfl) g_under_ k_under_ b_under_ .nil pass0 (pa_cons (pe_fld (pv 0) rfl) (pa_cons (pv 7) pa_nil))) (pa_cons (pv 8) pa_nil))))))))))))))), ?_⟩
    have hlen := hR.len
    have hsplit := hR.split
    have hpart := hR.part
    refine ⟨_, rfl, wd, nm, ps, rfl, hR, ta, ti, tw, fun H1 k1 => ⟨true, rfl, iteF ?_⟩⟩
    refine ⟨_, rfl, ⟨_, rfl⟩, _, _, rfl, rfl, by decide, Nat.le_trans hlen (by decide), fun tp ntp => ?_⟩
    rw [hpart]
    have k2 := k1.trans (K0.new ntp (o := .tup [.str (rowT wd nm ps), .str Str.empty, .str Str.empty]))
    refine ⟨tp, _, rfl, .inl (.inl upd_same), rfl, _, _, rfl, _, _, rfl, _, _, rfl, rfl, ?_⟩
    refine ⟨_, rfl, ⟨_, rfl⟩, _, _, rfl, rfl, by decide, Nat.le_trans (Nat.add_le_add_right hlen 2) (by decide), ?_⟩
    rw [show Txt.split (rowT wd nm ps) (Str.ofString " ") = wd :: nm :: ps from hsplit]
    dsimp only
    intro wl nwl
    have k3 := k2.trans (K0.new nwl (o := .lst ((wd :: nm :: ps).map V.str)))
    have hw : (upd (upd H1 tp (.tup [.str (rowT wd nm ps), .str Str.empty, .str Str.empty])) wl (.lst ((wd :: nm :: ps).map V.str))) wl = some (.lst ((wd :: nm :: ps).map V.str)) := upd_same
    generalize upd (upd H1 tp (.tup [.str (rowT wd nm ps), .str Str.empty, .str Str.empty])) wl (.lst ((wd :: nm :: ps).map V.str)) = G at k3 hw
    refine ⟨_, rfl, wl, _, 0, .str wd, rfl, rfl, .inl (.inl hw), atI_nat (j := 0) rfl, ?_⟩
    refine ⟨_, rfl, wl, _, 1, .str nm, rfl, rfl, .inl (.inl hw), atI_nat (j := 1) rfl, ?_⟩
    have hnn := (hWords_free hR.wm).2.2.2
    refine ⟨_, rfl, rfl, _, rfl, ?_⟩
    rw [show decide (V.str wd = V.str (Str.ofString "net")) = false from decide_eq_false fun z => hnn (V.str.inj z)]
    refine iteF ⟨_, rfl, rfl, _, rfl, ?_⟩
    rcases hq with ⟨us, r, rfl, hd, rfl, hW, hr0, q⟩ | ⟨x, p, us, r, S, F, nl, hd, hH, rfl, hsn, hnw, q⟩
    · rw [decide_eq_true rfl]
      refine iteT ?_
      have hd3 := hd.k0 k3
      refine ⟨_, rfl, 2, rfl, wl, _, rfl, .inl (.inl hw), fun L nL => ?_⟩
      rw [show cutV ((Str.ofString "ways" :: nm :: us.map wordO).map V.str) (some 2) none = (us.map wordO).map V.str from cut_twoR]
      have k4 := k3.trans (K0.new nL (o := .lst ((us.map wordO).map V.str)))
      have hL : (upd G L (.lst ((us.map wordO).map V.str))) L = some (.lst ((us.map wordO).map V.str)) := upd_same
      generalize upd G L (.lst ((us.map wordO).map V.str)) = G1 at k4 hL
      refine ⟨L, rfl, ⟨_, .inl (.inl hL)⟩, fun D nD => ?_⟩
      have k5 : K0 G1 (upd G1 D (.lst [])) := K0.new nD
      have sm : ∀ v : Int, some v ∈ us → Sm v := fun v hv => by
        have h1 := hW.rng v hv
        have h2 := hW.n8
        exact ⟨h1.1, by omega⟩
      refine lc_list (K := K) (a := L) (xs := (us.map wordO).map V.str) (fun t H2 => K0 G1 H2 ∧ H2 D = some (.lst ((us.take t).map oV)))
        ⟨k5, by rw [List.take_zero]; exact upd_same⟩ (fun t H2 _ hh => .inl (.inl (hh.1.oth _ _ hL (fun _ z => by cases z)))) (fun t y H2 hy hh => ?_) (fun H2 hh => ?_)
      · obtain ⟨k6, hD2⟩ := hh
        have ht : t < us.length := by
          have := (List.getElem?_eq_some_iff.mp hy).1
          rw [List.length_map, List.length_map] at this
          exact this
        rw [List.getElem?_map, List.getElem?_map, List.getElem?_eq_getElem ht] at hy
        cases hy
        have hm := List.getElem_mem ht
        have e8 := hW.n8
        have fin : ∀ v, v = oV us[t] → ∃ acc, H2 D = some (.lst acc) ∧ acc.length < sizeLine ∧ (K0 G1 (upd H2 D (.lst (acc ++ [v]))) ∧ (upd H2 D (.lst (acc ++ [v]))) D = some (.lst ((us.take (t + 1)).map oV))) := fun v hv => by
          refine ⟨_, hD2, ?_, k6.mut nD, ?_⟩
          · rw [List.length_map, List.length_take, sizeLine_eq]; omega
          · rw [List.take_add_one, List.getElem?_eq_getElem ht, List.map_append, hv]; exact upd_same
        rcases hu2 : us[t] with _ | v
        · rw [hu2] at fin
          exact ⟨rfl, tyes ⟨_, rfl, rfl, _, rfl, iteT (fin _ rfl)⟩⟩
        · rw [hu2] at fin hm
          have sv := sm v hm
          refine ⟨rfl, tyes ⟨_, rfl, rfl, _, rfl, ?_⟩⟩
          rw [show decide (V.str (wordO (some v)) = V.str (Str.ofString "-")) = false from decide_eq_false fun z => sOf_free (s := 45) sv (.inl (by decide)) (by rw [show sOf v = Str.ofString "-" from V.str.inj z]; decide)]
          exact iteF ⟨_, rfl, _, _, rfl, int_sOf sv, Nat.le_trans (sOf_len sv) (by decide), fin _ rfl⟩
      · obtain ⟨k6, hD2⟩ := hh
        rw [List.length_map, List.length_map, List.take_length] at hD2
        refine ⟨D, _, rfl, .inl (.inl hD2), fun pt o npt oc od x dx nx ndx hne => ?_⟩
        have k7 := (k4.trans k6).trans (K0.new npt (o := .frz o (.tup (us.map oV))))
        have hA : WaysAt (upd H2 pt (.frz o (.tup (us.map oV)))) pt us := ⟨o, upd_same, oc, od⟩
        generalize upd H2 pt (.frz o (.tup (us.map oV))) = G3 at k7 hA nx ndx ⊢
        have kx1 := K0.new ndx (o := .own x)
        have nx1 : (upd G3 dx (.own x)) x = none := (upd_ne hne.symm).trans nx
        have kx := kx1.trans (K0.new nx1 (o := .ins C dx []))
        refine ⟨x, dx, pt, us, r, rfl, upd_same, hA.k0 kx, hW, hr0, (kx.tab _ (k7.tab _ ty)), fun F H5 k5 hH hF => ⟨rfl, ?_⟩⟩
        have k8 := k7.trans (K0.withH kx nx k5)
        have nF : ∀ c, F c → H c = none := fun c hc => k7.dom _ ((hF c hc).elim (fun z => by rw [z]; exact nx) (kx.dom c))
        obtain ⟨dk, fs, hk1, hk2, hk3⟩ := (hd.k0 k8).ex
        have hh8 := (hd.k0 k8).hh
        refine ⟨_, rfl, k, CD, dk, fs, _, rfl, hk1, hDk.c, hDk.n _ (by simp), hk2, _, rfl, h, _, rfl, DPut.k (k := .inr nm) hh8 (by decide), ?_⟩
        have kd := (Kt.dct hh8 (ms := putK [] (.inr nm) (.ref x)))
        have hhH := hd.hh
        refine q x pt F _ ((k8.kf (F := fun c => c = h)).trans (kd.kf (F := fun c => c = h) rfl) fun c hc => .inl hc) ⟨⟨dk, fs, (upd_ne (fun z => by rw [z, hh8] at hk1; cases hk1)).trans hk1, hk2, hk3⟩, upd_same⟩ (hH.kt kd fun z => by rw [nF h z] at hhH; cases hhH) nF
    · rw [decide_eq_false (show ¬ V.str wd = V.str (Str.ofString "ways") from fun z => hnw (V.str.inj z))]
      refine iteF ?_
      have hd3 := hd.k0 k3
      have hH3 := hH.k0 k3
      refine ⟨_, rfl, 2, rfl, wl, _, rfl, .inl (.inl hw), fun L nL => ?_⟩
      rw [show cutV ((wd :: nm :: nl.map sOf).map V.str) (some 2) none = (nl.map sOf).map V.str from cut_twoR]
      have k4 := k3.trans (K0.new nL (o := .lst ((nl.map sOf).map V.str)))
      have hL : (upd G L (.lst ((nl.map sOf).map V.str))) L = some (.lst ((nl.map sOf).map V.str)) := upd_same
      generalize upd G L (.lst ((nl.map sOf).map V.str)) = G1 at k4 hL
      refine ⟨L, rfl, ⟨_, .inl (.inl hL)⟩, fun D nD => ?_⟩
      have k5 : K0 G1 (upd G1 D (.lst [])) := K0.new nD
      have hn8 := hR.n8
      rw [List.length_map] at hn8
      refine lc_list (K := K) (a := L) (xs := (nl.map sOf).map V.str) (fun t H2 => K0 G1 H2 ∧ H2 D = some (.lst ((nl.take t).map V.int)))
        ⟨k5, by rw [List.take_zero]; exact upd_same⟩ (fun t H2 _ hh => .inl (.inl (hh.1.oth _ _ hL (fun _ z => by cases z)))) (fun t y H2 hy hh => ?_) (fun H2 hh => ?_)
      · obtain ⟨k6, hD2⟩ := hh
        have ht : t < nl.length := by
          have := (List.getElem?_eq_some_iff.mp hy).1
          rw [List.length_map, List.length_map] at this
          exact this
        rw [List.getElem?_map, List.getElem?_map, List.getElem?_eq_getElem ht] at hy
        cases hy
        have sv := hsn _ (List.getElem_mem ht)
        refine ⟨rfl, tyes ⟨_, rfl, _, _, rfl, int_sOf sv, Nat.le_trans (sOf_len sv) (by decide), _, hD2, ?_, k6.mut nD, ?_⟩⟩
        · rw [List.length_map, List.length_take, sizeLine_eq]; omega
        · rw [List.take_add_one, List.getElem?_eq_getElem ht, List.map_append]; exact upd_same
      · obtain ⟨k6, hD2⟩ := hh
        rw [List.length_map, List.length_map, List.take_length] at hD2
        have k7 := k4.trans k6
        have hd7 := hd.k0 k7
        have hH7 := hH.k0 k7
        obtain ⟨dk, fs, hk1, hk2, hk3⟩ := hd7.ex
        have hnw2 : inV (.str wd) netWs = false := by
          have hm := hR.wm
          simp only [hWords, List.mem_cons, List.not_mem_nil, or_false] at hm
          rcases hm with rfl | rfl | rfl | rfl | rfl | rfl | rfl | rfl <;> decide +kernel
        refine ⟨_, rfl, aNW, netWs, rfl, .inr (hNW _), rfl, rfl, _, rfl, ?_⟩
        rw [if_neg (show ¬ (false = true) from fun z => by cases z), hnw2]
        refine iteF ⟨_, rfl, _, rfl, k, CD, dk, fs, _, rfl, hk1, hDk.c, hDk.n _ (by simp), hk2, _, rfl, h, nm, .ref x, rfl, hd7.hh, _, rfl, wd, x, p, D, us, r, S, F, nl, rfl, hH7, hD2, ?_⟩
        rcases q with ⟨e, a1, a2, a3, a4, a5, q⟩ | ⟨i, a1, a2, a3, a4, q⟩ | ⟨i, a1, a2, a3, a4, a5, q⟩
        · exact .inl ⟨e, a1, a2, a3, a4, a5, fun F' H' kf g hn => q F' H' ((k7.kf (F := F)).trans kf fun c hc => .inl hc) (fun c hc => (g c hc).imp id (k7.dom c)) hn⟩
        · exact .inr (.inl ⟨i, a1, a2, a3, a4, fun H' k => q H' (k7.trans k)⟩)
        · exact .inr (.inr ⟨i, a1, a2, a3, a4, a5, fun ys H' hp hs k => q ys H' hp hs (k7.trans k)⟩)
end
end HK

set_option Elab.async false
set_option linter.all false
set_option maxRecDepth 100000
set_option maxHeartbeats 2000000
namespace HK
open PySem PySem.Spec PyProof.Rows L2 GAl GxR
/-! the desk's tables, as facts that a head can be asked for -/
theorem ioB_ok : ∀ {xs : List (Option Int)} {vs : List Value}, ioB xs vs = true → Vals (xs.map oVL) vs
  | [], [], _ => .nil
  | [], v :: vs, h => by cases v <;> cases h
  | some i :: xs, [], h => by cases h
  | none :: xs, [], h => by cases h
  | some i :: xs, v :: vs, h => by
    cases v with
    | int j t =>
      obtain ⟨h1, h2⟩ := He.ba (show (decide (i = j) && ioB xs vs) = true from h)
      have e := of_decide_eq_true h1
      subst e
      exact .cons ⟨t, rfl⟩ (ioB_ok h2)
    | _ => cases h
  | none :: xs, v :: vs, h => by
    cases v with
    | none => exact .cons rfl (ioB_ok (show ioB xs vs = true from h))
    | _ => cases h
theorem tupB_ok {K : PySem.W.Frag} {a : Addr} {p : List Value → Bool} {vs : List V} (h : tupB K a p = true) (hp : ∀ us, p us = true → Vals vs us) (H : Hp) : SqT K H a vs := by
  unfold tupB at h
  cases e : K.lookup a with
  | none => rw [e] at h; cases h
  | some o =>
    rw [e] at h
    obtain ⟨h1, h2⟩ := He.ba h
    cases ed : o.data with
    | seq its n =>
      rw [ed] at h2
      obtain ⟨h3, h4⟩ := He.ba h2
      exact .inr ⟨o, its, n, e, of_decide_eq_true h1, ed, Nat.le_trans (of_decide_eq_true h4) (by decide), hp _ h3⟩
    | _ => rw [ed] at h2; cases h2
theorem nwB_ok {K : PySem.W.Frag} (h : nwB K = true) (H : Hp) : SqT K H (He.ga K "NET_WORDS") netWs := tupB_ok (vs := netWsS.map V.str) h (fun _ => strsB_ok) H
theorem lensB_ok {K : PySem.W.Frag} (h : lensB K = true) : LensOk K (He.ga K "LENGTHS") := fun wd hw => by
  have h2 := List.all_eq_true.mp h wd hw
  unfold lngB at h2
  split at h2
  · next t e => exact ⟨t, e, fun H => tupB_ok (vs := [some (lenMin wd), lenMax wd].map oVL) h2 (fun _ => ioB_ok) H⟩
  · cases h2
end HK

set_option Elab.async false
set_option linter.all false
set_option maxRecDepth 100000
set_option maxHeartbeats 4000000
namespace HK
open PySem PySem.Spec PyProof.Rows L2 GAl GxR HkX
open Evl (pss_cut)
open TL (tl numL len_tl tl_num numL_len tl_append tl_join join_eq joinL ext_tl numL_free split_join int_num)
/-! ### k59: names, texts due, what is asked of the desk -/
abbrev sLName : Stmt := topS 86
abbrev N_scLName : List Str := ["tray", "turn"]
theorem scLName : FnScope N_scLName ["tray"] (defScope sLName) := ⟨rfl, rfl, rfl, by decide +kernel, rfl, by decide +kernel, by decide +kernel⟩
abbrev sLStays : Stmt := topS 87
abbrev N_scLStays : List Str := ["stays", "rows", "stay", "number"]
theorem scLStays : FnScope N_scLStays ["stays"] (defScope sLStays) := ⟨rfl, rfl, rfl, by decide +kernel, rfl, by decide +kernel, by decide +kernel⟩
abbrev sLServed : Stmt := topS 88
abbrev N_scLServed : List Str := ["served", "place"]
theorem scLServed : FnScope N_scLServed ["served"] (defScope sLServed) := ⟨rfl, rfl, rfl, by decide +kernel, rfl, by decide +kernel, by decide +kernel⟩
abbrev sLAsks : Stmt := topS 89
abbrev N_scLAsks : List Str := ["desk", "name", "state", "place", "due"]
theorem scLAsks : FnScope N_scLAsks ["desk", "name", "state", "place"] (defScope sLAsks) := ⟨rfl, rfl, rfl, by decide +kernel, rfl, by decide +kernel, by decide +kernel⟩
/-- str(..) of a number, of a text, of None -/
theorem call_strX {X : Cx} : CallR X (.type "str") (fun xs H Q => (∃ i, xs = [.int i] ∧ i.natAbs.log2 < 1920 ∧ Q (.str (Str.ofString (toString i))) H) ∨ (∃ a, xs = [.str a] ∧ Q (.str a) H) ∨ (xs = [.non] ∧ Q (.str (Str.ofString "None")) H)) := by
  intro pins s σ H xs us Q I r h
  rcases h with ⟨i, rfl, hz, q⟩ | ⟨a, rfl, q⟩ | ⟨rfl, q⟩
  · exact call_str_int pins s σ H _ us Q I r ⟨i, rfl, hz, q⟩
  · exact SkE.call_str_str pins s σ H _ us Q I r ⟨a, rfl, q⟩
  · obtain ⟨u, rfl, t⟩ := vals1 r
    obtain rfl : u = Value.none := t
    exact PySem.P.str_of_none ⟨.str _, H, I.tok _, ⟨_, rfl⟩, q⟩
theorem name_join {l : List Str} (h : ∀ y ∈ l, y.length = 1 ∧ ∀ c ∈ tl y, c ∈ lettersS.cps.toList) : (Txt.join (Str.ofString "") l).length = l.length ∧ ∀ c ∈ tl (Txt.join (Str.ofString "") l), c ∈ lettersS.cps.toList := by
  rw [join_eq]
  induction l with
  | nil => exact ⟨rfl, fun c hc => (List.not_mem_nil hc).elim⟩
  | cons y ys ih =>
    have h1 := h y (List.mem_cons_self ..)
    have h2 := ih fun z hz => h z (List.mem_cons_of_mem _ hz)
    cases ys with
    | nil => exact h1
    | cons z zs =>
      show (y ++ Str.ofString "" ++ Str.join (Str.ofString "") (z :: zs)).length = _ ∧ ∀ c ∈ tl (y ++ Str.ofString "" ++ Str.join (Str.ofString "") (z :: zs)), _
      rw [app_len, app_len, h1.1, h2.1, show (Str.ofString "").length = 0 from rfl]
      refine ⟨by simp only [List.length_cons]; omega, fun c hc => ?_⟩
      rw [tl_append, tl_append] at hc
      rcases List.mem_append.mp hc with hc | hc
      · rcases List.mem_append.mp hc with hc | hc
        · exact h1.2 c hc
        · exact (List.not_mem_nil hc).elim
      · exact h2.2 c hc
def NameChar (y : Str) : Prop := y.length = 1 ∧ ∀ c ∈ tl y, c ∈ lettersS.cps.toList
theorem nameChars : ∀ i : Nat, i < 8 → ∃ c, atI ((Str.ofString "aenprtwz").cps.toList) (i : Int) = some c ∧ NameChar ⟨#[c]⟩ := by
  intro i hi
  have e : (Str.ofString "aenprtwz").cps.toList = [97, 101, 110, 112, 114, 116, 119, 122] := rfl
  have e2 : lettersS.cps.toList = [97, 98, 99, 100, 101, 102, 103, 104, 105, 106, 107, 108, 109, 110, 111, 112, 113, 114, 115, 116, 117, 118, 119, 120, 121, 122] := rfl
  have f : ∀ c : Nat, c ∈ [97, 101, 110, 112, 114, 116, 119, 122] → NameChar ⟨#[c]⟩ := fun c hc => by
    refine ⟨rfl, fun d hd => ?_⟩
    rw [show tl ⟨#[c]⟩ = [c] from rfl] at hd
    rw [List.mem_singleton.mp hd, e2]
    simp only [List.mem_cons, List.not_mem_nil, or_false] at hc ⊢
    omega
  rw [e]
  have hl : i < [97, 101, 110, 112, 114, 116, 119, 122].length := hi
  exact ⟨_, atI_nat (List.getElem?_eq_getElem hl), f _ (List.getElem_mem hl)⟩
section
variable {P : Program} {w : World} {K : PySem.W.Frag} {mg : Str → Option Value} {base : Heap}
def spLName (K : PySem.W.Frag) : Sp := fun vs H Q _ => ∃ (t sc : Addr) (ns : List Int) (b : Int), vs = [.ref t] ∧ Tray K H t sc ns b ∧ b ≤ 900000 ∧ ∀ (z : Str) (H' : Hp), NameOk z → Kt t H H' → Tray K H' t sc ns (b + 9) → Q (.str z) H'
theorem ok_lname {f : Addr} {fd : FuncData} {f_draw : Addr} {fd_draw : FuncData} (F : Fun K "_law_e_name" "_law_e_name" sLName f fd) (k_draw : PySem.W.keepIn K (.ref f_draw) = true) (b_draw : Binds K fd_draw ["tray", "many"] []) (g_draw : mg "_law_e_draw" = some (.ref f_draw)) (G_draw : FnOk P w K mg base CX0 2 f_draw fd_draw ["tray", "many"] (spDraw K)) (m_range : mg "range" = none) : FnOk P w K mg base CX0 3 f fd ["tray"] (spLName K) := by
  refine F.ok scLName (fun vs H Q E h => ?_) (fun cdv A outer s H vs Q E hr h => ?_)
  · obtain ⟨t, sc, ns, b, rfl, _⟩ := h
    rfl
  · obtain ⟨t, sc, ns, b, rfl, tp, hb, q⟩ := h
    have hu := hu_of hr
    refine ⟨_, (pss_one (ps_ret (pe_join pe_str (pe_lc (own := [("turn", 1)]) (g := (gName 1)) (tt := tYes) rfl scLName.nd (pi_range1 (by rfl) m_range (pa_cons (pe_op op_add pe_int (pe_call G_draw (hr.mono (by decide)) (by rfl) g_draw k_draw b_draw .nil pass0 (pa_cons (pv 0) (pa_cons pe_int pa_nil)))) pa_nil)) (blkOk_by (N := N_scLName) (sc := defScope sLName) (by decide +kernel)) (fun _ _ _ _ _ => (pg_name (i := 1) scLName.nd rfl (.inl rfl))) (fun _ _ _ _ _ => pts_nil) (fun _ _ _ _ _ => (pe_ix ix_str pe_str (pe_call G_draw (hr.mono (by decide)) (by rfl) g_draw k_draw b_draw .nil pass0 (pa_cons (pv 0) (pa_cons pe_int pa_nil))) (fun _ _ => rfl))))))), ?_⟩
    refine ⟨⟨_, rfl⟩, _, rfl, t, sc, 8, ns, b, rfl, tp, by omega, by decide, by decide, fun m H1 m0 m1 k1 tp1 => ?_⟩
    obtain ⟨mn, rfl⟩ := Int.eq_ofNat_of_zero_le m0
    have nt : ∀ {G : Hp}, Kt t H G → G t ≠ none := fun {G} k z => by
      obtain ⟨_, _, e, _⟩ := tp.v
      rw [k.dom _ z] at e; cases e
    refine ⟨1, (mn : Int), rfl, rfl, _, rfl, by omega, by omega, fun D nD => ?_⟩
    have k2 := k1.trans (K0.new nD (o := .lst [])).kt
    have hDt : D ≠ t := fun z => nt k1 (by rw [← z]; exact nD)
    refine lc_range (lo := 0) (n := 1 + mn) (fun j H' => Kt t H H' ∧ Tray K H' t sc ns (b + 1 + j) ∧ ∃ l : List Str, H' D = some (.lst (l.map V.str)) ∧ l.length = j ∧ ∀ y ∈ l, NameChar y)
      ⟨k2, (tp1.k0 (K0.new nD)).le (by omega), [], upd_same, rfl, fun y hy => (List.not_mem_nil hy).elim⟩ (fun j H' hj h => ?_) (fun H' h => ?_)
    · obtain ⟨k3, tp3, l, hD, hl, hc⟩ := h
      refine ⟨rfl, tyes ⟨_, rfl, t, sc, 8, ns, _, rfl, tp3, by omega, by decide, by decide, fun i H4 i0 i1 k4 tp4 => ?_⟩⟩
      obtain ⟨n, rfl⟩ := Int.eq_ofNat_of_zero_le i0
      obtain ⟨c, hc1, hc2⟩ := nameChars n (by omega)
      have hD4 : H4 D = some (.lst (l.map V.str)) := k4.oth _ _ hD hDt (fun _ z => by cases z)
      refine ⟨Str.ofString "aenprtwz", (n : Int), c, rfl, rfl, by decide, hc1, _, hD4, ?_, (k3.trans k4).mut (k1.dom _ nD), ?_, l ++ [⟨#[c]⟩], by rw [List.map_append]; exact upd_same, by rw [List.length_append, hl]; rfl, fun y hy => ?_⟩
      · rw [List.length_map, sizeLine_eq]; omega
      · exact (tp4.mut tp (k3.trans k4) (k1.dom _ nD)).le (by push_cast; omega)
      · rcases List.mem_append.mp hy with hy | hy
        · exact hc y hy
        · rw [List.mem_singleton.mp hy]; exact hc2
    · obtain ⟨k3, tp3, l, hD, hl, hc⟩ := h
      have hj := name_join hc
      refine ⟨_, D, l, rfl, rfl, .inl (.inl (.inl hD)), ?_, q _ H' ⟨?_, ?_, hj.2⟩ k3 (tp3.le (by omega))⟩
      · have := sum_le (ys := l) (c := 1) fun y hy => Nat.le_of_eq (hc y hy).1
        rw [show (Str.ofString "").length = 0 from rfl]
        omega
      · rw [hj.1]; omega
      · rw [hj.1]; omega
def spLStays (K : PySem.W.Frag) : Sp := fun vs H Q _ => ∃ (l : Addr) (as : List Addr) (rs : List (List Int)), vs = [.ref l] ∧ H l = some (.lst (as.map V.ref)) ∧ LstRows H as rs ∧ SmL rs ∧ ∀ H', K0 H H' → Q (.str (staysT rs)) H'
theorem ok_lstext {f : Addr} {fd : FuncData} (F : Fun K "_law_e_stays_text" "_law_e_stays_text" sLStays f fd) (m_str : mg "str" = none) : FnOk P w K mg base CX0 1 f fd ["stays"] (spLStays K) := by
  refine F.ok scLStays (fun vs H Q E h => ?_) (fun cdv A outer s H vs Q E hr h => ?_)
  · obtain ⟨l, as, rs, rfl, _⟩ := h
    rfl
  · obtain ⟨l, as, rs, rfl, hl, hR, hsm, q⟩ := h
    have hu := hu_of hr
    refine ⟨_, (pss_cons (ps_if (pt_cmpR (op_eqD hr.units) (pv 0) (pe_lst pa_nil) (nomark _)) (pss_one (ps_ret pe_str)) pss_nil)
      (pss_cons (ps_set (i := 1) scLStays.nd rfl (.inl rfl) (pe_lst pa_nil))
      (pss_cons (ps_for PassesOwn.never rfl (pi_list (pv 0)) (pg_name (i := 2) scLStays.nd rfl (.inl rfl))
      (pss_one (ps_expr (pe_bm PySem.F.plainAttrs_list PySem.F.slot_list_append PySem.F.type_list_append mt_append (pv 1) (pa_cons (pe_join pe_str (pe_lc (own := [("number", 3)]) (g := (gName 3)) (tt := tYes) rfl scLStays.nd (pi_list (pv 2)) (blkOk_by (N := N_scLStays) (sc := defScope sLStays) (by decide +kernel)) (fun _ _ _ _ _ => (pg_name (i := 3) scLStays.nd rfl (.inl rfl))) (fun _ _ _ _ _ => pts_nil) (fun _ _ _ _ _ => (pe_callTy call_str_int (by rfl) m_str (by decide +kernel) (pa_cons (pv 3) pa_nil))))) pa_nil)))))
      (pss_one (ps_ret (pe_join pe_str (pv 1))))))), ?_⟩
    obtain ⟨hv1, hv2⟩ := hsm
    have hasn : as.length = rs.length := hR.1
    refine ⟨_, rfl, few_szK (show 0 ≤ 1000 by decide), fun e ne => ?_⟩
    have k1 := K0.new ne (o := .lst [])
    have he : (upd H e (.lst [])) e = some (.lst []) := upd_same
    have hl1 := k1.oth _ _ hl (fun _ z => by cases z)
    have hR1 := hR.k0 k1
    generalize upd H e (.lst []) = G at k1 he hl1 hR1 ⊢
    refine ⟨rowsD rs, rowsD [], .lst (.inl (.inl hl1)) (rows_dp hR1), .lst (.inl (.inl he)) .nil, (rowsD_shp _).shaped, (rowsD_shp _).shaped, _, rfl, ?_⟩
    cases rs with
    | nil => exact iteT (q G k1)
    | cons r0 rt =>
      refine iteF ?_
      generalize hrs : r0 :: rt = rs at hl hR hv1 hv2 hasn hR1 q
      have hne : rs ≠ [] := fun z => by rw [z] at hrs; cases hrs
      refine ⟨few_szK (show 0 ≤ 1000 by decide), fun R nR => ?_⟩
      have k2 : K0 G (upd G R (.lst [])) := K0.new nR
      refine ⟨_, rfl, l, rfl, ⟨_, .inl (.inl (k2.oth _ _ hl1 (fun _ z => by cases z)))⟩, for_list (K := K) (a := l) (xs := as.map V.ref) (fun j σ' H' => ∃ y2 y3, σ' = [some (.ref l), some (.ref R), y2, y3] ∧ K0 G H' ∧ H' R = some (.lst (((rs.take j).map stayT).map V.str)))
        ⟨none, none, rfl, k2, by rw [List.take_zero]; exact upd_same⟩ (fun j σ' H' _ hh => ?_) (fun j y σ' H' hy hh => ?_) (fun σ' H' hh => ?_)⟩
      · obtain ⟨_, _, _, k, _⟩ := hh
        exact .inl (.inl (k.oth _ _ hl1 (fun _ z => by cases z)))
      · obtain ⟨y2, y3, rfl, k3, hD⟩ := hh
        have hj : j < as.length := by
          have := (List.getElem?_eq_some_iff.mp hy).1
          rw [List.length_map] at this
          exact this
        have hj2 : j < rs.length := by omega
        rw [List.getElem?_map, List.getElem?_eq_getElem hj] at hy
        cases hy
        have ha : G as[j] = some (.lst ((rs[j]).map V.int)) := hR1.2 j _ _ (List.getElem?_eq_getElem hj) (List.getElem?_eq_getElem hj2)
        have hm := hv2 _ (List.getElem_mem hj2)
        have ha2 : H' as[j] = some (.lst ((rs[j]).map V.int)) := k3.oth _ _ ha (fun _ z => by cases z)
        refine ⟨_, rfl, .inl ⟨rfl, _, .inl (.inl hD)⟩, ⟨_, rfl⟩, _, rfl, as[j], rfl, ⟨_, .inl (.inl ha2)⟩, fun D2 nD2 => ?_⟩
        have k4 : K0 H' (upd H' D2 (.lst [])) := K0.new nD2
        refine lc_list (K := K) (a := as[j]) (xs := (rs[j]).map V.int) (fun t H2 => K0 H' H2 ∧ H2 D2 = some (.lst ((((rs[j]).take t).map sOf).map V.str)))
          ⟨k4, by rw [List.take_zero]; exact upd_same⟩ (fun t H2 _ hh => .inl (.inl (hh.1.oth _ _ ha2 (fun _ z => by cases z)))) (fun t y H2 hy hh => ?_) (fun H2 hh => ?_)
        · obtain ⟨k5, hD2⟩ := hh
          have ht : t < (rs[j]).length := by
            have := (List.getElem?_eq_some_iff.mp hy).1
            rw [List.length_map] at this
            exact this
          rw [List.getElem?_map, List.getElem?_eq_getElem ht] at hy
          cases hy
          refine ⟨rfl, tyes ⟨_, rfl, _, rfl, (hm.2 _ (List.getElem_mem ht)).log, _, hD2, ?_, k5.mut nD2, ?_⟩⟩
          · rw [List.length_map, List.length_map, List.length_take, sizeLine_eq]; have := hm.1; omega
          · rw [List.take_add_one, List.getElem?_eq_getElem ht, List.map_append, List.map_append]; exact upd_same
        · obtain ⟨k5, hD2⟩ := hh
          rw [List.length_map, List.take_length] at hD2
          have hR5 : H2 R = _ := k5.oth R _ hD (fun _ z => by cases z)
          refine ⟨_, D2, (rs[j]).map sOf, rfl, rfl, .inl (.inl (.inl hD2)), nums_sum hm.1 hm.2 (by decide), R, _, _, rfl, rfl, hR5, ?_, _, _, rfl, (k3.trans k5).mut nR, ?_⟩
          · rw [List.length_map, List.length_map, List.length_take, sizeLine_eq]; omega
          · rw [List.take_add_one, List.getElem?_eq_getElem hj2, List.map_append, List.map_append]; exact upd_same
      · obtain ⟨y2, y3, rfl, k3, hD⟩ := hh
        rw [List.length_map, hasn, List.take_length] at hD
        refine ⟨⟨_, rfl⟩, _, rfl, _, R, rs.map stayT, rfl, rfl, .inl (.inl (.inl hD)), strs_sum (c := 500) (fun y hy => by obtain ⟨v, hv, rfl⟩ := List.mem_map.mp hy; exact stayT_len (hv2 v hv).1 (hv2 v hv).2) (by decide) (by rw [List.length_map]; omega) (by decide), ?_⟩
        have := q H' (k1.trans k3)
        rw [show staysT rs = Txt.join (Str.ofString " | ") (rs.map stayT) by unfold staysT; rw [if_neg hne]] at this
        exact this
def spLServed (K : PySem.W.Frag) : Sp := fun vs H Q _ => ∃ (d : Addr) (es : List (Int × Int)), vs = [.ref d] ∧ H d = some (.dK (es.map fun q => (.inl q.1, .int q.2))) ∧ es.length ≤ 8 ∧ (∀ q ∈ es, Sm q.1) ∧ ∀ ys H', ys.Perm (es.map (·.1)) → ys.Pairwise (· ≤ ·) → K0 H H' → Q (.str (servedT ys)) H'
theorem ok_lvtext {f : Addr} {fd : FuncData} (F : Fun K "_law_e_served_text" "_law_e_served_text" sLServed f fd) (m_str : mg "str" = none) (m_len : mg "len" = none) (m_sorted : mg "sorted" = none) : FnOk P w K mg base CX0 1 f fd ["served"] (spLServed K) := by
  refine F.ok scLServed (fun vs H Q E h => ?_) (fun cdv A outer s H vs Q E hr h => ?_)
  · obtain ⟨d, es, rfl, _⟩ := h
    rfl
  · obtain ⟨d, es, rfl, hd, h8, hsm, q⟩ := h
    have hu := hu_of hr
    refine ⟨_, (pss_cons (ps_if (pt_cmpR op_eq (pe_callB call_lenR (by rfl) m_len PySem.boot_len (pa_cons (pv 0) pa_nil)) pe_int (nomark _)) (pss_one (ps_ret pe_str)) pss_nil)
      (pss_one (ps_ret (pe_join pe_str (pe_lc (own := [("place", 1)]) (g := (gName 1)) (tt := tYes) rfl scLServed.nd (pi_list (pe_callB (call_sortedDI rfl) (by rfl) m_sorted boot_sorted (pa_cons (pv 0) pa_nil))) (blkOk_by (N := N_scLServed) (sc := defScope sLServed) (by decide +kernel)) (fun _ _ _ _ _ => (pg_name (i := 1) scLServed.nd rfl (.inl rfl))) (fun _ _ _ _ _ => pts_nil) (fun _ _ _ _ _ => (pe_callTy call_str_int (by rfl) m_str (by decide +kernel) (pa_cons (pv 1) pa_nil)))))))), ?_⟩
    have hlen : ((es.map fun q => ((.inl q.1 : Key), V.int q.2)).length) = es.length := List.length_map ..
    refine ⟨_, rfl, d, _, rfl, .inl hd, rfl, _, rfl, ?_⟩
    rw [hlen]
    by_cases he : es = []
    · subst he
      exact iteT (q [] H (List.Perm.refl _) List.Pairwise.nil (K0.refl _))
    · have hl0 : 0 < es.length := List.length_pos_iff.mpr he
      rw [decide_eq_false (show ¬ V.int (es.length : Int) = V.int 0 from fun z => by have := V.int.inj z; omega)]
      refine iteF ⟨⟨_, rfl⟩, _, rfl, d, _, es.map (·.1), rfl, .inl hd, by rw [List.map_map, List.map_map]; rfl, by rw [List.length_map]; omega, fun ys p hp hs np => ?_⟩
      have k1 := K0.new np (o := .lst (ys.map V.int))
      have hq1 : (upd H p (.lst (ys.map V.int))) p = some (.lst (ys.map V.int)) := upd_same
      generalize upd H p (.lst (ys.map V.int)) = G at k1 hq1 ⊢
      have yl : ys.length ≤ 8 := by rw [hp.length_eq, List.length_map]; exact h8
      have yne : ys ≠ [] := fun z => by
        have := hp.length_eq
        rw [z, List.length_map] at this
        simp at this
        omega
      have ysm : ∀ y ∈ ys, Sm y := fun y hy => by
        obtain ⟨q2, hq2, rfl⟩ := List.mem_map.mp (hp.mem_iff.mp hy)
        exact hsm q2 hq2
      refine ⟨p, rfl, ⟨_, .inl (.inl hq1)⟩, fun D nD => ?_⟩
      have k2 : K0 G (upd G D (.lst [])) := K0.new nD
      refine lc_list (K := K) (a := p) (xs := ys.map V.int) (fun t H2 => K0 G H2 ∧ H2 D = some (.lst (((ys.take t).map sOf).map V.str)))
        ⟨k2, by rw [List.take_zero]; exact upd_same⟩ (fun t H2 _ hh => .inl (.inl (hh.1.oth _ _ hq1 (fun _ z => by cases z)))) (fun t y H2 hy hh => ?_) (fun H2 hh => ?_)
      · obtain ⟨k5, hD2⟩ := hh
        have ht : t < ys.length := by
          have := (List.getElem?_eq_some_iff.mp hy).1
          rw [List.length_map] at this
          exact this
        rw [List.getElem?_map, List.getElem?_eq_getElem ht] at hy
        cases hy
        refine ⟨rfl, tyes ⟨_, rfl, _, rfl, (ysm _ (List.getElem_mem ht)).log, _, hD2, ?_, k5.mut nD, ?_⟩⟩
        · rw [List.length_map, List.length_map, List.length_take, sizeLine_eq]; omega
        · rw [List.take_add_one, List.getElem?_eq_getElem ht, List.map_append, List.map_append]; exact upd_same
      · obtain ⟨k5, hD2⟩ := hh
        rw [List.length_map, List.take_length] at hD2
        refine ⟨_, D, ys.map sOf, rfl, rfl, .inl (.inl (.inl hD2)), nums_sum (by omega) ysm (by decide), ?_⟩
        have := q ys H2 hp hs (k1.trans k5)
        rw [show servedT ys = Txt.join (Str.ofString " ") (ys.map sOf) by unfold servedT; rw [if_neg yne]] at this
        exact this
theorem row3 {w2 : Str} (w nm s : Str) (h : tl w2 = tl w ++ tl sp) : w2 ++ nm ++ Str.ofString " " ++ s = rowT w nm [s] := by
  refine ext_tl ?_
  unfold rowT
  rw [join_eq]
  show tl (w2 ++ nm ++ sp ++ s) = tl (w ++ sp ++ (nm ++ sp ++ s))
  simp only [tl_append, List.append_assoc, h]
theorem sz3 {a nm s : Str} (ha : a.length ≤ 8) (hn : nm.length ≤ 8) (hs : s.length ≤ 4) : a.length + nm.length ≤ sizeLine ∧ (a ++ nm).length + (Str.ofString " ").length ≤ sizeLine ∧ (a ++ nm ++ Str.ofString " ").length + s.length ≤ sizeLine := by
  simp only [app_len, show (Str.ofString " ").length = 1 from rfl, sizeLine_eq]
  omega
theorem row1Ok {w nm : Str} {i : Int} (hw : w ∈ hWords) (h1 : lenMin w = 1) (h2 : lenMax w = some 1) (hn : NameOk nm) (hi : Sm i) : RowOk w nm [sOf i] :=
  ⟨hw, hn, fun p hp => by rw [List.mem_singleton.mp hp]; exact ⟨.inl (isNum_sOf hi), Nat.le_trans (sOf_len hi) (by decide), sOf_free hi (.inl (by decide)), sOf_free hi (.inl (by decide))⟩, by rw [h1]; exact Int.le_refl _, fun m hm => by rw [h2] at hm; cases hm; exact Int.le_refl _, show 1 ≤ 8 by decide⟩
def spLAsks (K : PySem.W.Frag) (C CD Pa Pi Pw Py : Addr) : Sp := fun vs H Q _ => ∃ (k h x p d : Addr) (us : List (Option Int)) (r : Nat) (S : HS) (F F' : Addr → Prop) (nm : Str) (i : Nat), vs = [.ref k, .str nm, .ref d, .int (i : Int)] ∧ DeskAt H CD k h [(.inr nm, .ref x)] ∧ Hear K H C x p us (r : Int) true S F ∧ Law K H d us.length S F' ∧ NameOk nm ∧ i < us.length ∧ us.length ≤ 8 ∧ SmL (S.stays i) ∧ (S.served i).length ≤ 8 ∧ (∀ q ∈ S.served i, Sm q.1) ∧
  TabG H Pa ∧ TabG H Pi ∧ TabG H Pw ∧ TabG H Py ∧ ∀ H', K0 H H' → Q (.bl true) H'
theorem ok_lasks {f C CD Pa Pi Pw Py : Addr} {fd : FuncData} {f_lstext f_lvtext f_dsay : Addr} {fd_lstext fd_lvtext fd_dsay : FuncData} (F : Fun K "_law_e_asks_right" "_law_e_asks_right" sLAsks f fd) (hDk : DeskN K CD) (k_lstext : PySem.W.keepIn K (.ref f_lstext) = true) (b_lstext : Binds K fd_lstext ["stays"] []) (g_lstext : mg "_law_e_stays_text" = some (.ref f_lstext)) (G_lstext : FnOk P w K mg base CX0 1 f_lstext fd_lstext ["stays"] (spLStays K))
    (k_lvtext : PySem.W.keepIn K (.ref f_lvtext) = true) (b_lvtext : Binds K fd_lvtext ["served"] []) (g_lvtext : mg "_law_e_served_text" = some (.ref f_lvtext)) (G_lvtext : FnOk P w K mg base CX0 1 f_lvtext fd_lvtext ["served"] (spLServed K))
    (M_dsay : Meth K CD "say" f_dsay) (b_dsay : Binds K fd_dsay ["self", "row"] []) (G_dsay : FnOk P w K mg base CX0 9 f_dsay fd_dsay ["self", "row"] (spSay K C CD Pa Pi Pw Py)) (m_str : mg "str" = none) : FnOk P w K mg base CX0 10 f fd ["desk", "name", "state", "place"] (spLAsks K C CD Pa Pi Pw Py) := by
  refine F.ok scLAsks (fun vs H Q E h => ?_) (fun cdv A outer s H vs Q E hr h => ?_)
  · obtain ⟨k, h, x, p, d, us, r, S, F, F', nm, i, rfl, _⟩ := h
    rfl
  · obtain ⟨k, h, x, p, d, us, r, S, F, F', nm, i, rfl, hD, hH, hL, hn, hi, h8, hsm, hv8, hvs, ta, ti, tw, ty, q⟩ := h
    have hu := hu_of hr
    refine ⟨_, (pss_cons (ps_set (i := 4) scLAsks.nd rfl (.inl rfl) (pe_call G_lstext (hr.mono (by decide)) (by rfl) g_lstext k_lstext b_lstext .nil pass0 (pa_cons (pe_ix ix_list (pe_dget hu (pv 2) pe_str (fun _ _ => rfl)) (pv 3) (fun _ _ => rfl)) pa_nil)))
      (pss_cons (ps_if (pt_cmpR op_ne (pe_meth (pv 0) hDk.c M_dsay G_dsay (hr.mono (by decide)) b_dsay .nil pass0 (pa_cons (pe_op op_add_str (pe_op op_add_str (pe_op op_add_str pe_str (pv 1)) pe_str) (pe_callTy call_str_int (by rfl) m_str (by decide +kernel) (pa_cons (pv 3) pa_nil))) pa_nil)) (pv 4) (nomark _)) (pss_one (ps_ret pe_bl)) pss_nil)
      (pss_cons (ps_set (i := 4) scLAsks.nd rfl (.inl rfl) (pe_call G_lvtext (hr.mono (by decide)) (by rfl) g_lvtext k_lvtext b_lvtext .nil pass0 (pa_cons (pe_ix ix_list (pe_dget hu (pv 2) pe_str (fun _ _ => rfl)) (pv 3) (fun _ _ => rfl)) pa_nil)))
      (pss_one (ps_ret (pe_cmpR op_eq (pe_meth (pv 0) hDk.c M_dsay G_dsay (hr.mono (by decide)) b_dsay .nil pass0 (pa_cons (pe_op op_add_str (pe_op op_add_str (pe_op op_add_str pe_str (pv 1)) pe_str) (pe_callTy call_str_int (by rfl) m_str (by decide +kernel) (pa_cons (pv 3) pa_nil))) pa_nil)) (pv 4) (nomark _))))))), ?_⟩
    have hL' := hL
    obtain ⟨pu, ad', la', ca', lw, hF'⟩ := hL'
    have si : Sm (i : Int) := ⟨by omega, by omega⟩
    have ea : H (ad' (.sl i)) = some (.lst (((List.range (S.stays i).length).map fun j => ad' (.sy i j)).map V.ref)) := by
      rw [List.map_map]; exact lw.hn.nd (.sl i) hi
    refine ⟨_, rfl, d, _, rfl, lw.get gK6, _, rfl, ad' .t, _, (i : Int), .ref (ad' (.sl i)), rfl, rfl, .inl (.inl (lw.hn.nd .t trivial)), atI_nat (range_at _ hi), ad' (.sl i), _, S.stays i, rfl, ea, lw.hn.rows hi, hsm, fun H1 k1 => ?_⟩
    obtain ⟨dk, fs, hk1, hk2, hk3⟩ := (hD.k0 k1).ex
    have hst := row1Ok (w := Str.ofString "stays") (by simp [hWords]) rfl rfl hn si
    have hsv := row1Ok (w := Str.ofString "served") (by simp [hWords]) rfl rfl hn si
    have n8 := hn.2.1
    have s4 := sOf_len si
    obtain ⟨z1, z2, z3⟩ := sz3 (a := Str.ofString "stays ") (by decide) n8 s4
    obtain ⟨y1, y2, y3⟩ := sz3 (a := Str.ofString "served ") (by decide) n8 s4
    refine ⟨_, rfl, k, dk, fs, rfl, hk1, hk3, _, rfl, _, _, rfl, rfl, z1, _, _, rfl, rfl, z2, _, rfl, _, rfl, si.log, _, _, rfl, rfl, z3, ?_⟩
    refine ⟨k, h, Str.ofString "stays", nm, [sOf i], by rw [← row3 (w2 := Str.ofString "stays ") (Str.ofString "stays") nm (sOf i) (by rfl)]; rfl, hst, k1.tab _ ta, k1.tab _ ti, k1.tab _ tw, k1.tab _ ty, .inr ⟨x, p, us, r, S, F, [(i : Int)], hD.k0 k1, hH.k0 k1, rfl, fun y hy => by rw [List.mem_singleton.mp hy]; exact si, by decide +kernel, .inr (.inl ⟨i, rfl, rfl, hi, hsm, fun H2 k2 => ?_⟩)⟩⟩
    refine ⟨_, rfl, rfl, _, rfl, ?_⟩
    rw [decide_eq_true (show V.str (staysT (S.stays i)) = V.str (staysT (S.stays i)) from rfl)]
    refine iteF ?_
    have k12 := k1.trans k2
    have lw2 := lw.k0 k12
    refine ⟨_, rfl, d, _, rfl, lw2.get gK3, _, rfl, ad' .s, _, (i : Int), .ref (ad' (.sd i)), rfl, rfl, .inl (.inl (lw2.hn.nd .s trivial)), atI_nat (range_at _ hi), ad' (.sd i), S.served i, rfl, lw2.hn.nd (.sd i) hi, hv8, hvs, fun ys H3 hp hs k3 => ?_⟩
    have k13 := k12.trans k3
    obtain ⟨dk3, fs3, hk31, hk32, hk33⟩ := (hD.k0 k13).ex
    refine ⟨_, rfl, k, dk3, fs3, rfl, hk31, hk33, _, rfl, _, _, rfl, rfl, y1, _, _, rfl, rfl, y2, _, rfl, _, rfl, si.log, _, _, rfl, rfl, y3, ?_⟩
    refine ⟨k, h, Str.ofString "served", nm, [sOf i], by rw [← row3 (w2 := Str.ofString "served ") (Str.ofString "served") nm (sOf i) (by rfl)]; rfl, hsv, k13.tab _ ta, k13.tab _ ti, k13.tab _ tw, k13.tab _ ty, .inr ⟨x, p, us, r, S, F, [(i : Int)], hD.k0 k13, hH.k0 k13, rfl, fun y hy => by rw [List.mem_singleton.mp hy]; exact si, by decide +kernel, .inr (.inr ⟨i, rfl, rfl, hi, hv8, hvs, fun zs H4 hp4 hs4 k4 => ?_⟩)⟩⟩
    have e := perm_up_eq (hp4.trans hp.symm) hs4 hs
    subst e
    refine ⟨_, rfl, rfl, ?_⟩
    rw [decide_eq_true (show V.str (servedT zs) = V.str (servedT zs) from rfl)]
    exact q _ (k13.trans k4)
end
end HK

set_option Elab.async false
set_option linter.all false
set_option maxRecDepth 100000
set_option maxHeartbeats 4000000
namespace HK
open PySem PySem.Spec PyProof.Rows L2
/-! ### the numbers that stand in a hearing are no greater than the deeds are many -/
structure NumI (S : HS) (m : Int) : Prop where
  e0 : 0 ≤ S.emitted
  e1 : S.emitted ≤ m
  st : ∀ i, ∀ l ∈ S.stays i, ∀ x ∈ l, 0 ≤ x ∧ x ≤ m
  cp : ∀ i, ∀ q ∈ S.copies i, 0 ≤ q.1 ∧ q.1 ≤ m
theorem NumI.ini : NumI HS.ini 0 := ⟨Int.le_refl _, Int.le_refl _, fun i l h => (List.not_mem_nil h).elim, fun i q h => (List.not_mem_nil h).elim⟩
theorem NumI.mono {S : HS} {m m' : Int} (h : NumI S m) (hm : m ≤ m') : NumI S m' := ⟨h.e0, Int.le_trans h.e1 hm, fun i l hl x hx => ⟨(h.st i l hl x hx).1, Int.le_trans (h.st i l hl x hx).2 hm⟩, fun i q hq => ⟨(h.cp i q hq).1, Int.le_trans (h.cp i q hq).2 hm⟩⟩
theorem NumI.tell {S : HS} {m r : Int} {i : Nat} {b : Bool} (h : NumI S m) : NumI (tellS S r i b) m := by
  unfold tellS
  split
  · exact h
  · exact ⟨h.e0, h.e1, h.st, h.cp⟩
theorem NumI.come {S : HS} {m r : Int} {i : Nat} (h : NumI S m) : NumI (comeS S r i) m := by
  unfold comeS
  refine NumI.tell ⟨h.e0, h.e1, fun k l hl => ?_, h.cp⟩
  have hl2 : l ∈ fup S.stays i (S.stays i ++ [[]]) k := hl
  by_cases z : k = i
  · subst z
    rw [fup_same] at hl2
    rcases List.mem_append.mp hl2 with y | y
    · exact h.st k l y
    · rw [List.mem_singleton.mp y]; exact fun x hx => (List.not_mem_nil hx).elim
  · rw [fup_ne z] at hl2
    exact h.st k l hl2
theorem NumI.go {S : HS} {m r : Int} {i : Nat} (h : NumI S m) : NumI (goS S r i) m := by
  unfold goS
  exact NumI.tell ⟨h.e0, h.e1, h.st, h.cp⟩
theorem NumI.tlet {S : HS} {m r : Int} {i j : Nat} {b : Bool} {c : Int} {rest : List (Bool × Int)} (h : NumI S m) : NumI (tletS S r j i b c rest) m := by
  unfold tletS
  exact NumI.tell ⟨h.e0, h.e1, h.st, h.cp⟩
theorem NumI.hear {S : HS} {m num : Int} {i : Nat} (h : NumI S m) (h0 : 0 ≤ num) (h1 : num ≤ m) : NumI (hearNum S i num) m := by
  unfold hearNum
  split
  · refine ⟨h.e0, h.e1, fun k l hl => ?_, h.cp⟩
    have hl2 : l ∈ fup S.stays i ((S.stays i).dropLast ++ [((S.stays i).getLast?.getD []) ++ [num]]) k := hl
    by_cases z : k = i
    · subst z
      rw [fup_same] at hl2
      rcases List.mem_append.mp hl2 with y | y
      · exact h.st k l (List.dropLast_subset _ y)
      · rw [List.mem_singleton.mp y]
        intro x hx
        rcases List.mem_append.mp hx with hx | hx
        · cases e : (S.stays k).getLast? with
          | none => rw [e] at hx; exact (List.not_mem_nil hx).elim
          | some l0 =>
            rw [e] at hx
            exact h.st k l0 (List.mem_of_getLast? e) x hx
        · rw [List.mem_singleton.mp hx]; exact ⟨h0, h1⟩
    · rw [fup_ne z] at hl2
      exact h.st k l hl2
  · exact h
theorem NumI.copy {S : HS} {m num : Int} {q : Int × Int} (h : NumI S m) (h0 : 0 ≤ num) (h1 : num ≤ m) : NumI (copyTo num S q) m := by
  unfold copyTo
  refine ⟨h.e0, h.e1, h.st, fun k p hp => ?_⟩
  have hp2 : p ∈ fup S.copies q.1.toNat (S.copies q.1.toNat ++ [(num, q.2)]) k := hp
  by_cases z : k = q.1.toNat
  · rw [z, fup_same] at hp2
    rcases List.mem_append.mp hp2 with y | y
    · exact h.cp _ p y
    · rw [List.mem_singleton.mp y]; exact ⟨h0, h1⟩
  · rw [fup_ne z] at hp2
    exact h.cp k p hp2
theorem NumI.num {S : HS} {m num : Int} {i : Nat} (h : NumI S m) (h0 : 0 ≤ num) (h1 : num ≤ m) : NumI (takeNumS S i num) m := by
  unfold takeNumS
  have hh := h.hear (i := i) h0 h1
  generalize S.served i = l
  generalize hearNum S i num = T at hh
  induction l generalizing T with
  | nil => exact hh
  | cons q l ih => exact ih _ (hh.copy h0 h1)
theorem NumI.emit {S : HS} {m : Int} {i : Nat} (h : NumI S m) : NumI (emitS S i) (m + 1) := by
  unfold emitS
  have h1 := h.mono (m' := m + 1) (by omega)
  have e0 := h.e0
  have e1 := h.e1
  exact NumI.num ⟨by show 0 ≤ S.emitted + 1; omega, by show S.emitted + 1 ≤ m + 1; omega, h1.st, h1.cp⟩ e0 (by omega)
theorem NumI.got {S : HS} {m num c : Int} {i : Nat} {cnt : Bool} {rest : List (Int × Int)} (h : NumI S m) (hc : S.copies i = (num, c) :: rest) : NumI (gotS S cnt i num c rest) m := by
  have hn := h.cp i (num, c) (by rw [hc]; exact List.mem_cons_self ..)
  have h2 : NumI { S with copies := fup S.copies i rest } m := by
    refine ⟨h.e0, h.e1, h.st, fun k p hp => ?_⟩
    have hp2 : p ∈ fup S.copies i rest k := hp
    by_cases z : k = i
    · subst z
      rw [fup_same] at hp2
      exact h.cp k p (by rw [hc]; exact List.mem_cons_of_mem _ hp2)
    · rw [fup_ne z] at hp2
      exact h.cp k p hp2
  unfold gotS
  split
  · exact h2.num hn.1 hn.2
  · exact h2
theorem NumI.do {us : List (Option Int)} {r m : Int} {cnt : Bool} {S : HS} {e : Deed} (h : NumI S m) : NumI (doS us r cnt S e) (m + 1) := by
  have h1 := h.mono (m' := m + 1) (by omega)
  cases e with
  | emit => exact h.emit
  | pl d i =>
    cases d with
    | come => exact h1.come
    | go => exact h1.go
    | up =>
      show NumI (match S.letters i, us[i]? with
        | (b, c) :: rest, some (some j) => tletS S r j.toNat i b c rest
        | _, _ => S) _
      split
      · exact h1.tlet
      · exact h1
    | down =>
      show NumI (match S.copies i with
        | (n, c) :: rest => gotS S cnt i n c rest
        | _ => S) _
      split
      · next e => exact h1.got e
      · exact h1
theorem NumI.sm {us : List (Option Int)} {r k : Nat} {S : HS} {m : Int} (h : NumI S m) (hI : HInv us r S k) (hk : k ≤ 100) (hm : m ≤ 1000) (i : Nat) : SmL (S.stays i) :=
  ⟨Nat.le_trans (hI.sl i) hk, fun l hl => ⟨Nat.le_trans (hI.sn i l hl) hk, fun x hx => ⟨(h.st i l hl x hx).1, Int.le_trans (h.st i l hl x hx).2 hm⟩⟩⟩
end HK

set_option Elab.async false
set_option linter.all false
set_option maxRecDepth 100000
set_option maxHeartbeats 4000000
namespace HK
open PySem PySem.Spec PyProof.Rows L2 GAl GxR HkX
/-! ### a hearing and the law's state, made since H0 -/
structure One (K : PySem.W.Frag) (C : Addr) (H0 H : Hp) (t a : Addr) (ns : List Int) (p x d : Addr) (us : List (Option Int)) (r : Nat) (S : HS) (F F' : Addr → Prop) (b : Int) (m : Nat) : Prop where
  kt : Kt t H0 H
  tp : Tray K H t a ns b
  hH : Hear K H C x p us (r : Int) true S F
  hL : Law K H d us.length S F'
  nF : ∀ c, F c → H0 c = none
  nF' : ∀ c, F' c → H0 c = none
  dj : ∀ c, F c → ¬ F' c
  hv : HInv us r S m
section
variable {K : PySem.W.Frag} {C : Addr} {H0 H : Hp} {t a : Addr} {ns : List Int} {p x d : Addr} {us : List (Option Int)} {r : Nat} {S : HS} {F F' : Addr → Prop} {b : Int} {m : Nat}
theorem tray_nt {G : Addr → Prop} {b0 : Int} (h0 : Tray K H0 t a ns b0) (n : ∀ c, G c → H0 c = none) : ¬ G t := fun z => by
  obtain ⟨_, _, e0, _⟩ := h0.v
  rw [n t z] at e0; cases e0
theorem One.tray (h : One K C H0 H t a ns p x d us r S F F' b m) {b0 : Int} (h0 : Tray K H0 t a ns b0) {H' : Hp} (k : Kt t H H') {b' : Int} (tp : Tray K H' t a ns b') : One K C H0 H' t a ns p x d us r S F F' b' m :=
  ⟨h.kt.trans k, tp, h.hH.kt k (tray_nt h0 h.nF), h.hL.kt k (tray_nt h0 h.nF'), h.nF, h.nF', h.dj, h.hv⟩
theorem One.k0 (h : One K C H0 H t a ns p x d us r S F F' b m) {H' : Hp} (k : K0 H H') : One K C H0 H' t a ns p x d us r S F F' b m :=
  ⟨h.kt.trans k.kt, h.tp.k0 k, h.hH.k0 k, h.hL.k0 k, h.nF, h.nF', h.dj, h.hv⟩
theorem One.le (h : One K C H0 H t a ns p x d us r S F F' b m) {b' : Int} (l : b ≤ b') : One K C H0 H t a ns p x d us r S F F' b' m := { h with tp := h.tp.le l }
theorem One.step (h : One K C H0 H t a ns p x d us r S F F' b m) {b0 : Int} (h0 : Tray K H0 t a ns b0) {H1 H2 : Hp} {S1 : HS} {F1 F2 : Addr → Prop} {m' : Nat} (k1 : KF F H H1) (g1 : ∀ c, F1 c → F c ∨ H c = none) (hh : Hear K H1 C x p us (r : Int) true S1 F1)
    (k2 : KF F' H1 H2) (g2 : ∀ c, F2 c → F' c ∨ H1 c = none) (hl : Law K H2 d us.length S1 F2) (hv : HInv us r S1 m') : One K C H0 H2 t a ns p x d us r S1 F1 F2 b m' := by
  have kt1 := h.kt.kfn k1 h.nF
  have tp1 := h.tp.kfn h0 h.kt k1 h.nF
  have dj1 : ∀ c, F1 c → ¬ F' c := fun c hc z => (g1 c hc).elim (fun y => h.dj c y z) fun y => by
    obtain ⟨_, e⟩ := h.hL.some z
    rw [y] at e; cases e
  refine ⟨kt1.kfn k2 h.nF', tp1.kfn h0 kt1 k2 h.nF', hh.kf k2 dj1, hl, fun c hc => (g1 c hc).elim (h.nF c) (h.kt.dom c), fun c hc => (g2 c hc).elim (h.nF' c) (kt1.dom c), fun c hc z => (g2 c z).elim (dj1 c hc) fun y => ?_, hv⟩
  obtain ⟨_, e⟩ := hh.some hc
  rw [y] at e; cases e
/-- the hearing is made behind the law's state -/
theorem One.ini {H1 H5 : Hp} (tp : Tray K H0 t a ns b) (k4 : K0 H0 H) (hL : Law K H d us.length HS.ini F') (hF' : ∀ c, F' c → H0 c = none) (nx : H x = none) (kx : K0 H H1) (k5 : Kt x H1 H5) (hH : Hear K H5 C x p us (r : Int) true HS.ini F) (hF : ∀ c, F c → c = x ∨ H1 c = none) (hr : us[r]? = some none) :
    One K C H0 H5 t a ns p x d us r HS.ini F F' b 0 := by
  have k34 := k4.trans kx
  have nH3x : H0 x = none := k4.dom _ nx
  have nF : ∀ c, F c → H0 c = none := fun c hc => by
    rcases hF c hc with rfl | z
    · exact nH3x
    · exact k34.dom _ z
  have kt5 : Kt t H0 H5 := k34.kt.kfn (F := fun b => b = x) (k5.kf rfl) fun c z => by rw [z]; exact nH3x
  have tp5 := (tp.k0 k34).kfn tp k34.kt (k5.kf (F := fun b => b = x) rfl) fun c z => by rw [z]; exact nH3x
  have nFx : ¬ F' x := fun z => by
    obtain ⟨_, e⟩ := hL.some z
    rw [nx] at e; cases e
  have dj : ∀ c, F c → ¬ F' c := fun c hc z => by
    rcases hF c hc with rfl | y
    · exact nFx z
    · obtain ⟨_, e⟩ := (hL.k0 kx).some z
      rw [y] at e; cases e
  exact ⟨kt5, tp5, hH, (hL.k0 kx).kt k5 nFx, nF, hF', dj, HInv.ini hr⟩
end
end HK

set_option Elab.async false
set_option linter.all false
set_option maxRecDepth 100000
set_option maxHeartbeats 8000000
namespace HK
open PySem PySem.Spec PyProof.Rows L2 GAl GxR HkX
open Evl (pss_cut)
open TL (tl numL len_tl tl_num numL_len tl_append tl_join join_eq joinL ext_tl numL_free split_join int_num)
abbrev sLaw : Stmt := topS 90
abbrev N_scLaw : List Str := ["script", "tray", "k", "up", "name", "state", "desk", "words", "turn", "deed", "due", "row", "found", "place", "ahead"]
theorem scLaw : FnScope N_scLaw ["script"] (defScope sLaw) := ⟨rfl, rfl, rfl, by decide +kernel, rfl, by decide +kernel, by decide +kernel⟩
def rStrX : List V → Hp → VK → Prop := fun xs H Q => (∃ i, xs = [.int i] ∧ i.natAbs.log2 < 1920 ∧ Q (.str (Str.ofString (toString i))) H) ∨ (∃ a, xs = [.str a] ∧ Q (.str a) H) ∨ (xs = [.non] ∧ Q (.str (Str.ofString "None")) H)
def rIntB : List V → Hp → VK → Prop := fun xs H Q => (∃ i, xs = [.int i] ∧ Q (.int i) H) ∨ ∃ k, xs = [.bl k] ∧ Q (.int (if k then 1 else 0)) H
theorem wordO_ok {us : List (Option Int)} {nm : Str} (hW : Ways us) (hn : NameOk nm) : RowOk (Str.ofString "ways") nm (us.map wordO) := by
  have h8 := hW.n8
  refine ⟨by simp [hWords], hn, fun p hp => ?_, ?_, fun m hm => (by have : lenMax (Str.ofString "ways") = none := rfl; rw [this] at hm; cases hm), by rw [List.length_map]; exact h8⟩
  · obtain ⟨o, ho, rfl⟩ := List.mem_map.mp hp
    cases o with
    | none => exact ⟨.inr ⟨rfl, rfl⟩, by decide, by decide, by decide⟩
    | some v =>
      have h1 := hW.rng v ho
      have sv : Sm v := ⟨h1.1, by omega⟩
      exact ⟨.inl (isNum_sOf sv), Nat.le_trans (sOf_len sv) (by decide), sOf_free sv (.inl (by decide)), sOf_free sv (.inl (by decide))⟩
  · rw [List.length_map]
    have : lenMin (Str.ofString "ways") = 1 := rfl
    rw [this]
    obtain ⟨r, hr, _⟩ := hW.one
    have := (List.getElem?_eq_some_iff.mp hr).1
    omega
theorem rowN {w2 w nm : Str} {ps : List Str} (hp : ps ≠ []) (h : tl w2 = tl w ++ tl sp) : w2 ++ nm ++ Str.ofString " " ++ Txt.join (Str.ofString " ") ps = rowT w nm ps := by
  refine ext_tl ?_
  unfold rowT
  rw [join_eq, join_eq]
  cases ps with
  | nil => exact absurd rfl hp
  | cons a l =>
    show tl (w2 ++ nm ++ sp ++ Str.join sp (a :: l)) = tl (w ++ sp ++ (nm ++ sp ++ Str.join sp (a :: l)))
    simp only [tl_append, List.append_assoc, h]
theorem row0 (w nm : Str) : w ++ Str.ofString " " ++ nm = rowT w nm [] := by
  refine ext_tl ?_
  unfold rowT
  rw [join_eq]
  show tl (w ++ sp ++ nm) = tl (w ++ sp ++ nm)
  rfl
theorem row0Ok {nm : Str} (hn : NameOk nm) : RowOk (Str.ofString "emit") nm [] :=
  ⟨by simp [hWords], hn, fun p hp => (List.not_mem_nil hp).elim, Int.le_refl _, fun m hm => by rw [show lenMax (Str.ofString "emit") = some 0 from rfl] at hm; cases hm; exact Int.le_refl _, Nat.zero_le _⟩
def ew : Deed → Str
  | .emit => Str.ofString "emit"
  | .pl d _ => d.s
def enl : Deed → List Int
  | .emit => []
  | .pl _ i => [(i : Int)]
def dueW (S : HS) : Deed → V
  | .emit => .int S.emitted
  | .pl _ _ => .str okS
theorem due_str {S : HS} (h : Sm S.emitted) (e : Deed) {H : Hp} {Q : VK} (q : Q (.str (doT S e)) H) : (∃ i, [dueW S e] = [.int i] ∧ i.natAbs.log2 < 1920 ∧ Q (.str (Str.ofString (toString i))) H) ∨ (∃ a, [dueW S e] = [.str a] ∧ Q (.str a) H) ∨ ([dueW S e] = [.non] ∧ Q (.str (Str.ofString "None")) H) := by
  cases e with
  | emit => exact .inl ⟨_, rfl, h.log, q⟩
  | pl d i => exact .inr (.inl ⟨_, rfl, q⟩)
theorem evs_eq (e : Deed) : e.vs = .str (ew e) :: (enl e).map V.int := by cases e <;> rfl
theorem evs_0 (e : Deed) : e.vs[0]? = some (.str (ew e)) := by cases e <;> rfl
theorem ew_len (e : Deed) : (ew e).length ≤ 4 := by
  cases e with
  | emit => decide
  | pl d i => cases d <;> exact (show (DW.s _).length ≤ 4 by decide)
theorem ew_ne (e : Deed) : ew e ≠ Str.ofString "stays" ∧ ew e ≠ Str.ofString "served" ∧ ew e ≠ Str.ofString "ways" := by
  cases e with
  | emit => decide +kernel
  | pl d i =>
    show d.s ≠ _ ∧ d.s ≠ _ ∧ d.s ≠ _
    cases d <;> decide +kernel
theorem rowD_ok {us : List (Option Int)} {S : HS} {e : Deed} {nm : Str} (hW : Ways us) (hl : Legal us S e) (hn : NameOk nm) : RowOk (ew e) nm ((enl e).map sOf) ∧ ∀ x ∈ enl e, Sm x := by
  cases e with
  | emit => exact ⟨row0Ok hn, fun x hx => (List.not_mem_nil hx).elim⟩
  | pl d i =>
    have hi : i < us.length := by cases d <;> exact hl.1
    have h8 := hW.n8
    have si : Sm (i : Int) := ⟨by omega, by omega⟩
    refine ⟨?_, fun x hx => by rw [List.mem_singleton.mp hx]; exact si⟩
    cases d <;> exact row1Ok (by simp [hWords, ew, DW.s]) rfl rfl hn si
theorem HInv.svS {us : List (Option Int)} {r m : Nat} {S : HS} (h : HInv us r S m) (h8 : us.length ≤ 8) (i : Nat) : (S.served i).length ≤ 8 ∧ ∀ q ∈ S.served i, Sm q.1 := by
  refine ⟨Nat.le_trans (h.few8 i) h8, fun q hq => ?_⟩
  obtain ⟨k, e, hk, _⟩ := h.ks i q hq
  rw [e]
  exact ⟨by omega, by omega⟩
/-- a desk with its hearing, and the law's state -/
structure DOne (K : PySem.W.Frag) (C CD : Addr) (H0 H : Hp) (t a : Addr) (ns : List Int) (p x d k h : Addr) (nm : Str) (us : List (Option Int)) (r : Nat) (S : HS) (F F' : Addr → Prop) (b : Int) (m : Nat) : Prop where
  o : One K C H0 H t a ns p x d us r S F F' b m
  ds : DeskAt H CD k h [(.inr nm, .ref x)]
  n1 : ¬ F k
  n2 : ¬ F h
  n3 : ¬ F' k
  n4 : ¬ F' h
  n5 : k ≠ t
  n6 : h ≠ t
section
variable {K : PySem.W.Frag} {C CD : Addr} {H0 H : Hp} {t a : Addr} {ns : List Int} {p x d k h : Addr} {nm : Str} {us : List (Option Int)} {r : Nat} {S : HS} {F F' : Addr → Prop} {b : Int} {m : Nat}
theorem DOne.tray (z : DOne K C CD H0 H t a ns p x d k h nm us r S F F' b m) {b0 : Int} (h0 : Tray K H0 t a ns b0) {H' : Hp} (kt : Kt t H H') {b' : Int} (tp : Tray K H' t a ns b') : DOne K C CD H0 H' t a ns p x d k h nm us r S F F' b' m :=
  ⟨z.o.tray h0 kt tp, z.ds.kf (kt.kf (F := fun c => c = t) rfl) z.n5 z.n6, z.n1, z.n2, z.n3, z.n4, z.n5, z.n6⟩
theorem DOne.k0 (z : DOne K C CD H0 H t a ns p x d k h nm us r S F F' b m) {H' : Hp} (q : K0 H H') : DOne K C CD H0 H' t a ns p x d k h nm us r S F F' b m :=
  ⟨z.o.k0 q, z.ds.k0 q, z.n1, z.n2, z.n3, z.n4, z.n5, z.n6⟩
theorem DOne.le (z : DOne K C CD H0 H t a ns p x d k h nm us r S F F' b m) {b' : Int} (l : b ≤ b') : DOne K C CD H0 H t a ns p x d k h nm us r S F F' b' m := { z with o := z.o.le l }
/-- the law's state goes on, the hearing behind it -/
theorem DOne.step (z : DOne K C CD H0 H t a ns p x d k h nm us r S F F' b m) {b0 : Int} (h0 : Tray K H0 t a ns b0) {H1 H2 H3 : Hp} {S1 : HS} {F1 F2 : Addr → Prop} {m' : Nat} (k2 : KF F' H H1) (g2 : ∀ c, F2 c → F' c ∨ H c = none) (hl : Law K H1 d us.length S1 F2)
    (k0 : K0 H1 H2) (k1 : KF F H2 H3) (g1 : ∀ c, F1 c → F c ∨ H2 c = none) (hh : Hear K H3 C x p us (r : Int) true S1 F1) (hv : HInv us r S1 m') : DOne K C CD H0 H3 t a ns p x d k h nm us r S1 F1 F2 b m' := by
  have dj2 : ∀ c, F c → ¬ F2 c := fun c hc y => (g2 c y).elim (fun q => z.o.dj c hc q) fun q => by
    obtain ⟨_, e⟩ := z.o.hH.some hc
    rw [q] at e; cases e
  have k12 : KF F' H H2 := k2.trans (k0.kf (F := fun _ => False)) fun c hc => hc.elim
  have kt1 := z.o.kt.kfn k12 z.o.nF'
  have tp1 := z.o.tp.kfn h0 z.o.kt k12 z.o.nF'
  have dj1 : ∀ c, F1 c → ¬ F2 c := fun c hc y => (g1 c hc).elim (fun q => dj2 c q y) fun q => by
    obtain ⟨_, e⟩ := (hl.k0 k0).some y
    rw [q] at e; cases e
  have d1 := z.ds.kf k12 z.n3 z.n4
  have d2 := d1.kf k1 z.n1 z.n2
  have kS : H k ≠ none := fun e => by obtain ⟨_, _, e2, _⟩ := z.ds.ex; rw [e] at e2; cases e2
  have hS : H h ≠ none := fun e => by rw [z.ds.hh] at e; cases e
  have kS2 : H2 k ≠ none := fun e => kS (k12.dom _ e)
  have hS2 : H2 h ≠ none := fun e => hS (k12.dom _ e)
  refine ⟨⟨kt1.kfn k1 z.o.nF, tp1.kfn h0 kt1 k1 z.o.nF, hh, (hl.k0 k0).kf k1 fun c hc y => dj2 c y hc, fun c hc => (g1 c hc).elim (z.o.nF c) (kt1.dom c), fun c hc => (g2 c hc).elim (z.o.nF' c) (z.o.kt.dom c), dj1, hv⟩, d2, fun y => (g1 k y).elim z.n1 kS2, fun y => (g1 h y).elim z.n2 hS2, fun y => (g2 k y).elim z.n3 kS, fun y => (g2 h y).elim z.n4 hS, z.n5, z.n6⟩
end
section
variable {P : Program} {w : World} {K : PySem.W.Frag} {mg : Str → Option Value} {base : Heap}
def spLaw (K : PySem.W.Frag) (Pa Pi Pw Py : Addr) : Sp := fun vs H Q _ => ∃ (a : Addr) (ns : List Int), vs = [.ref a] ∧ SqL K H a (ns.map V.int) ∧ TabG H Pa ∧ TabG H Pi ∧ TabG H Pw ∧ TabG H Py ∧ ∀ H', Q (.bl true) H'
theorem ok_law {f C CD f_D Pa Pi Pw Py : Addr} {fd fd_DI : FuncData} {f_waysl f_lname f_kbegun f_draw f_kdeed f_kgoes f_lasks f_dsay : Addr} {fd_waysl fd_lname fd_kbegun fd_draw fd_kdeed fd_kgoes fd_lasks fd_dsay : FuncData} (F : Fun K "law" "law" sLaw f fd)
    (hDk : DeskN K CD) (g_D : mg "Desk" = some (.ref CD)) (M_D : L2.Mk K CD f_D) (b_DI : Binds K fd_DI ["self"] []) (G_DI : FnOk P w K mg base CX0 1 f_D fd_DI ["self"] (spDeskI CD))
    (k_waysl : PySem.W.keepIn K (.ref f_waysl) = true) (b_waysl : Binds K fd_waysl ["tray"] []) (g_waysl : mg "_law_e_ways" = some (.ref f_waysl)) (G_waysl : FnOk P w K mg base CX0 3 f_waysl fd_waysl ["tray"] (spWaysL K))
    (k_lname : PySem.W.keepIn K (.ref f_lname) = true) (b_lname : Binds K fd_lname ["tray"] []) (g_lname : mg "_law_e_name" = some (.ref f_lname)) (G_lname : FnOk P w K mg base CX0 3 f_lname fd_lname ["tray"] (spLName K))
    (k_kbegun : PySem.W.keepIn K (.ref f_kbegun) = true) (b_kbegun : Binds K fd_kbegun ["up"] []) (g_kbegun : mg "_law_e_begun" = some (.ref f_kbegun)) (G_kbegun : FnOk P w K mg base CX0 1 f_kbegun fd_kbegun ["up"] (spKBegun K))
    (k_draw : PySem.W.keepIn K (.ref f_draw) = true) (b_draw : Binds K fd_draw ["tray", "many"] []) (g_draw : mg "_law_e_draw" = some (.ref f_draw)) (G_draw : FnOk P w K mg base CX0 2 f_draw fd_draw ["tray", "many"] (spDraw K))
    (k_kdeed : PySem.W.keepIn K (.ref f_kdeed) = true) (b_kdeed : Binds K fd_kdeed ["tray", "up", "state"] []) (g_kdeed : mg "_law_e_deed" = some (.ref f_kdeed)) (G_kdeed : FnOk P w K mg base CX0 3 f_kdeed fd_kdeed ["tray", "up", "state"] (spKDeed K))
    (k_kgoes : PySem.W.keepIn K (.ref f_kgoes) = true) (b_kgoes : Binds K fd_kgoes ["up", "state", "deed"] []) (g_kgoes : mg "_law_e_goes" = some (.ref f_kgoes)) (G_kgoes : FnOk P w K mg base CX0 3 f_kgoes fd_kgoes ["up", "state", "deed"] (spKGoes K))
    (k_lasks : PySem.W.keepIn K (.ref f_lasks) = true) (b_lasks : Binds K fd_lasks ["desk", "name", "state", "place"] []) (g_lasks : mg "_law_e_asks_right" = some (.ref f_lasks)) (G_lasks : FnOk P w K mg base CX0 10 f_lasks fd_lasks ["desk", "name", "state", "place"] (spLAsks K C CD Pa Pi Pw Py))
    (M_dsay : Meth K CD "say" f_dsay) (b_dsay : Binds K fd_dsay ["self", "row"] []) (G_dsay : FnOk P w K mg base CX0 9 f_dsay fd_dsay ["self", "row"] (spSay K C CD Pa Pi Pw Py))
    (m_len : mg "len" = none) (m_range : mg "range" = none) (m_isinstance : mg "isinstance" = none) (m_str : mg "str" = none) (m_int : mg "int" = none) : FnOk P w K mg base CX0 11 f fd ["script"] (spLaw K Pa Pi Pw Py) := by
  refine F.ok scLaw (fun vs H Q E h => ?_) (fun cdv A outer s H vs Q E hr h => ?_)
  · obtain ⟨a, ns, rfl, _⟩ := h
    rfl
  · obtain ⟨a, ns, rfl, hS, ta, ti, tw, ty, q⟩ := h
    have hu := hu_of hr
    refine ⟨_, (pss_cons (ps_set (i := 1) scLaw.nd rfl (.inl rfl) (pe_lst (pa_cons (pv 0) (pa_cons pe_int (pa_cons pe_int pa_nil)))))
      (pss_cons (ps_for PassesOwn.never rfl (pi_range1 (by rfl) m_range (pa_cons pe_int pa_nil)) (pg_name (i := 2) scLaw.nd rfl (.inl rfl))
      (pss_cut (ps_if (PW.pt (pw_and (pt_cmpR op_gt (pv 2) pe_int (nomark _)) (pw_and1 (pt_cmpR op_ge (pe_ix ix_list (pv 1) pe_int (fun _ _ => rfl)) (pe_callB call_len_seq (by rfl) m_len PySem.boot_len (pa_cons (pv 0) pa_nil)) (nomark _))))) (pss_one ps_break) pss_nil)
      (pss_cons (ps_set (i := 3) scLaw.nd rfl (.inl rfl) (pe_call G_waysl (hr.mono (by decide)) (by rfl) g_waysl k_waysl b_waysl .nil pass0 (pa_cons (pv 1) pa_nil)))
      (pss_cons (ps_set (i := 4) scLaw.nd rfl (.inl rfl) (pe_call G_lname (hr.mono (by decide)) (by rfl) g_lname k_lname b_lname .nil pass0 (pa_cons (pv 1) pa_nil)))
      (pss_cons (ps_set (i := 5) scLaw.nd rfl (.inl rfl) (pe_call G_kbegun (hr.mono (by decide)) (by rfl) g_kbegun k_kbegun b_kbegun .nil pass0 (pa_cons (pv 3) pa_nil)))
      (pss_cons (ps_set (i := 6) scLaw.nd rfl (.inl rfl) (pe_make0 M_D G_DI (hr.mono (by decide)) (by rfl) g_D b_DI .nil pass0))
      (pss_cons (ps_setLc (i := 7) (own := [("ahead", 14)]) (g := (gName 14)) (tt := tYes) (te := (tOp (rIxL K) (tLst (tCons (tC (.str (Str.ofString "-"))) (tCons (tCB rStrX (tCons (tVar 14) tNil)) tNil))) (tCB rIntB (tCons (tNotN (tVar 14)) tNil)))) rfl scLaw.nd rfl rfl (sw_true rfl rfl rfl rfl) (pi_tup (pv 3)) (blkOk_by (N := N_scLaw) (sc := defScope sLaw) (by decide +kernel)) (fun _ _ _ _ _ => (pg_name (i := 14) scLaw.nd rfl (.inl rfl))) (fun _ _ _ _ _ => pts_nil) (fun _ _ _ _ _ => (pe_ix ix_list (pe_lst (pa_cons pe_str (pa_cons (pe_callTy call_strX (by rfl) m_str (by decide +kernel) (pa_cons (pv 14) pa_nil)) pa_nil))) (pe_callTy call_int1 (by rfl) m_int (by decide +kernel) (pa_cons (pe_cmp (pc_notN (pv 14))) pa_nil)) (fun _ _ => rfl))))
      (pss_cons (ps_if (pt_cmpR op_ne (pe_meth (pv 6) hDk.c M_dsay G_dsay (hr.mono (by decide)) b_dsay .nil pass0 (pa_cons (pe_op op_add_str (pe_op op_add_str (pe_op op_add_str pe_str (pv 4)) pe_str) (pe_join pe_str (pv 7))) pa_nil)) pe_str (nomark _)) (pss_one (ps_ret pe_bl)) pss_nil)
      (pss_cons (ps_for PassesOwn.never rfl (pi_range1 (by rfl) m_range (pa_cons (pe_op op_add pe_int (pe_call G_draw (hr.mono (by decide)) (by rfl) g_draw k_draw b_draw .nil pass0 (pa_cons (pv 1) (pa_cons pe_int pa_nil)))) pa_nil)) (pg_name (i := 8) scLaw.nd rfl (.inl rfl))
      (pss_cons (ps_set (i := 9) scLaw.nd rfl (.inl rfl) (pe_call G_kdeed (hr.mono (by decide)) (by rfl) g_kdeed k_kdeed b_kdeed .nil pass0 (pa_cons (pv 1) (pa_cons (pv 3) (pa_cons (pv 5) pa_nil)))))
      (pss_cons (ps_set (i := 10) scLaw.nd rfl (.inl rfl) (pe_call G_kgoes (hr.mono (by decide)) (by rfl) g_kgoes k_kgoes b_kgoes .nil pass0 (pa_cons (pv 3) (pa_cons (pv 5) (pa_cons (pv 9) pa_nil)))))
      (pss_cons (ps_set (i := 11) scLaw.nd rfl (.inl rfl) (pe_op op_add_str (pe_op op_add_str (pe_ix ix_tup (pv 9) pe_int (fun _ _ => rfl)) pe_str) (pv 4)))
      (pss_cut (ps_if (pt_cmpR op_ne (pe_ix ix_tup (pv 9) pe_int (fun _ _ => rfl)) pe_str (nomark _)) (pss_one (ps_set (i := 11) scLaw.nd rfl (.inl rfl) (pe_op op_add_str (pe_op op_add_str (pv 11) pe_str) (pe_callTy call_str_int (by rfl) m_str (by decide +kernel) (pa_cons (pe_ix ix_tup (pv 9) pe_int (fun _ _ => rfl)) pa_nil))))) pss_nil)
      (pss_cons (ps_set (i := 12) scLaw.nd rfl (.inl rfl) (pe_meth (pv 6) hDk.c M_dsay G_dsay (hr.mono (by decide)) b_dsay .nil pass0 (pa_cons (pv 11) pa_nil)))
      (pss_cut (ps_if (pt_cmp (pc_isN (pv 10))) (pss_one (ps_set (i := 10) scLaw.nd rfl (.inl rfl) pe_str)) pss_nil)
      (pss_cons (ps_if (PW.pt (pw_or (pt_not (pt_val (pe_callB call_isi (by rfl) m_isinstance boot_isinstance (pa_cons (pv 12) (pa_cons (pe_bltn (v := .ty "str") (by rfl) m_str (by decide +kernel) rfl) pa_nil))))) (pw_or1 (pt_cmpR op_ne (pv 12) (pe_callTy call_strX (by rfl) m_str (by decide +kernel) (pa_cons (pv 10) pa_nil)) (nomark _))))) (pss_one (ps_ret pe_bl)) pss_nil)
      (pss_one (ps_if (pt_not (pt_val (pe_call G_lasks (hr.mono (by decide)) (by rfl) g_lasks k_lasks b_lasks .nil pass0 (pa_cons (pv 6) (pa_cons (pv 4) (pa_cons (pv 5) (pa_cons (pe_call G_draw (hr.mono (by decide)) (by rfl) g_draw k_draw b_draw .nil pass0 (pa_cons (pv 1) (pa_cons (pe_callB call_len_seq (by rfl) m_len PySem.boot_len (pa_cons (pv 3) pa_nil)) pa_nil))) pa_nil))))))) (pss_one (ps_ret pe_bl)) pss_nil))))))))))
      (pss_one (ps_for PassesOwn.never rfl (pi_range1 (by rfl) m_range (pa_cons (pe_callB call_len_seq (by rfl) m_len PySem.boot_len (pa_cons (pv 3) pa_nil)) pa_nil)) (pg_name (i := 13) scLaw.nd rfl (.inl rfl))
      (pss_one (ps_if (pt_not (pt_val (pe_call G_lasks (hr.mono (by decide)) (by rfl) g_lasks k_lasks b_lasks .nil pass0 (pa_cons (pv 6) (pa_cons (pv 4) (pa_cons (pv 5) (pa_cons (pv 13) pa_nil))))))) (pss_one (ps_ret pe_bl)) pss_nil)))))))))))))
      (pss_one (ps_ret pe_bl)))), ?_⟩
    -- tray
    refine ⟨.ref a, rfl, few_szK (show 3 ≤ 1000 by decide), fun t hnt => ?_⟩
    have k1 : K0 H (upd H t (.lst [.ref a, .int 0, .int 0])) := K0.new hnt
    have htp : Tray K (upd H t (.lst [.ref a, .int 0, .int 0])) t a ns 0 := ⟨⟨0, 0, upd_same, by omega, by omega, by omega⟩, Scr.of hS hnt⟩
    generalize upd H t (.lst [.ref a, .int 0, .int 0]) = H1 at k1 htp ⊢
    have ta1 := k1.tab _ ta
    have ti1 := k1.tab _ ti
    have tw1 := k1.tab _ tw
    have ty1 := k1.tab _ ty
    refine ⟨3, rfl, by decide, by decide, for_range (lo := 0) (n := 3) (fun i σ' H' => ∃ y2 y3 y4 y5 y6 y7 y8 y9 y10 y11 y12 y13 y14, σ' = [some (.ref a), some (.ref t), y2, y3, y4, y5, y6, y7, y8, y9, y10, y11, y12, y13, y14] ∧ TabG H' Pa ∧ TabG H' Pi ∧ TabG H' Pw ∧ TabG H' Py ∧ Tray K H' t a ns (1000 * i))
      ⟨none, none, none, none, none, none, none, none, none, none, none, none, none, rfl, ta1, ti1, tw1, ty1, htp.le (by omega)⟩ (fun i σ' H' hi h => ?_) (fun σ' H' h => ?_)⟩
    · obtain ⟨y2, y3, y4, y5, y6, y7, y8, y9, y10, y11, y12, y13, y14, rfl, ta2, ti2, tw2, ty2, htp'⟩ := h
      refine ⟨fun σ' H2 => σ' = [some (.ref a), some (.ref t), some (.int (0 + (i : Int))), y3, y4, y5, y6, y7, y8, y9, y10, y11, y12, y13, y14] ∧ H2 = H', ?_, ?_⟩
      · refine ⟨_, rfl, _, 1, rfl, rfl, _, rfl, ite2 (fun e => ?_) (fun e => iteF ⟨rfl, rfl⟩)⟩
        have htp'' := htp'
        obtain ⟨⟨p, v, et, _⟩, hscr⟩ := htp'
        refine ⟨.ref t, rfl, t, _, 1, .int p, rfl, rfl, .inl (.inl et), atI_nat (j := 1) rfl, .ref a, rfl, a, _, rfl, .inl hscr.sq, p, _, rfl, rfl, _, rfl, ite2 (fun e2 => ?_) (fun e2 => ⟨rfl, rfl⟩)⟩
        exact q _
      rintro σ' H2 ⟨rfl, rfl⟩
      refine ⟨_, rfl, t, a, ns, _, rfl, htp', by omega, fun p us H3 k3 tp3 np hA hW => ?_⟩
      have w8 := hW.n8
      obtain ⟨r, hr0, hr1⟩ := hW.one
      have hrl : r < us.length := (List.getElem?_eq_some_iff.mp hr0).1
      -- the name, the state, the desk
      refine ⟨_, rfl, t, a, ns, _, rfl, tp3, by omega, fun nm H4 hnm k4 tp4 => ?_⟩
      have hA4 := hA.kt k4
      refine ⟨_, rfl, p, us, rfl, hA4.sq, w8, fun d F' H5 k5 hL hF' => ?_⟩
      have hl0 : (us.map oV).length = us.length := List.length_map ..
      refine fun k dk nk ndk hne => ?_
      have kx1 := K0.new ndk (o := .own k)
      have nx1 : (upd H5 dk (.own k)) k = none := (upd_ne hne.symm).trans nk
      have kx := kx1.trans (K0.new nx1 (o := .ins CD dk []))
      refine ⟨k, dk, rfl, upd_same, fun h H6 k6 nh6 D0 => ⟨rfl, ?_⟩⟩
      have nk4 : H4 k = none := k5.dom _ nk
      have nh5 : H5 h = none := kx.dom _ nh6
      have nh4 : H4 h = none := k5.dom _ nh5
      have kt6 : Kt t H4 H6 := (k5.trans kx).kt.kfn (F := fun b => b = k) (k6.kf rfl) fun c z => by rw [z]; exact nk4
      have tp6 : Tray K H6 t a ns _ := (tp4.k0 (k5.trans kx)).kfn tp4 (k5.trans kx).kt (k6.kf (F := fun b => b = k) rfl) fun c z => by rw [z]; exact nk4
      have nFk : ¬ F' k := fun z => by
        obtain ⟨_, e⟩ := hL.some z
        rw [nk] at e; cases e
      have nFh : ¬ F' h := fun z => by
        obtain ⟨_, e⟩ := hL.some z
        rw [nh5] at e; cases e
      have hL6 := (hL.k0 kx).kt k6 nFk
      have hA6 := hA4.kt kt6
      -- the words
      refine ⟨_, rfl, p, rfl, ⟨_, hA6.sq⟩, fun D nD => ?_⟩
      have kD : K0 H6 (upd H6 D (.lst [])) := K0.new nD
      refine lc_tup (K := K) (a := p) (xs := us.map oV) (fun j G => K0 H6 G ∧ G D = some (.lst (((us.take j).map wordO).map V.str)))
        ⟨kD, by rw [List.take_zero]; exact upd_same⟩ (fun j G _ hh => (hA6.k0 hh.1).sq) (fun j y G hy hh => ?_) (fun G hh => ?_)
      · obtain ⟨k7, hD⟩ := hh
        have hj : j < us.length := by
          have := (List.getElem?_eq_some_iff.mp hy).1
          rw [hl0] at this
          exact this
        rw [List.getElem?_map, List.getElem?_eq_getElem hj] at hy
        cases hy
        have hm := List.getElem_mem hj
        have fin : ∀ (v : Str) (G' : Hp), K0 G G' → v = wordO us[j] → ∃ acc, G' D = some (.lst acc) ∧ acc.length < sizeLine ∧ (K0 H6 (upd G' D (.lst (acc ++ [.str v]))) ∧ (upd G' D (.lst (acc ++ [.str v]))) D = some (.lst (((us.take (j + 1)).map wordO).map V.str))) := fun v G' kG hv => by
          refine ⟨_, kG.oth _ _ hD (fun _ z => by cases z), ?_, (k7.trans kG).mut nD, ?_⟩
          · rw [List.length_map, List.length_map, List.length_take, sizeLine_eq]; omega
          · rw [List.take_add_one, List.getElem?_eq_getElem hj, List.map_append, List.map_append, hv]; exact upd_same
        refine ⟨rfl, tyes ?_⟩
        have sv : ∀ v, us[j] = some v → Sm v := fun v hv => by
          rw [hv] at hm
          have := hW.rng v hm
          exact ⟨this.1, by omega⟩
        cases hv : us[j] with
        | none =>
          rw [hv] at fin
          refine ⟨_, rfl, .inr (.inr ⟨rfl, few_szK (show 2 ≤ 1000 by decide), fun q1 nq1 => ?_⟩)⟩
          exact ⟨_, rfl, .inr ⟨false, rfl, q1, _, 0, _, rfl, rfl, .inl (.inl upd_same), atI_nat (j := 0) rfl, fin _ _ (K0.new nq1) rfl⟩⟩
        | some v =>
          rw [hv] at fin
          refine ⟨_, rfl, .inl ⟨v, rfl, (sv v hv).log, few_szK (show 2 ≤ 1000 by decide), fun q1 nq1 => ?_⟩⟩
          exact ⟨_, rfl, .inr ⟨true, rfl, q1, _, 1, _, rfl, rfl, .inl (.inl upd_same), atI_nat (j := 1) rfl, fin _ _ (K0.new nq1) rfl⟩⟩
      · obtain ⟨k7, hD⟩ := hh
        rw [hl0, List.take_of_length_le (Nat.le_refl _)] at hD
        have k67 := (k6.trans k7.kt)
        have D7 := D0.k0 k7
        obtain ⟨dk7, fs7, hk7, _, hs7⟩ := D7.ex
        have n8 := hnm.2.1
        have hro := wordO_ok hW hnm
        have une : us.map wordO ≠ [] := fun z => by
          have := congrArg List.length z
          rw [List.length_map, List.length_nil] at this
          omega
        have hsum : ((us.map wordO).map (·.length)).sum + (us.map wordO).length * (Str.ofString " ").length ≤ 16777216 := strs_sum (c := 6) (fun y hy => (hro.pp y hy).2.1) (by decide) (by rw [List.length_map]; omega) (by decide)
        have hz1 : (Str.ofString "ways ").length + nm.length ≤ sizeLine := by rw [show (Str.ofString "ways ").length = 5 from rfl, sizeLine_eq]; omega
        have hz2 : (Str.ofString "ways " ++ nm).length + (Str.ofString " ").length ≤ sizeLine := by rw [app_len, show (Str.ofString "ways ").length = 5 from rfl, show (Str.ofString " ").length = 1 from rfl, sizeLine_eq]; omega
        have hz3 : (Str.ofString "ways " ++ nm ++ Str.ofString " ").length + (Txt.join (Str.ofString " ") (us.map wordO)).length ≤ sizeLine := by
          have := joinc_len (c := 6) (a := Str.ofString " ") rfl (l := us.map wordO) fun y hy => (hro.pp y hy).2.1
          rw [List.length_map] at this
          rw [app_len, app_len, show (Str.ofString "ways ").length = 5 from rfl, show (Str.ofString " ").length = 1 from rfl, sizeLine_eq]; omega
        refine ⟨_, rfl, k, dk7, fs7, rfl, hk7, hs7, _, rfl, _, _, rfl, rfl, hz1, _, _, rfl, rfl, hz2, ⟨_, rfl⟩, _, rfl, _, D, us.map wordO, rfl, rfl, .inl (.inl (.inl hD)), hsum, _, _, rfl, rfl, hz3, ?_⟩
        have kt7 : Kt t H4 G := kt6.trans k7.kt
        have kt27 := (k3.trans k4).trans kt7
        refine ⟨k, h, Str.ofString "ways", nm, us.map wordO, by rw [← rowN (w2 := Str.ofString "ways ") une (by rfl)]; rfl, hro, kt27.tab _ ta2, kt27.tab _ ti2, kt27.tab _ tw2, kt27.tab _ ty2, .inl ⟨us, r, rfl, D7, rfl, hW, hr0, fun x px F G8 k8 D8 hH hF => ?_⟩⟩
        refine ⟨rfl, _, rfl, ?_⟩
        rw [decide_eq_true (show V.str okS = V.str (Str.ofString "ok") from rfl)]
        refine iteF ?_
        have e8 : ∀ c, (fun c => c = h) c → H4 c = none := fun c z => by rw [show c = h from z]; exact nh4
        have kt8 : Kt t H4 G8 := kt7.kfn k8 e8
        have tp8 := (tp6.k0 k7).kfn tp4 kt7 k8 e8
        have hL7 := hL6.k0 k7
        have T0 : DOne K C CD H4 G8 t a ns px x d k h nm us r HS.ini F F' (1000 * i + 109) 0 :=
          ⟨⟨kt8, tp8, hH, hL7.kf k8 (fun b hb z => nFh (by rw [← show b = h from z]; exact hb)), fun c hc => kt7.dom _ (hF c hc), hF', (fun c hc z => by
            obtain ⟨_, e⟩ := hL7.some z
            rw [hF c hc] at e; cases e), HInv.ini hr0⟩, D8, (fun z => by
            rw [hF k z] at hk7; cases hk7), (fun z => by
            have e := D7.hh
            rw [hF h z] at e; cases e), nFk, nFh, tp4.ne nk4, tp4.ne nh4⟩
        -- the deeds
        refine ⟨_, rfl, t, a, 26, ns, _, rfl, T0.o.tp, by omega, by decide, by decide, fun dr H9 d0 d1 k9 tp9 => ?_⟩
        obtain ⟨dn, rfl⟩ := Int.eq_ofNat_of_zero_le d0
        have T1 := T0.tray tp4 k9 tp9
        have kA := k3.trans k4
        refine ⟨15, (dn : Int), rfl, rfl, _, rfl, by omega, by omega, for_range (lo := 0) (n := 15 + dn) (fun j σ' G => ∃ y8 y9 y10 y11 y12 S F F', σ' = [some (.ref a), some (.ref t), some (.int (0 + (i : Int))), some (.ref p), some (.str nm), some (.ref d), some (.ref k), some (.ref D), y8, y9, y10, y11, y12, y13, y14] ∧ DOne K C CD H4 G t a ns px x d k h nm us r S F F' (1000 * i + 200 + 5 * j) (2 * j) ∧ NumI S j)
          ⟨y8, y9, y10, y11, y12, HS.ini, F, F', rfl, T1.le (by omega), NumI.ini⟩ (fun j σ' G hj hh => ?_) (fun σ' G hh => ?_)⟩
        · obtain ⟨y8, y9, y10, y11, y12, S, F, F', rfl, T, hn⟩ := hh
          have ktG := T.o.kt
          refine ⟨_, rfl, _, rfl, _, rfl, t, a, p, d, ns, _, us, S, F', rfl, T.o.tp, by omega, (hA4.kt ktG).sq, by omega, w8, T.o.hL, tray_nt tp4 T.o.nF', fun ea e G1 k1' tp1 hea hlg => ?_⟩
          have T2 := T.tray tp4 k1' tp1
          obtain ⟨hcan, hv2⟩ := T2.o.hv.can (cnt := true) hW (by omega) hlg
          refine ⟨_, rfl, _, rfl, _, rfl, p, d, ea, us, r, S, F', 2 * j, e, rfl, hA4.kt T2.o.kt, hW, T2.o.hL, hea, T2.o.hv, by omega, hlg, fun F2 G2 k2 g2 hL2 => ?_⟩
          have hea2 := k2.sqT hea
          have hsz : Sm S.emitted := ⟨hn.e0, by have := hn.e1; omega⟩
          have n4 := ew_len e
          obtain ⟨hro2, hsn⟩ := rowD_ok hW hlg hnm
          have hz1 : (ew e).length + (Str.ofString " ").length ≤ sizeLine := by rw [show (Str.ofString " ").length = 1 from rfl, sizeLine_eq]; omega
          have hz2 : (ew e ++ Str.ofString " ").length + nm.length ≤ sizeLine := by rw [app_len, show (Str.ofString " ").length = 1 from rfl, sizeLine_eq]; omega
          refine ⟨_, rfl, ea, _, 0, _, rfl, rfl, hea2, atI_nat (j := 0) (evs_0 e), _, _, rfl, rfl, hz1, _, rfl, _, _, rfl, rfl, hz2, ?_⟩
          refine ⟨fun σ' G' => σ' = [some (.ref a), some (.ref t), some (.int (0 + (i : Int))), some (.ref p), some (.str nm), some (.ref d), some (.ref k), some (.ref D), some (.int (0 + (j : Int))), some (.ref ea), some (doV S e), some (.str (rowT (ew e) nm ((enl e).map sOf))), y12, y13, y14] ∧ G' = G2, ?_, ?_⟩
          · refine ⟨_, rfl, ea, _, 0, _, rfl, rfl, hea2, atI_nat (j := 0) (evs_0 e), rfl, ?_⟩
            cases e with
            | emit =>
              refine ⟨false, congrArg V.bl (by decide +kernel), iteF ⟨?_, rfl⟩⟩
              rw [show rowT (ew Deed.emit) nm ((enl Deed.emit).map sOf) = ew Deed.emit ++ Str.ofString " " ++ nm from (row0 (Str.ofString "emit") nm).symm]; rfl
            | pl dw q =>
              refine ⟨true, congrArg V.bl (show (!decide (V.str dw.s = V.str (Str.ofString "emit"))) = true by cases dw <;> decide +kernel), iteT ?_⟩
              have sq := hsn _ (List.mem_singleton.mpr rfl)
              have hz3 : (ew (.pl dw q) ++ Str.ofString " " ++ nm).length + (Str.ofString " ").length ≤ sizeLine := by have := hnm.2.1; rw [app_len, app_len, show (Str.ofString " ").length = 1 from rfl, sizeLine_eq]; omega
              have hz4 : (ew (.pl dw q) ++ Str.ofString " " ++ nm ++ Str.ofString " ").length + (sOf (q : Int)).length ≤ sizeLine := by have := hnm.2.1; have := sOf_len sq; rw [app_len, app_len, app_len, show (Str.ofString " ").length = 1 from rfl, sizeLine_eq]; omega
              refine ⟨_, rfl, _, _, rfl, rfl, hz3, _, rfl, ea, _, 1, _, rfl, rfl, hea2, atI_nat (j := 1) rfl, _, rfl, sq.log, _, _, rfl, rfl, hz4, ?_, rfl⟩
              rw [show rowT (ew (.pl dw q)) nm ((enl (.pl dw q)).map sOf) = ew (.pl dw q) ++ Str.ofString " " ++ nm ++ Str.ofString " " ++ sOf (q : Int) from (row3 (w2 := ew (.pl dw q) ++ Str.ofString " ") (ew (.pl dw q)) nm (sOf (q : Int)) (tl_append ..)).symm]; rfl
          rintro σ' G' ⟨rfl, rfl⟩
          have hD2 := T2.ds.kf k2 T2.n3 T2.n4
          have hH2 := T2.o.hH.kf k2 T2.o.dj
          obtain ⟨dk2, fs2, hk2, _, hs2⟩ := hD2.ex
          have kt2 := kA.trans (T2.o.kt.kfn k2 T2.o.nF')
          obtain ⟨en1, en2, en3⟩ := ew_ne e
          refine ⟨_, rfl, k, dk2, fs2, rfl, hk2, hs2, _, rfl, ?_⟩
          refine ⟨k, h, ew e, nm, (enl e).map sOf, rfl, hro2, kt2.tab _ ta2, kt2.tab _ ti2, kt2.tab _ tw2, kt2.tab _ ty2, .inr ⟨x, px, us, r, S, F, enl e, hD2, hH2, rfl, hsn, en3, .inl ⟨e, evs_eq e, en1, en2, hcan, hsz, fun F1 G3 k3' g3 hH3 => ?_⟩⟩⟩
          have T3 := T2.step tp4 k2 g2 hL2 (K0.refl _) k3' g3 hH3 hv2
          refine ⟨fun σ' G' => σ' = [some (.ref a), some (.ref t), some (.int (0 + (i : Int))), some (.ref p), some (.str nm), some (.ref d), some (.ref k), some (.ref D), some (.int (0 + (j : Int))), some (.ref ea), some (dueW S e), some (.str (rowT (ew e) nm ((enl e).map sOf))), some (.str (doT S e)), y13, y14] ∧ G' = G3, ?_, ?_⟩
          · cases e with
            | emit => exact ⟨_, rfl, false, rfl, iteF ⟨rfl, rfl⟩⟩
            | pl dw q => exact ⟨_, rfl, true, rfl, iteT ⟨rfl, rfl⟩⟩
          rintro σ' G' ⟨rfl, rfl⟩
          refine ⟨_, rfl, .str (doT S e), .ty "str", .type "str", _, true, rfl, .ty "str", .base (.str _), kit_ty rfl, _, rfl, iteF ?_⟩
          have kt3 := kA.trans T3.o.kt
          have hv3 := T3.o.hv
          have hn3 : NumI (doS us (r : Int) true S e) ((j + 1 : Nat) : Int) := by
            have := hn.do (us := us) (r := (r : Int)) (cnt := true) (e := e)
            rw [show ((j + 1 : Nat) : Int) = (j : Int) + 1 by omega]; exact this
          refine ⟨_, rfl, _, rfl, ?_⟩
          dsimp only [tNil]
          refine due_str (Q := fun y H2 => rNe (V.str (doT S e)) y H2 _) hsz e ?_
          refine ⟨rfl, false, congrArg V.bl (show (!decide (V.str (doT S e) = V.str (doT S e))) = false by simp), iteF ?_⟩
          refine ⟨_, rfl, _, rfl, _, rfl, _, rfl, _, rfl, p, _, rfl, .inr (hA4.kt T3.o.kt).sq, ?_⟩
          rw [hl0]
          refine ⟨t, a, _, ns, _, rfl, T3.o.tp, by omega, by omega, by omega, fun pl G4 p0 p1 k4' tp4' => ?_⟩
          obtain ⟨pn, rfl⟩ := Int.eq_ofNat_of_zero_le p0
          have T4 := T3.tray tp4 k4' tp4'
          have kt4 := kA.trans T4.o.kt
          obtain ⟨v8, vs⟩ := T4.o.hv.svS w8 pn
          refine ⟨k, h, x, px, d, us, r, _, F1, F2, nm, pn, rfl, T4.ds, T4.o.hH, T4.o.hL, hnm, by omega, w8, hn3.sm T4.o.hv (by omega) (by omega) pn, v8, vs, kt4.tab _ ta2, kt4.tab _ ti2, kt4.tab _ tw2, kt4.tab _ ty2, fun G5 k5' => ⟨true, rfl, iteF ?_⟩⟩
          refine ⟨_, _, _, _, _, _, F1, F2, rfl, (T4.k0 k5').le (by omega), hn3⟩
        · obtain ⟨y8, y9, y10, y11, y12, S, F, F', rfl, T, hn⟩ := hh
          refine ⟨_, rfl, p, _, rfl, .inr (hA4.kt T.o.kt).sq, ?_⟩
          rw [hl0]
          refine ⟨_, rfl, by omega, by omega, for_range (lo := 0) (n := us.length) (fun j σ' G' => ∃ y13, σ' = [some (.ref a), some (.ref t), some (.int (0 + (i : Int))), some (.ref p), some (.str nm), some (.ref d), some (.ref k), some (.ref D), y8, y9, y10, y11, y12, y13, y14] ∧ K0 G G')
            ⟨y13, rfl, K0.refl _⟩ (fun j σ' G' hj hh => ?_) (fun σ' G' hh => ?_)⟩
          · obtain ⟨y13, rfl, kk⟩ := hh
            have T4 := T.k0 kk
            have kt4 := kA.trans T4.o.kt
            obtain ⟨v8, vs⟩ := T4.o.hv.svS w8 j
            rw [Int.zero_add]
            refine ⟨_, rfl, _, rfl, _, rfl, _, rfl, k, h, x, px, d, us, r, S, F, F', nm, j, rfl, T4.ds, T4.o.hH, T4.o.hL, hnm, hj, w8, hn.sm T4.o.hv (by omega) (by omega) j, v8, vs, kt4.tab _ ta2, kt4.tab _ ti2, kt4.tab _ tw2, kt4.tab _ ty2, fun G5 k5' => ⟨true, rfl, iteF ⟨_, rfl, kk.trans k5'⟩⟩⟩
          · obtain ⟨y13, rfl, kk⟩ := hh
            have T4 := T.k0 kk
            have kt4 := kA.trans T4.o.kt
            exact ⟨_, _, _, _, _, _, _, _, _, _, _, _, _, rfl, kt4.tab _ ta2, kt4.tab _ ti2, kt4.tab _ tw2, kt4.tab _ ty2, T4.o.tp.le (by omega)⟩
    · exact q _
end
end HK

set_option Elab.async false
set_option linter.all false
set_option maxRecDepth 100000
set_option maxHeartbeats 0
namespace HK
open PySem PySem.Spec PyProof.Rows L2 GAl GxR
theorem at_law {w : World} {h : Heap} {K : PySem.W.Frag} {mg : Str → Option Value} {fa : Addr} (X : K.In h) (G : h.Ns mainGlobals mg) (hfa : mg "law" = some (.ref fa)) (c : He.SaysX faX fnX tsX tfX exX w h K) : LamX.LawAtS PySem.Challenge.rw_hearkenway_k59_desk_of_hearings w K CX0 11 63 "script" mg fa h := by
  have cd := c.t.d
  obtain ⟨fd1, D1⟩ := cd.def_ 0 (d := dm "Desk" "__init__" "Desk.__init__" sDeskI) rfl
  have F1 := fun_of (st := sDeskI) D1
  have b1 := F1.binds (ps := ["self"]) fun _ _ _ _ _ _ us hl => match us, hl with | [_], _ => rfl
  have k1 := F1.kp
  obtain ⟨fd2, D2⟩ := cd.def_ 1 (d := dd "_law_e_blend" sBlend) rfl
  have F2 := fun_of (st := sBlend) D2
  have b2 := F2.binds (ps := ["cell", "place"]) fun _ _ _ _ _ _ us hl => match us, hl with | [_, _], _ => rfl
  have k2 := F2.kp
  have g2 := He.glo_ok X G (cd.fact 0 (f := .glo "_law_e_blend") rfl)
  obtain ⟨fd3, D3⟩ := cd.def_ 2 (d := dd "_law_e_draw" sDraw) rfl
  have F3 := fun_of (st := sDraw) D3
  have b3 := F3.binds (ps := ["tray", "many"]) fun _ _ _ _ _ _ us hl => match us, hl with | [_, _], _ => rfl
  have k3 := F3.kp
  have g3 := He.glo_ok X G (cd.fact 1 (f := .glo "_law_e_draw") rfl)
  obtain ⟨fd4, D4⟩ := cd.def_ 3 (d := dd "_law_e_ways" sWaysL) rfl
  have F4 := fun_of (st := sWaysL) D4
  have b4 := F4.binds (ps := ["tray"]) fun _ _ _ _ _ _ us hl => match us, hl with | [_], _ => rfl
  have k4 := F4.kp
  have g4 := He.glo_ok X G (cd.fact 2 (f := .glo "_law_e_ways") rfl)
  obtain ⟨fd5, D5⟩ := cd.def_ 4 (d := dd "_law_e_name" sLName) rfl
  have F5 := fun_of (st := sLName) D5
  have b5 := F5.binds (ps := ["tray"]) fun _ _ _ _ _ _ us hl => match us, hl with | [_], _ => rfl
  have k5 := F5.kp
  have g5 := He.glo_ok X G (cd.fact 3 (f := .glo "_law_e_name") rfl)
  obtain ⟨fd6, D6⟩ := cd.def_ 5 (d := dd "_law_e_begun" sKBegun) rfl
  have F6 := fun_of (st := sKBegun) D6
  have b6 := F6.binds (ps := ["up"]) fun _ _ _ _ _ _ us hl => match us, hl with | [_], _ => rfl
  have k6 := F6.kp
  have g6 := He.glo_ok X G (cd.fact 4 (f := .glo "_law_e_begun") rfl)
  obtain ⟨fd7, D7⟩ := cd.def_ 6 (d := dd "_law_e_deed" sKDeed) rfl
  have F7 := fun_of (st := sKDeed) D7
  have b7 := F7.binds (ps := ["tray", "up", "state"]) fun _ _ _ _ _ _ us hl => match us, hl with | [_, _, _], _ => rfl
  have k7 := F7.kp
  have g7 := He.glo_ok X G (cd.fact 5 (f := .glo "_law_e_deed") rfl)
  obtain ⟨fd8, D8⟩ := cd.def_ 7 (d := dd "_law_e_wants" sKWants) rfl
  have F8 := fun_of (st := sKWants) D8
  have b8 := F8.binds (ps := ["state", "place"]) fun _ _ _ _ _ _ us hl => match us, hl with | [_, _], _ => rfl
  have k8 := F8.kp
  have g8 := He.glo_ok X G (cd.fact 6 (f := .glo "_law_e_wants") rfl)
  obtain ⟨fd9, D9⟩ := cd.def_ 8 (d := dd "_law_e_tells" sKTells) rfl
  have F9 := fun_of (st := sKTells) D9
  have b9 := F9.binds (ps := ["up", "state", "place", "was"]) fun _ _ _ _ _ _ us hl => match us, hl with | [_, _, _, _], _ => rfl
  have k9 := F9.kp
  have g9 := He.glo_ok X G (cd.fact 7 (f := .glo "_law_e_tells") rfl)
  obtain ⟨fd10, D10⟩ := cd.def_ 9 (d := dd "_law_e_takes" sKTakes) rfl
  have F10 := fun_of (st := sKTakes) D10
  have b10 := F10.binds (ps := ["state", "place", "number"]) fun _ _ _ _ _ _ us hl => match us, hl with | [_, _, _], _ => rfl
  have k10 := F10.kp
  have g10 := He.glo_ok X G (cd.fact 8 (f := .glo "_law_e_takes") rfl)
  obtain ⟨fd11, D11⟩ := cd.def_ 10 (d := dd "_law_e_goes" sKGoes) rfl
  have F11 := fun_of (st := sKGoes) D11
  have b11 := F11.binds (ps := ["up", "state", "deed"]) fun _ _ _ _ _ _ us hl => match us, hl with | [_, _, _], _ => rfl
  have k11 := F11.kp
  have g11 := He.glo_ok X G (cd.fact 9 (f := .glo "_law_e_goes") rfl)
  obtain ⟨fd12, D12⟩ := cd.def_ 11 (d := dd "_law_e_stays_text" sLStays) rfl
  have F12 := fun_of (st := sLStays) D12
  have b12 := F12.binds (ps := ["stays"]) fun _ _ _ _ _ _ us hl => match us, hl with | [_], _ => rfl
  have k12 := F12.kp
  have g12 := He.glo_ok X G (cd.fact 10 (f := .glo "_law_e_stays_text") rfl)
  obtain ⟨fd13, D13⟩ := cd.def_ 12 (d := dd "_law_e_served_text" sLServed) rfl
  have F13 := fun_of (st := sLServed) D13
  have b13 := F13.binds (ps := ["served"]) fun _ _ _ _ _ _ us hl => match us, hl with | [_], _ => rfl
  have k13 := F13.kp
  have g13 := He.glo_ok X G (cd.fact 11 (f := .glo "_law_e_served_text") rfl)
  obtain ⟨fd14, D14⟩ := cd.def_ 13 (d := dd "is_whole" sWhole) rfl
  have F14 := fun_of (st := sWhole) D14
  have b14 := F14.binds (ps := ["thing"]) fun _ _ _ _ _ _ us hl => match us, hl with | [_], _ => rfl
  have k14 := F14.kp
  have g14 := He.glo_ok X G (cd.fact 12 (f := .glo "is_whole") rfl)
  obtain ⟨fd15, D15⟩ := cd.def_ 14 (d := dd "is_within" sWithin) rfl
  have F15 := fun_of (st := sWithin) D15
  have b15 := F15.binds (ps := ["thing", "least", "greatest"]) fun _ _ _ _ _ _ us hl => match us, hl with | [_, _, _], _ => rfl
  have k15 := F15.kp
  have g15 := He.glo_ok X G (cd.fact 13 (f := .glo "is_within") rfl)
  obtain ⟨fd16, D16⟩ := cd.def_ 15 (d := dd "leads_up" sLeadsG) rfl
  have F16 := fun_of (st := sLeadsG) D16
  have b16 := F16.binds (ps := ["up", "place"]) fun _ _ _ _ _ _ us hl => match us, hl with | [_, _], _ => rfl
  have k16 := F16.kp
  have g16 := He.glo_ok X G (cd.fact 14 (f := .glo "leads_up") rfl)
  obtain ⟨fd17, D17⟩ := cd.def_ 16 (d := dd "are_ways" sAreWaysG) rfl
  have F17 := funC_of (p := ("are_ways", none)) (st := sAreWaysG) D17
  have b17 := F17.toFun.binds (ps := ["thing"]) fun _ _ _ _ _ _ us hl => match us, hl with | [_], _ => rfl
  have k17 := F17.kp
  have g17 := He.glo_ok X G (cd.fact 15 (f := .glo "are_ways") rfl)
  obtain ⟨fd18, D18⟩ := cd.def_ 17 (d := dd "need_ways" sNeedWaysG) rfl
  have F18 := fun_of (st := sNeedWaysG) D18
  have b18 := F18.binds (ps := ["up"]) fun _ _ _ _ _ _ us hl => match us, hl with | [_], _ => rfl
  have k18 := F18.kp
  have g18 := He.glo_ok X G (cd.fact 16 (f := .glo "need_ways") rfl)
  obtain ⟨fd19, D19⟩ := cd.def_ 18 (d := dm "Hearing" "__init__" "Hearing.__init__" sInit) rfl
  have F19 := fun_of (st := sInit) D19
  have b19 := F19.binds (ps := ["self", "up"]) fun _ _ _ _ _ _ us hl => match us, hl with | [_, _], _ => rfl
  have k19 := F19.kp
  obtain ⟨fd20, D20⟩ := cd.def_ 19 (d := dd "is_name" sIsName) rfl
  have F20 := funC_of (p := ("is_name", none)) (st := sIsName) D20
  have b20 := F20.toFun.binds (ps := ["word"]) fun _ _ _ _ _ _ us hl => match us, hl with | [_], _ => rfl
  have k20 := F20.kp
  have g20 := He.glo_ok X G (cd.fact 17 (f := .glo "is_name") rfl)
  obtain ⟨fd21, D21⟩ := cd.def_ 20 (d := dd "is_number" sIsNum) rfl
  have F21 := funC_of (p := ("is_number", none)) (st := sIsNum) D21
  have b21 := F21.toFun.binds (ps := ["word"]) fun _ _ _ _ _ _ us hl => match us, hl with | [_], _ => rfl
  have k21 := F21.kp
  have g21 := He.glo_ok X G (cd.fact 18 (f := .glo "is_number") rfl)
  obtain ⟨fd22, D22⟩ := cd.def_ 21 (d := dd "is_row" sIsRow) rfl
  have F22 := funC_of (p := ("is_row", none)) (st := sIsRow) D22
  have b22 := F22.toFun.binds (ps := ["thing"]) fun _ _ _ _ _ _ us hl => match us, hl with | [_], _ => rfl
  have k22 := F22.kp
  have g22 := He.glo_ok X G (cd.fact 19 (f := .glo "is_row") rfl)
  obtain ⟨fd23, D23⟩ := cd.def_ 22 (d := dd "under" sUnderD) rfl
  have F23 := fun_of (st := sUnderD) D23
  have b23 := F23.binds (ps := ["things", "name"]) fun _ _ _ _ _ _ us hl => match us, hl with | [_, _], _ => rfl
  have k23 := F23.kp
  have g23 := He.glo_ok X G (cd.fact 20 (f := .glo "under") rfl)
  obtain ⟨fd24, D24⟩ := cd.def_ 23 (d := dd "is_deed" sIsDeed) rfl
  have F24 := fun_of (st := sIsDeed) D24
  have b24 := F24.binds (ps := ["thing"]) fun _ _ _ _ _ _ us hl => match us, hl with | [_], _ => rfl
  have k24 := F24.kp
  have g24 := He.glo_ok X G (cd.fact 21 (f := .glo "is_deed") rfl)
  obtain ⟨fd25, D25⟩ := cd.def_ 24 (d := dm "Hearing" "need_place" "Hearing.need_place" sHNeedPlace) rfl
  have F25 := fun_of (st := sHNeedPlace) D25
  have b25 := F25.binds (ps := ["self", "place"]) fun _ _ _ _ _ _ us hl => match us, hl with | [_, _], _ => rfl
  have k25 := F25.kp
  obtain ⟨fd26, D26⟩ := cd.def_ 25 (d := dm "Hearing" "may_be_done" "Hearing.may_be_done" sHMay) rfl
  have F26 := fun_of (st := sHMay) D26
  have b26 := F26.binds (ps := ["self", "word", "place"]) fun _ _ _ _ _ _ us hl => match us, hl with | [_, _, _], _ => rfl
  have k26 := F26.kp
  obtain ⟨fd27, D27⟩ := cd.def_ 26 (d := dm "Hearing" "need_deed" "Hearing.need_deed" sHNeedDeed) rfl
  have F27 := fun_of (st := sHNeedDeed) D27
  have b27 := F27.binds (ps := ["self", "deed"]) fun _ _ _ _ _ _ us hl => match us, hl with | [_, _], _ => rfl
  have k27 := F27.kp
  obtain ⟨fd28, D28⟩ := cd.def_ 27 (d := dm "Hearing" "take_number" "Hearing.take_number" sHTNumber) rfl
  have F28 := fun_of (st := sHTNumber) D28
  have b28 := F28.binds (ps := ["self", "place", "number"]) fun _ _ _ _ _ _ us hl => match us, hl with | [_, _, _], _ => rfl
  have k28 := F28.kp
  obtain ⟨fd29, D29⟩ := cd.def_ 28 (d := dm "Hearing" "emit" "Hearing.emit" sHEmit) rfl
  have F29 := fun_of (st := sHEmit) D29
  have b29 := F29.binds (ps := ["self"]) fun _ _ _ _ _ _ us hl => match us, hl with | [_], _ => rfl
  have k29 := F29.kp
  obtain ⟨fd30, D30⟩ := cd.def_ 29 (d := dm "Hearing" "needed" "Hearing.needed" sHNeeded) rfl
  have F30 := fun_of (st := sHNeeded) D30
  have b30 := F30.binds (ps := ["self", "place"]) fun _ _ _ _ _ _ us hl => match us, hl with | [_, _], _ => rfl
  have k30 := F30.kp
  obtain ⟨fd31, D31⟩ := cd.def_ 30 (d := dm "Hearing" "tell_ahead" "Hearing.tell_ahead" sHTell) rfl
  have F31 := fun_of (st := sHTell) D31
  have b31 := F31.binds (ps := ["self", "place", "before"]) fun _ _ _ _ _ _ us hl => match us, hl with | [_, _, _], _ => rfl
  have k31 := F31.kp
  obtain ⟨fd32, D32⟩ := cd.def_ 31 (d := dm "Hearing" "come" "Hearing.come" sHCome) rfl
  have F32 := fun_of (st := sHCome) D32
  have b32 := F32.binds (ps := ["self", "place"]) fun _ _ _ _ _ _ us hl => match us, hl with | [_, _], _ => rfl
  have k32 := F32.kp
  obtain ⟨fd33, D33⟩ := cd.def_ 32 (d := dm "Hearing" "go" "Hearing.go" sHGo) rfl
  have F33 := fun_of (st := sHGo) D33
  have b33 := F33.binds (ps := ["self", "place"]) fun _ _ _ _ _ _ us hl => match us, hl with | [_, _], _ => rfl
  have k33 := F33.kp
  obtain ⟨fd34, D34⟩ := cd.def_ 33 (d := dm "Hearing" "take_letter" "Hearing.take_letter" sHTLetter) rfl
  have F34 := fun_of (st := sHTLetter) D34
  have b34 := F34.binds (ps := ["self", "place"]) fun _ _ _ _ _ _ us hl => match us, hl with | [_, _], _ => rfl
  have k34 := F34.kp
  obtain ⟨fd35, D35⟩ := cd.def_ 34 (d := dm "Hearing" "take_copy" "Hearing.take_copy" sHTCopy) rfl
  have F35 := fun_of (st := sHTCopy) D35
  have b35 := F35.binds (ps := ["self", "place"]) fun _ _ _ _ _ _ us hl => match us, hl with | [_, _], _ => rfl
  have k35 := F35.kp
  obtain ⟨fd36, D36⟩ := cd.def_ 35 (d := dm "Hearing" "do" "Hearing.do" sHDo) rfl
  have F36 := fun_of (st := sHDo) D36
  have b36 := F36.binds (ps := ["self", "deed"]) fun _ _ _ _ _ _ us hl => match us, hl with | [_, _], _ => rfl
  have k36 := F36.kp
  obtain ⟨fd37, D37⟩ := cd.def_ 36 (d := dm "Hearing" "stays" "Hearing.stays" sHStays) rfl
  have F37 := fun_of (st := sHStays) D37
  have b37 := F37.binds (ps := ["self", "place"]) fun _ _ _ _ _ _ us hl => match us, hl with | [_, _], _ => rfl
  have k37 := F37.kp
  obtain ⟨fd38, D38⟩ := cd.def_ 37 (d := dm "Hearing" "serves" "Hearing.serves" sHServes) rfl
  have F38 := fun_of (st := sHServes) D38
  have b38 := F38.binds (ps := ["self", "place"]) fun _ _ _ _ _ _ us hl => match us, hl with | [_, _], _ => rfl
  have k38 := F38.kp
  obtain ⟨fd39, D39⟩ := cd.def_ 38 (d := dd "answer_of_hearing" sAnswer) rfl
  have F39 := fun_of (st := sAnswer) D39
  have b39 := F39.binds (ps := ["word", "hearing", "numbers"]) fun _ _ _ _ _ _ us hl => match us, hl with | [_, _, _], _ => rfl
  have k39 := F39.kp
  have g39 := He.glo_ok X G (cd.fact 22 (f := .glo "answer_of_hearing") rfl)
  obtain ⟨fd40, D40⟩ := cd.def_ 39 (d := dm "Desk" "say" "Desk.say" sSay) rfl
  have F40 := fun_of (st := sSay) D40
  have b40 := F40.binds (ps := ["self", "row"]) fun _ _ _ _ _ _ us hl => match us, hl with | [_, _], _ => rfl
  have k40 := F40.kp
  obtain ⟨fd41, D41⟩ := cd.def_ 40 (d := dd "_law_e_asks_right" sLAsks) rfl
  have F41 := fun_of (st := sLAsks) D41
  have b41 := F41.binds (ps := ["desk", "name", "state", "place"]) fun _ _ _ _ _ _ us hl => match us, hl with | [_, _, _, _], _ => rfl
  have k41 := F41.kp
  have g41 := He.glo_ok X G (cd.fact 23 (f := .glo "_law_e_asks_right") rfl)
  obtain ⟨fd42, D42⟩ := cd.def_ 41 (d := dd "law" sLaw) rfl
  have F42 := fun_of (st := sLaw) D42
  have k42 := F42.kp
  have g42 := He.glo_ok X G (cd.fact 24 (f := .glo "law") rfl)
  have m0 := He.free_ok X G (cd.fact 30 (f := .free "len") rfl)
  have m1 := He.free_ok X G (cd.fact 31 (f := .free "range") rfl)
  have m2 := He.free_ok X G (cd.fact 32 (f := .free "tuple") rfl)
  have m3 := He.free_ok X G (cd.fact 33 (f := .free "str") rfl)
  have m4 := He.free_ok X G (cd.fact 34 (f := .free "sorted") rfl)
  have m5 := He.free_ok X G (cd.fact 35 (f := .free "isinstance") rfl)
  have m6 := He.free_ok X G (cd.fact 36 (f := .free "int") rfl)
  have m7 := He.free_ok X G (cd.fact 37 (f := .free "bool") rfl)
  have m8 := He.free_ok X G (cd.fact 38 (f := .free "all") rfl)
  have m9 := He.free_ok X G (cd.fact 39 (f := .free "list") rfl)
  obtain ⟨t0, u0⟩ := He.int_ok X G (cd.fact 40 (f := .int "MOST_ENTRIES" 8) rfl)
  obtain ⟨t1, u1⟩ := He.int_ok X G (cd.fact 41 (f := .int "LONGEST_NAME" 8) rfl)
  obtain ⟨t2, u2⟩ := He.str_ok X G (cd.fact 42 (f := .str "SMALL_LETTERS" (Str.ofString "abcdefghijklmnopqrstuvwxyz")) rfl)
  obtain ⟨t3, u3⟩ := He.int_ok X G (cd.fact 43 (f := .int "MOST_FIGURES" 6) rfl)
  obtain ⟨t4, u4⟩ := He.str_ok X G (cd.fact 44 (f := .str "FIGURES" (Str.ofString "0123456789")) rfl)
  have gH := He.glo_ok X G (cd.fact 25 (f := .glo "Hearing") rfl)
  have MH := He.mkr_ok (cd.fact 46 (f := .mkr "Hearing") rfl)
  have Mx_need_place := He.meth_ok (cd.fact 47 (f := .meth "Hearing" "need_place") rfl)
  have Mx_needed := He.meth_ok (cd.fact 48 (f := .meth "Hearing" "needed") rfl)
  have Mx_serves := He.meth_ok (cd.fact 49 (f := .meth "Hearing" "serves") rfl)
  have Mx_stays := He.meth_ok (cd.fact 50 (f := .meth "Hearing" "stays") rfl)
  have Mx_tell_ahead := He.meth_ok (cd.fact 51 (f := .meth "Hearing" "tell_ahead") rfl)
  have Mx_come := He.meth_ok (cd.fact 52 (f := .meth "Hearing" "come") rfl)
  have Mx_go := He.meth_ok (cd.fact 53 (f := .meth "Hearing" "go") rfl)
  have Mx_take_letter := He.meth_ok (cd.fact 54 (f := .meth "Hearing" "take_letter") rfl)
  have Mx_take_number := He.meth_ok (cd.fact 55 (f := .meth "Hearing" "take_number") rfl)
  have Mx_take_copy := He.meth_ok (cd.fact 56 (f := .meth "Hearing" "take_copy") rfl)
  have Mx_emit := He.meth_ok (cd.fact 57 (f := .meth "Hearing" "emit") rfl)
  have Mx_may_be_done := He.meth_ok (cd.fact 58 (f := .meth "Hearing" "may_be_done") rfl)
  have Mx_need_deed := He.meth_ok (cd.fact 59 (f := .meth "Hearing" "need_deed") rfl)
  have Mx_do := He.meth_ok (cd.fact 60 (f := .meth "Hearing" "do") rfl)
  have na0 := He.noat_ok (cd.fact 61 (f := .noat "Hearing" "ahead") rfl)
  have na1 := He.noat_ok (cd.fact 62 (f := .noat "Hearing" "root") rfl)
  have na2 := He.noat_ok (cd.fact 63 (f := .noat "Hearing" "counted") rfl)
  have na3 := He.noat_ok (cd.fact 64 (f := .noat "Hearing" "hears") rfl)
  have na4 := He.noat_ok (cd.fact 65 (f := .noat "Hearing" "counts") rfl)
  have na5 := He.noat_ok (cd.fact 66 (f := .noat "Hearing" "served") rfl)
  have na6 := He.noat_ok (cd.fact 67 (f := .noat "Hearing" "letter_rows") rfl)
  have na7 := He.noat_ok (cd.fact 68 (f := .noat "Hearing" "copy_rows") rfl)
  have na8 := He.noat_ok (cd.fact 69 (f := .noat "Hearing" "stay_lists") rfl)
  have na9 := He.noat_ok (cd.fact 70 (f := .noat "Hearing" "emitted") rfl)
  have na10 := He.noat_ok (cd.fact 71 (f := .noat "Hearing" "letter_sum") rfl)
  have na11 := He.noat_ok (cd.fact 72 (f := .noat "Hearing" "copy_sum") rfl)
  have hC : HearN K (He.ga K "Hearing") := ⟨He.cls_ok (cd.fact 45 (f := .cls "Hearing") rfl), fun f hf => by
    simp only [List.mem_cons, List.not_mem_nil, or_false] at hf
    rcases hf with rfl | rfl | rfl | rfl | rfl | rfl | rfl | rfl | rfl | rfl | rfl | rfl
    · exact na0
    · exact na1
    · exact na2
    · exact na3
    · exact na4
    · exact na5
    · exact na6
    · exact na7
    · exact na8
    · exact na9
    · exact na10
    · exact na11⟩
  have gPW := He.glo_ok X G (cd.fact 26 (f := .glo "PLACE_WORDS") rfl)
  have more := c.more
  unfold exX at more
  obtain ⟨mpw, more⟩ := He.ba more
  obtain ⟨mnw, mln⟩ := He.ba more
  have hPW := fun H => pwB_ok mpw H
  have hNW := fun H => nwB_ok mnw H
  have hLN := lensB_ok mln
  obtain ⟨esL, nL, KDL⟩ := c.t.tab 0
  have gNW := He.glo_ok X G (cd.fact 28 (f := .glo "NET_WORDS") rfl)
  have gLN := He.glo_ok X G (cd.fact 29 (f := .glo "LENGTHS") rfl)
  have gD := He.glo_ok X G (cd.fact 27 (f := .glo "Desk") rfl)
  have MD := He.mkr_ok (cd.fact 74 (f := .mkr "Desk") rfl)
  have Mx_say := He.meth_ok (cd.fact 75 (f := .meth "Desk" "say") rfl)
  have dna := He.noat_ok (cd.fact 76 (f := .noat "Desk" "nets") rfl)
  have dnb := He.noat_ok (cd.fact 77 (f := .noat "Desk" "hearings") rfl)
  have hDk : DeskN K (He.ga K "Desk") := ⟨He.cls_ok (cd.fact 73 (f := .cls "Desk") rfl), fun f hf => by
    simp only [List.mem_cons, List.not_mem_nil, or_false] at hf
    rcases hf with rfl | rfl
    · exact dna
    · exact dnb⟩
  have bl := FunD.bindsA (ps := ["script"]) D42 fun _ _ _ _ _ _ us hl => match us, hl with | [_], _ => rfl
  have e := hfa.symm.trans g42
  cases e
  have hcs : ∀ p ∈ [He.cT K ("is_name", none), He.cT K ("is_number", none), He.cT K ("is_row", none), He.cT K ("are_ways", none)], ∃ d ∈ tfX, p = He.cT K d := fun p hp => by
    simp only [List.mem_cons, List.not_mem_nil, or_false] at hp
    rcases hp with rfl | rfl | rfl | rfl
    · exact ⟨("is_name", none), by simp [tfX], rfl⟩
    · exact ⟨("is_number", none), by simp [tfX], rfl⟩
    · exact ⟨("is_row", none), by simp [tfX], rfl⟩
    · exact ⟨("are_ways", none), by simp [tfX], rfl⟩
  refine ⟨fd42, [He.cT K ("is_name", none), He.cT K ("is_number", none), He.cT K ("is_row", none), He.cT K ("are_ways", none)], spLaw K (He.cT K ("is_name", none)).2 (He.cT K ("is_number", none)).2 (He.cT K ("is_row", none)).2 (He.cT K ("are_ways", none)).2, fun p hp => ?_, fun p hp => ?_, fun p hp => ?_, fun s v => bl s [v] rfl, fun H a ns _ _ hH hS => ?_, fun base hK hN hB => ?_⟩
  · obtain ⟨d, hd, rfl⟩ := hcs p hp
    exact c.empty d hd
  · obtain ⟨d, hd, rfl⟩ := hcs p hp
    exact c.out d hd
  · obtain ⟨d, hd, rfl⟩ := hcs p hp
    exact PySem.W.codeHd_of_K X (c.hd d hd)
  · have tb0 : H (He.cT K ("is_name", none)).2 = some (.tbl #[]) := hH (He.cT K ("is_name", none)) (by simp)
    have tb1 : H (He.cT K ("is_number", none)).2 = some (.tbl #[]) := hH (He.cT K ("is_number", none)) (by simp)
    have tb2 : H (He.cT K ("is_row", none)).2 = some (.tbl #[]) := hH (He.cT K ("is_row", none)) (by simp)
    have tb3 : H (He.cT K ("are_ways", none)).2 = some (.tbl #[]) := hH (He.cT K ("are_ways", none)) (by simp)
    exact ⟨a, ns, rfl, hS, ⟨_, tb0, trivial⟩, ⟨_, tb1, trivial⟩, ⟨_, tb2, trivial⟩, ⟨_, tb3, trivial⟩, fun _ => rfl⟩
  · have B20 : GxR.TabB base mg (He.cT K ("is_name", none)).1 (He.cT K ("is_name", none)).2 := by
      obtain ⟨x1, x2, x3⟩ := hB (He.cT K ("is_name", none)) (by simp)
      exact ⟨x1, x2, x3⟩
    have B21 : GxR.TabB base mg (He.cT K ("is_number", none)).1 (He.cT K ("is_number", none)).2 := by
      obtain ⟨x1, x2, x3⟩ := hB (He.cT K ("is_number", none)) (by simp)
      exact ⟨x1, x2, x3⟩
    have B22 : GxR.TabB base mg (He.cT K ("is_row", none)).1 (He.cT K ("is_row", none)).2 := by
      obtain ⟨x1, x2, x3⟩ := hB (He.cT K ("is_row", none)) (by simp)
      exact ⟨x1, x2, x3⟩
    have B17 : GxR.TabB base mg (He.cT K ("are_ways", none)).1 (He.cT K ("are_ways", none)).2 := by
      obtain ⟨x1, x2, x3⟩ := hB (He.cT K ("are_ways", none)) (by simp)
      exact ⟨x1, x2, x3⟩
    have O1 := ok_deski (P := PySem.Challenge.rw_hearkenway_k59_desk_of_hearings.prog) (w := w) (mg := mg) (base := base) F1 hDk
    have O2 := ok_blend (P := PySem.Challenge.rw_hearkenway_k59_desk_of_hearings.prog) (w := w) (mg := mg) (base := base) F2
    have O3 := ok_draw (P := PySem.Challenge.rw_hearkenway_k59_desk_of_hearings.prog) (w := w) (mg := mg) (base := base) F3 k2 b2 g2 O2 m0
    have O4 := ok_waysL (P := PySem.Challenge.rw_hearkenway_k59_desk_of_hearings.prog) (w := w) (mg := mg) (base := base) F4 k3 b3 g3 O3 m1 m2
    have O5 := ok_lname (P := PySem.Challenge.rw_hearkenway_k59_desk_of_hearings.prog) (w := w) (mg := mg) (base := base) F5 k3 b3 g3 O3 m1
    have O6 := ok_kbegun (P := PySem.Challenge.rw_hearkenway_k59_desk_of_hearings.prog) (w := w) (mg := mg) (base := base) F6
    have O7 := ok_kdeed (P := PySem.Challenge.rw_hearkenway_k59_desk_of_hearings.prog) (w := w) (mg := mg) (base := base) F7 k3 b3 g3 O3 m0 m1
    have O8 := ok_kwants (P := PySem.Challenge.rw_hearkenway_k59_desk_of_hearings.prog) (w := w) (mg := mg) (base := base) F8 m0
    have O9 := ok_ktells (P := PySem.Challenge.rw_hearkenway_k59_desk_of_hearings.prog) (w := w) (mg := mg) (base := base) F9 k8 b8 g8 O8
    have O10 := ok_ktakes (P := PySem.Challenge.rw_hearkenway_k59_desk_of_hearings.prog) (w := w) (mg := mg) (base := base) F10
    have O11 := ok_kgoes (P := PySem.Challenge.rw_hearkenway_k59_desk_of_hearings.prog) (w := w) (mg := mg) (base := base) F11 k8 b8 g8 O8 k9 b9 g9 O9 k10 b10 g10 O10
    have O12 := ok_lstext (P := PySem.Challenge.rw_hearkenway_k59_desk_of_hearings.prog) (w := w) (mg := mg) (base := base) F12 m3
    have O13 := ok_lvtext (P := PySem.Challenge.rw_hearkenway_k59_desk_of_hearings.prog) (w := w) (mg := mg) (base := base) F13 m3 m0 m4
    have O14 := ok_whole (P := PySem.Challenge.rw_hearkenway_k59_desk_of_hearings.prog) (w := w) (mg := mg) (base := base) F14 m5 m6 m7
    have O15 := ok_within (P := PySem.Challenge.rw_hearkenway_k59_desk_of_hearings.prog) (w := w) (mg := mg) (base := base) F15 F14 b14 g14 O14
    have O16 := ok_leadsG (P := PySem.Challenge.rw_hearkenway_k59_desk_of_hearings.prog) (w := w) (mg := mg) (base := base) F16 m1 m0
    have O17 := ok_areWaysG (P := PySem.Challenge.rw_hearkenway_k59_desk_of_hearings.prog) (w := w) (mg := mg) (base := base) F17 B17 k15 b15 g15 O15 k16 b16 g16 O16 m5 m2 m0 m8 m1 u0
    have O18 := ok_needWaysG (P := PySem.Challenge.rw_hearkenway_k59_desk_of_hearings.prog) (w := w) (mg := mg) (base := base) F18 k17 b17 g17 O17
    have O19 := ok_initH (P := PySem.Challenge.rw_hearkenway_k59_desk_of_hearings.prog) (w := w) (mg := mg) (base := base) F19 hC k18 b18 g18 O18
    have O20 := ok_isname (P := PySem.Challenge.rw_hearkenway_k59_desk_of_hearings.prog) (w := w) (mg := mg) (base := base) F20 B20 m0 m8 u1 u2
    have O21 := ok_isnum (P := PySem.Challenge.rw_hearkenway_k59_desk_of_hearings.prog) (w := w) (mg := mg) (base := base) F21 B21 m0 m8 u3 u4
    have O22 := ok_isrow (P := PySem.Challenge.rw_hearkenway_k59_desk_of_hearings.prog) (w := w) (mg := mg) (base := base) F22 B22 KDL hLN gLN k20 b20 g20 O20 k21 b21 g21 O21 m0 m8 m5 m3
    have O23 := ok_under (P := PySem.Challenge.rw_hearkenway_k59_desk_of_hearings.prog) (w := w) (mg := mg) (base := base) F23
    have O24 := ok_isdeed (P := PySem.Challenge.rw_hearkenway_k59_desk_of_hearings.prog) (w := w) (mg := mg) (base := base) F24 m5 m2 m3 m0 gPW hPW
    have O25 := ok_hneedplace (P := PySem.Challenge.rw_hearkenway_k59_desk_of_hearings.prog) (w := w) (mg := mg) (base := base) F25 hC k15 b15 g15 O15 m0
    have O26 := ok_hmay (P := PySem.Challenge.rw_hearkenway_k59_desk_of_hearings.prog) (w := w) (mg := mg) (base := base) F26 hC m0
    have O27 := ok_hneeddeed (P := PySem.Challenge.rw_hearkenway_k59_desk_of_hearings.prog) (w := w) (mg := mg) (base := base) F27 hC k24 b24 g24 O24 Mx_need_place b25 O25 Mx_may_be_done b26 O26
    have O28 := ok_htnumber (P := PySem.Challenge.rw_hearkenway_k59_desk_of_hearings.prog) (w := w) (mg := mg) (base := base) F28 hC
    have O29 := ok_hemit (P := PySem.Challenge.rw_hearkenway_k59_desk_of_hearings.prog) (w := w) (mg := mg) (base := base) F29 hC Mx_take_number b28 O28
    have O30 := ok_hneeded (P := PySem.Challenge.rw_hearkenway_k59_desk_of_hearings.prog) (w := w) (mg := mg) (base := base) F30 hC Mx_need_place b25 O25 m0
    have O31 := ok_htell (P := PySem.Challenge.rw_hearkenway_k59_desk_of_hearings.prog) (w := w) (mg := mg) (base := base) F31 hC Mx_needed b30 O30
    have O32 := ok_hcome (P := PySem.Challenge.rw_hearkenway_k59_desk_of_hearings.prog) (w := w) (mg := mg) (base := base) F32 hC Mx_needed b30 O30 Mx_tell_ahead b31 O31
    have O33 := ok_hgo (P := PySem.Challenge.rw_hearkenway_k59_desk_of_hearings.prog) (w := w) (mg := mg) (base := base) F33 hC Mx_tell_ahead b31 O31
    have O34 := ok_htletter (P := PySem.Challenge.rw_hearkenway_k59_desk_of_hearings.prog) (w := w) (mg := mg) (base := base) F34 hC Mx_needed b30 O30 Mx_tell_ahead b31 O31
    have O35 := ok_htcopy (P := PySem.Challenge.rw_hearkenway_k59_desk_of_hearings.prog) (w := w) (mg := mg) (base := base) F35 hC Mx_needed b30 O30 Mx_take_number b28 O28
    have O36 := ok_hdo (P := PySem.Challenge.rw_hearkenway_k59_desk_of_hearings.prog) (w := w) (mg := mg) (base := base) F36 hC Mx_need_deed b27 O27 Mx_emit b29 O29 Mx_come b32 O32 Mx_go b33 O33 Mx_take_letter b34 O34 Mx_take_copy b35 O35
    have O37 := ok_hstays (P := PySem.Challenge.rw_hearkenway_k59_desk_of_hearings.prog) (w := w) (mg := mg) (base := base) F37 hC Mx_need_place b25 O25 m9
    have O38 := ok_hserves (P := PySem.Challenge.rw_hearkenway_k59_desk_of_hearings.prog) (w := w) (mg := mg) (base := base) F38 hC Mx_need_place b25 O25 m2 m4
    have O39 := ok_answer (P := PySem.Challenge.rw_hearkenway_k59_desk_of_hearings.prog) (w := w) (mg := mg) (base := base) F39 hC Mx_do b36 O36 Mx_stays b37 O37 Mx_serves b38 O38 m3
    have O40 := ok_dsay (P := PySem.Challenge.rw_hearkenway_k59_desk_of_hearings.prog) (w := w) (mg := mg) (base := base) (c:=0) F40 hDk hNW gNW hC gH MH b19 O19 k22 b22 g22 O22 k23 b23 g23 O23 k39 b39 g39 O39 m6 m2
    have O41 := ok_lasks (P := PySem.Challenge.rw_hearkenway_k59_desk_of_hearings.prog) (w := w) (mg := mg) (base := base) F41 hDk k12 b12 g12 O12 k13 b13 g13 O13 Mx_say b40 O40 m3
    exact ok_law F42 hDk gD MD b1 O1 k4 b4 g4 O4 k5 b5 g5 O5 k6 b6 g6 O6 k3 b3 g3 O3 k7 b7 g7 O7 k11 b11 g11 O11 k41 b41 g41 O41 Mx_say b40 O40 m0 m1 m5 m3 m6
end HK

open PySem PySem.W PySem.Calls PyProof.Rows
set_option Elab.async false
set_option linter.all false
set_option maxRecDepth 100000
set_option maxHeartbeats 0

theorem PySem.Challenge.cw_hearkenway_k59_desk_of_hearings_holds : PySem.Challenge.rw_hearkenway_k59_desk_of_hearings.Holds := by
  w_on; o_law
  refine HandSHeadRun.head_any (r := OpenLaw.row PySem.Challenge.rw_hearkenway_k59_desk_of_hearings) (q := HK.qX) (H := HK.hkX) (ob := HK.obX) (M := 40000) (loose := HK.namesX) (d := HandSHeadRun.topDef (OpenLaw.row PySem.Challenge.rw_hearkenway_k59_desk_of_hearings).prog 90) (kwd := []) HK.obX_eq
    (by kernel_rfl) (fun s => by kernel_rfl) HK.runX (by kernel_rfl) (by kernel_rfl) (by kernel_rfl) (by rfl) (by first | assumption | decide +kernel) (by decide +kernel) ⟨rfl, rfl, rfl, rfl, rfl, by decide +kernel⟩ ?hw ?hc
  case hw => w_witness2
  case hc =>
    refine LamX.walk_ofTsE (l := PySem.Challenge.rw_hearkenway_k59_desk_of_hearings) (n := 63) (k := 11) (x := "script") (CX := fun _ => L2.CX0) rfl (by decide) (by kernel_rfl) ⟨rfl, by decide, by decide⟩ ?F (fun _ _ _ _ _ h => h)
    intro w mg fa h Y G hmg0
    obtain ⟨K, KX, c⟩ := Y
    have hmg : mg ("law" : PySem.Str) = some (.ref fa) := by
      have e : (HandSHeadRun.topDef (OpenLaw.row PySem.Challenge.rw_hearkenway_k59_desk_of_hearings).prog 90).name = ("law" : PySem.Str) := by kernel_rfl
      rw [← e]
      exact hmg0
    exact ⟨K, KX, HK.at_law KX G hmg c⟩
