import PyProof.Rows.All
import Wide.All
import OpenK.AllK
import Wide.FinOn
import HandS.AnyAll
import HandS.GenOver
import HandS.ForMost
import HandS.IsInst
import HandS.EndTab
import HandS.Wide
import HandS.Style
import HandS.Evl
import HandS.TupAny
import HandS.DictComp
import HandS.More
import HandS.Walk
import HandS.WordsDict
import KE.KDictList
import HandS.ListItems
import HandS.Conv
import HandS.SetFor
import HandS.Strs
import HandS.Zip
import HandS.Deep
import KE.KRevSl
import HandS.EndOwn
import PySem.Challenge.RW_hearkenway_k09_closed_places
set_option Elab.async false
set_option linter.all false
set_option maxRecDepth 100000
set_option maxHeartbeats 2000000
namespace GAl
open PySem PySem.Spec PyProof.Rows L2 GxR
open Sem (wp)

theorem Inv.kall {X : Cx} {pins : List (Addr × Obj)} {σ : L2.St} {H : Hp} {s s'' : Shared} (I : Inv X pins σ H s) (ho : s''.os = s.os) (hb : AllBare s''.gens)
    (k : ∀ b o, s.heap.get? b = some o → s''.heap.get? b = some o) : Inv X pins σ H s'' := by
  obtain ⟨h', g', d', t', o'⟩ := s''
  have e : o' = s.os := ho
  subst e
  exact I.call (h' := h') (g' := g') (d' := d') (t' := t') (ch := []) (Un.kept k) (I.hok.kept k) hb (fun b z => absurd z (by simp))

theorem bare_set {s : Shared} {g : Nat} {x : GenState} (h : AllBare s.gens) (hx : x.bare = true) : AllBare (s.setGen g x).gens := by
  intro y hy
  simp only [Shared.setGen] at hy
  rcases Array.mem_or_eq_of_mem_setIfInBounds hy with z | z
  · exact h y z
  · rw [z]; exact hx

/-- the context of a generator expression's code -/
abbrev gcx (X : Cx) (A' : Around) (s : Shared) (H : Hp) (cenv : Env) (fp : List Addr) : Cx :=
  { X with A := A', s_0 := s, H_0 := H, env := cenv, outer := X.stack, stack := cenv :: X.stack, ex := fp, fn := fun _ => false, pn := [], xe := fun _ _ => False }

section
variable {X : Cx} {pins : List (Addr × Obj)} {σ : L2.St} {H : Hp} {s : Shared}

theorem gen_start {scope : Scope} {own : List (Str × Nat)} {fp : List Addr} {A' : Around} {cenv : Env} {code : Value} {m : Str → Option Value} {h5 : Heap} {g' : Array GenState} {t5 : Nat} {a : Addr} {oa : Obj}
    (I : Inv X pins σ H s) (ok : BlkOk X.N X.env.scope scope own) (hcell : ∀ y ∈ scope.names, y.2 ≠ .cell) (hN : X.N.Nodup)
    (hfp : ∀ b ∈ fp, FpOk X pins H b ∧ b < s.heap.objs.size)
    (hce : cenv = genEnv scope (cloFrom X.env.cells scope.names []) s.heap.objs.size code builtinsNs X.env)
    (hA : A'.frames = some (cenv :: X.stack)) (hh : A'.handled = none)
    (hns : h5.Ns s.heap.objs.size m) (kp : ∀ b o, s.heap.get? b = some o → h5.get? b = some o) (hb : AllBare g')
    (ha : h5.get? a = some oa) (hla : s.heap.objs.size < a) (hda : ∀ v, oa.data ≠ .cell v) :
    Inv (gcx X A' s H cenv fp) [(a, oa)] (wipe σ (own.map (·.2))) H { s with heap := h5, gens := g', toks := t5 } := by
  have hfree : ∀ y ∈ scope.names, y.2 = .free → ∃ c, X.env.cells.lookup y.1 = some c := fun y hy e => by
    rcases ok.free y hy e with k | k
    · exact I.ok.has _ (.inl k)
    · exact I.ok.has _ (.inr k)
  have hL : cenv.locals = s.heap.objs.size := by rw [hce]; rfl
  have hcl : cenv.cells = cloFrom X.env.cells scope.names [] := by rw [hce]; rfl
  have hsc : cenv.scope = scope := by rw [hce]; rfl
  have mem : ∀ {y c}, cenv.cells.lookup y = some c → X.env.cells.lookup y = some c ∧ c < s.heap.objs.size := fun {y c} e => by
    rw [hcl] at e
    rcases cloFrom_mem (PySem.mem_of_lookup e) with hm | ⟨h1, rfl⟩
    · cases hm
    · obtain ⟨c, hc⟩ := hfree _ h1 rfl
      rw [hc]
      obtain ⟨w, z⟩ := I.cell _ _ hc
      exact ⟨rfl, z.lt⟩
  have look : ∀ {y}, scope.names.lookup y = some .free → ∃ c, cenv.cells.lookup y = some c ∧ X.env.cells.lookup y = some c := fun {y} hl => by
    have hy : (y, NameKind.free) ∈ scope.names := PySem.mem_of_lookup hl
    obtain ⟨c', e'⟩ := mem_lookup (cloFrom_has (cells := X.env.cells) (acc := []) hy)
    rw [← hcl] at e'
    exact ⟨c', e', (mem e').1⟩
  have kfree : ∀ {y k}, cenv.kindOf y = some k → (k = .cell ∨ k = .free) → scope.names.lookup y = some .free := fun {y k} hk hk' => by
    unfold Env.kindOf at hk
    rw [hsc] at hk
    rcases hk' with rfl | rfl
    · exact absurd rfl (hcell _ (PySem.mem_of_lookup hk))
    · exact hk
  have okB : (gcx X A' s H cenv fp).Ok := by
    refine ⟨I.ok.mod, by show cenv.scope.kind = _; rw [hsc]; exact ok.kind, by show cenv.globals = _; rw [hce]; exact I.ok.glob, by show cenv.builtins = _; rw [hce]; rfl, by show s.heap.objs.size ≤ cenv.locals; rw [hL]; exact Nat.le_refl _,
      fun y z c e1 e2 => I.ok.inj y z c (mem e1).1 (mem e2).1, fun y hy => ?_, fun y c z e => (by cases z), fun _ => hh, hA, .inr ⟨rfl, by show cenv.frame = some cenv.locals; rw [hce]; rfl⟩, fun b hb => ⟨?_, fun y c e z => ?_⟩, I.bs, Nat.le_trans I.ok.bsz I.sz, fun b o e hb => ?_, fun b hb z => ?_, I.stack, I.stkFree⟩
    · rcases hy with hy | hy
      · obtain ⟨c, h1, _⟩ := look (kfree hy (.inl rfl)); exact ⟨c, h1⟩
      · obtain ⟨c, h1, _⟩ := look (kfree hy (.inr rfl)); exact ⟨c, h1⟩
    · show b ≠ cenv.locals
      rw [hL]; exact Nat.ne_of_lt (hfp b hb).2
    · exact (hfp b hb).1.2.2.2.2.1 y c (mem e).1 z
    · rcases (hfp b hb).1.2.2.2.1 with z | z
      · exact I.ok.noex b o e z
      · exact absurd (Nat.lt_of_lt_of_le (Heap.lt_size e) (Nat.le_trans I.ok.bsz z)) (Nat.lt_irrefl _)
    · rcases List.mem_cons.mp (I.stkSub b z) with z | z
      · exact (hfp b hb).1.2.1 z
      · exact (hfp b hb).1.2.2.1 z
  refine ⟨okB, rfl, hb, Un.kept kp, ⟨m, ?_, fun i y av e1 e2 e3 => ?_⟩, fun y c e => ?_, ?_, fun y c e => ?_, fun p hp => ?_, I.hok.kept kp, by rw [wipe_length]; exact I.len⟩
  · show Heap.Ns _ cenv.locals _
    rw [hL]
    exact hns
  · obtain ⟨e2, hne⟩ := wipe_some e2
    have hfr : scope.names.lookup y = some .free := by
      have key : ∀ k, scope.names.lookup y = some k → k = .local ∨ k = .cell ∨ k = .free → scope.names.lookup y = some .free := fun k hk hk' => by
        have no : ¬ (k = .local ∨ k = .cell) := fun hh => by
          rcases ok.own _ (PySem.mem_of_lookup hk) hh with e' | e'
          · obtain ⟨p, hp, hpy⟩ := List.mem_map.mp e'
            have e3 := ok.ix p hp
            have : p.1 = y := hpy
            rw [this] at e3
            exact hne (List.mem_map.mpr ⟨p, hp, nodup_ix hN e3 e1⟩)
          · exact e' (List.mem_of_getElem? e1)
        rcases hk' with rfl | rfl | rfl
        · exact absurd (.inl rfl) no
        · exact absurd (.inr rfl) no
        · exact hk
      have e3 : Vis cenv.scope y := e3
      rw [hsc] at e3
      rcases e3 with e3 | e3 | e3
      · exact key _ e3 (.inl rfl)
      · exact key _ e3 (.inr (.inl rfl))
      · exact key _ e3 (.inr (.inr rfl))
    obtain ⟨m, hn, hl⟩ := I.loc
    have hvis : Vis X.env.scope y := (ok.free _ (PySem.mem_of_lookup hfr) rfl).elim (fun k => .inr (.inl k)) (fun k => .inr (.inr k))
    obtain ⟨w, r, q⟩ := hl i y av e1 e2 hvis
    refine ⟨w, r, .inr ⟨.inr (by show cenv.scope.names.lookup y = _; rw [hsc]; exact hfr), ?_⟩⟩
    obtain ⟨c, h1, h2⟩ := look hfr
    rcases q with ⟨k, _⟩ | ⟨_, c', e', z⟩
    · have k : X.env.scope.names.lookup y = some .local := k
      rcases ok.free _ (PySem.mem_of_lookup hfr) rfl with k' | k' <;> rw [show X.env.scope.names.lookup y = _ from k'] at k <;> cases k
    · rw [h2] at e'; cases e'
      exact ⟨c, h1, z.keeps kp⟩
  · obtain ⟨w, z⟩ := I.cell y c (mem e).1
    exact ⟨w, z.keeps kp⟩
  · show H cenv.locals = none
    rw [hL]; exact I.hok.fresh (Nat.le_refl _)
  · exact I.freeC y c (mem e).1
  · have hp : p ∈ ([] : List (Addr × Obj)) ++ [(a, oa)] := hp
    simp only [List.nil_append, List.mem_singleton] at hp
    subst hp
    refine ⟨ha, I.hok.fresh (Nat.le_of_lt hla), ?_, ?_, hda⟩
    · show a ≠ cenv.locals
      rw [hL]; exact Nat.ne_of_gt hla
    · intro z
      have z : a ∈ frs X.stack := z
      obtain ⟨_, o, ho, _⟩ := I.stack.mem z
      exact absurd (Nat.lt_trans hla (Heap.lt_size ho)) (Nat.lt_irrefl _)
end
end GAl

set_option Elab.async false
set_option linter.all false
set_option maxRecDepth 100000
set_option maxHeartbeats 2000000
namespace GAl
open PySem PySem.Spec PyProof.Rows L2 GxR
open Sem (wp)

/-- the generator's end and what it hands out -/
def REnd (XG : Cx) (a : Addr) (oa : Obj) (σw : L2.St) (Qd : Hp → Prop) : Nat → Shared → Shared → Prop := fun _ _ s₁ => ∃ H4, Inv XG [(a, oa)] σw H4 s₁ ∧ Qd H4
def YOut (XG : Cx) (a : Addr) (oa : Obj) (stp : V → Hp → Prop → Prop) : Protocol := fun _ _ v s kap =>
  ∃ y H4 σ4, Inv XG [(a, oa)] σ4 H4 s ∧ RelV y v ∧ stp y H4 (∀ s'' : Shared, s''.os = s.os → AllBare s''.gens → (∀ b o, s.heap.get? b = some o → s''.heap.get? b = some o) → kap (.send .none) s'')

/-- what a turn asks (W by the turn and a measure) -/
def GTurn (J : It) (g : TG) (tt : TT) (te : TE) (vs : List Nat) (σw : L2.St) (Qd : Hp → Prop) (stp : V → Hp → Prop → Prop) (W : Nat → Nat → Hp → Prop) : Prop :=
  ∀ i m H, W i m H → (J.stop i H ∧ Qd H) ∨ (J.go i H ∧ ∃ Nx : Hp → Prop, (∀ H', Nx H' → ∃ m', m' < m ∧ W (i + 1) m' H') ∧ ∀ x H', J.yld i H x H' → g x σw H' fun σ2 H2 => wipe σ2 vs = σw ∧ tt σ2 H2 fun b H3 =>
    if b = true then te σ2 H3 fun y H4 => stp y H4 (Nx H4) else Nx H3)

section
variable {X : Cx} {σ : L2.St} {elt tg iter : Expr} {ifs : List Expr} {scope : Scope} {pos : Pos} {it a : Addr} {oa : Obj} {fp : List Addr} {cenv : Env} {AG : Around} {s4 : Shared} {Hs : Hp} {J : It} {tn : Nat → Heap → Prop}
  {g : TG} {tt : TT} {te : TE} {vs : List Nat} {σw : L2.St} {Qd : Hp → Prop} {stp : V → Hp → Prop → Prop} {W : Nat → Nat → Hp → Prop}

theorem gen_loop (hc : X.calm = true) (hco : cenv.scope.isCoroutine = false) (T : Turn X.prog X.w X.K tg J fp it tn) (hafp : ∀ b ∈ fp, a ≠ b)
    (hmono : ∀ y H (p q : Prop), (p → q) → stp y H p → stp y H q)
    (pg : PG (gcx X (AG.over (.compLoop (.GeneratorExp elt [⟨tg, iter, ifs, 0⟩] scope pos) 0 (.ref it) .none cenv) []) s4 Hs cenv fp) tg g)
    (pt : PTs (gcx X (AG.over (.compLoop (.GeneratorExp elt [⟨tg, iter, ifs, 0⟩] scope pos) 0 (.ref it) .none cenv) []) s4 Hs cenv fp) ifs tt)
    (pe : PE (gcx X (AG.over (.compLoop (.GeneratorExp elt [⟨tg, iter, ifs, 0⟩] scope pos) 0 (.ref it) .none cenv) []) s4 Hs cenv fp) elt te)
    (hW : GTurn J g tt te vs σw Qd stp W) :
    ∀ (m n i : Nat) (s₀ s : Shared) (H : Hp), m < n → W i m H → Inv (gcx X (AG.over (.compLoop (.GeneratorExp elt [⟨tg, iter, ifs, 0⟩] scope pos) 0 (.ref it) .none cenv) []) s4 Hs cenv fp) [(a, oa)] σw H s → tn i s.heap → (∀ b ∈ fp, H b = none) →
      Seg (model X.prog X.w) AG (fun n s₀ r s₁ => r = .ok .next ∧ REnd (gcx X (AG.over (.compLoop (.GeneratorExp elt [⟨tg, iter, ifs, 0⟩] scope pos) 0 (.ref it) .none cenv) []) s4 Hs cenv fp) a oa σw Qd n s₀ s₁)
        (YOut (gcx X (AG.over (.compLoop (.GeneratorExp elt [⟨tg, iter, ifs, 0⟩] scope pos) 0 (.ref it) .none cenv) []) s4 Hs cenv fp) a oa stp) n s₀
        (.compLoop (.GeneratorExp elt [⟨tg, iter, ifs, 0⟩] scope pos) 0 (.ref it) .none cenv)
        ((model X.prog X.w).den (.compLoop (.GeneratorExp elt [⟨tg, iter, ifs, 0⟩] scope pos) 0 (.ref it) .none cenv)) [] s := by
  generalize hXG : gcx X (AG.over (.compLoop (.GeneratorExp elt [⟨tg, iter, ifs, 0⟩] scope pos) 0 (.ref it) .none cenv) []) s4 Hs cenv fp = XG at pg pt pe ⊢
  have hA : XG.A = AG.over (.compLoop (.GeneratorExp elt [⟨tg, iter, ifs, 0⟩] scope pos) 0 (.ref it) .none cenv) [] := by rw [← hXG]
  have hP : XG.prog = X.prog := by rw [← hXG]
  have hw : XG.w = X.w := by rw [← hXG]
  have hK : XG.K = X.K := by rw [← hXG]
  have hcalm : XG.calm = true := by rw [← hXG]; exact hc
  have henv : XG.env = cenv := by rw [← hXG]
  have hxe : XG.xe = fun _ _ => False := by rw [← hXG]
  have hex : XG.ex = fp := by rw [← hXG]
  have hpn : XG.pn = [] := by rw [← hXG]
  have stat : ∀ {σ' : L2.St} {H' : Hp} {s' : Shared}, Inv XG [(a, oa)] σ' H' s' → (∀ b ∈ fp, H' b = none) → ∀ b ∈ fp, FpOk XG [(a, oa)] H' b := fun {σ' H' s'} I' hn b hb =>
    ⟨hn b hb, (I'.ok.exf b (by rw [hex]; exact hb)).1, I'.ok.exfs b (by rw [hex]; exact hb), .inl (by rw [hex]; exact hb), fun x c e => (I'.ok.exf b (by rw [hex]; exact hb)).2 x c e, fun p hp => by
      rw [hpn] at hp
      simp only [List.nil_append, List.mem_singleton] at hp
      subst hp
      exact hafp b hb⟩
  intro m
  induction m using Nat.strongRecOn with
  | ind m ih =>
    intro n i s₀ s H hmn w I st nH
    show Seg _ AG _ _ _ s₀ _ ((compTurn (.GeneratorExp elt [⟨tg, iter, ifs, 0⟩] scope pos) 0 (.ref it) .none cenv).onRaise (leaving cenv)) [] s
    rw [compTurn_gen, Sem.onRaise_eq_wrap]
    refine seg_bind_wrap (wpAny_standAt ?_)
    rcases hW i m H w with ⟨stop, qq⟩ | ⟨go, Nx, hNx, step⟩
    · have td := T.done XG hP hw hK hcalm i _ s _ H (fun _ _ => False) I (stat I nH) st stop
      rw [hA] at td
      refine seg_bind_wrap (thnF td fun r s1 ⟨hr, I1⟩ => ?_)
      subst hr
      exact seg_end (.ok .next) ⟨rfl, H, I1, qq⟩
    · have ti := T.item XG hP hw hK hcalm i _ s _ H (fun _ _ => False) I (stat I nH) st go
      rw [hA] at ti
      refine seg_bind_wrap (thnF ti fun r s1 ⟨u, hr, h1⟩ => ?_)
      subst hr
      refine seg_bind_wrap (thnF h1 fun _ s2 ⟨x, H2, I2, r2, y2, st2, n2⟩ => ?_)
      have I2' := I2.pinned (stat I2 n2) (T.obj _ _ st2)
      have rg := pg.run _ s2 _ H2 x u _ I2' r2 (step x H2 y2)
      rw [hA, hP, hw, henv, hxe] at rg
      refine seg_bind_wrap (thnF rg fun _ s3 ⟨σ3, H3, I3, hw3, q3⟩ => ?_)
      have rt := pt.run _ s3 σ3 H3 _ I3 q3
      rw [hA, hP, hw, henv, hxe] at rt
      refine seg_bind_wrap (thnF rt fun b s5 ⟨H5, I5, q5⟩ => ?_)
      have fin : ∀ {s' s'' : Shared} {H' : Hp}, Inv XG ([(a, oa)] ++ pinsAt fp s2.heap) σ3 H' s' → s''.os = s'.os → AllBare s''.gens → (∀ b o, s'.heap.get? b = some o → s''.heap.get? b = some o) → Nx H' →
          ∃ m', m' < m ∧ W (i + 1) m' H' ∧ Inv XG [(a, oa)] σw H' s'' ∧ tn (i + 1) s''.heap ∧ (∀ b ∈ fp, H' b = none) := fun {s' s'' H'} I' e1 e2 e3 nx => by
        obtain ⟨m', hm, w'⟩ := hNx H' nx
        have pin' : ∀ b ∈ fp, ∀ o, s2.heap.get? b = some o → s'.heap.get? b = some o ∧ H' b = none := fun b hb o e =>
          let z := I'.pin (b, o) (List.mem_append_right _ (List.mem_append_right _ (mem_pinsAt hb e)))
          ⟨z.1, z.2.1⟩
        have hl : σw.length = σ3.length := by rw [← hw3, wipe_length]
        refine ⟨m', hm, w', Inv.kall ((I'.unpinned (pins := [(a, oa)])).weak hl (fun j v e => ?_)) e1 e2 e3, T.keep _ _ _ st2 fun b hb o e => e3 b o (pin' b hb o e).1, fun b hb => ?_⟩
        · rw [← hw3] at e
          exact (wipe_some e).1
        · obtain ⟨o, e, _⟩ := T.obj _ _ st2 b hb
          exact (pin' b hb o e).2
      cases b with
      | false =>
        simp only [Bool.false_eq_true, if_false] at q5 ⊢
        obtain ⟨m', hm, w', I', st', n'⟩ := fin I5 rfl I5.bare (fun _ _ e => e) q5
        exact seg_again rfl (ih m' hm n (i + 1) s₀ s5 H5 (by omega) w' I' st' n')
      | true =>
        simp only [if_true] at q5 ⊢
        have hy : ∀ v, yieldOut cenv v = yieldValue v := fun v => by simp only [yieldOut, hco, Bool.false_eq_true, if_false]
        simp only [hy]
        rw [Sem.bind_eq_wrap', Sem.bind_eq_wrap', Sem.wrap_wrap, Sem.wrap_wrap]
        have re := pe.run _ s5 σ3 H5 _ I5 q5
        rw [hA, hP, hw, henv, hxe] at re
        refine seg_wrap (thnF re fun z s6 ⟨yv, H6, I6, r6, q6⟩ => ?_)
        cases n with
        | zero => exact absurd hmn (Nat.not_lt_zero _)
        | succ n =>
          refine seg_at (seg_yield rfl rfl rfl ⟨yv, H6, σ3, I6.unpinned (pins := [(a, oa)]), r6, hmono _ _ _ _ (fun nx s'' e1 e2 e3 => ?_) q6⟩)
          obtain ⟨m', hm, w', I', st', n'⟩ := fin I6 e1 e2 e3 nx
          exact seg_again rfl (ih m' hm n (i + 1) s'' s'' H6 (by omega) w' I' st' n')

theorem gen_begin (hc : X.calm = true) (hco : cenv.scope.isCoroutine = false) (T : Turn X.prog X.w X.K tg J fp it tn) (hafp : ∀ b ∈ fp, a ≠ b)
    (hmono : ∀ y H (p q : Prop), (p → q) → stp y H p → stp y H q)
    (pg : PG (gcx X (AG.over (.compLoop (.GeneratorExp elt [⟨tg, iter, ifs, 0⟩] scope pos) 0 (.ref it) .none cenv) []) s4 Hs cenv fp) tg g)
    (pt : PTs (gcx X (AG.over (.compLoop (.GeneratorExp elt [⟨tg, iter, ifs, 0⟩] scope pos) 0 (.ref it) .none cenv) []) s4 Hs cenv fp) ifs tt)
    (pe : PE (gcx X (AG.over (.compLoop (.GeneratorExp elt [⟨tg, iter, ifs, 0⟩] scope pos) 0 (.ref it) .none cenv) []) s4 Hs cenv fp) elt te)
    (hW : GTurn J g tt te vs σw Qd stp W) (m : Nat) (s₀ s : Shared) (H : Hp) (w : W 0 m H)
    (I : Inv (gcx X (AG.over (.compLoop (.GeneratorExp elt [⟨tg, iter, ifs, 0⟩] scope pos) 0 (.ref it) .none cenv) []) s4 Hs cenv fp) [(a, oa)] σw H s) (st : tn 0 s.heap) (nH : ∀ b ∈ fp, H b = none) :
      Seg (model X.prog X.w) AG (fun n s₀ r s₁ => r = .ok .next ∧ REnd (gcx X (AG.over (.compLoop (.GeneratorExp elt [⟨tg, iter, ifs, 0⟩] scope pos) 0 (.ref it) .none cenv) []) s4 Hs cenv fp) a oa σw Qd n s₀ s₁)
        (YOut (gcx X (AG.over (.compLoop (.GeneratorExp elt [⟨tg, iter, ifs, 0⟩] scope pos) 0 (.ref it) .none cenv) []) s4 Hs cenv fp) a oa stp) (m + 1) s₀
        (.compStart (.GeneratorExp elt [⟨tg, iter, ifs, 0⟩] scope pos) 0 (.ref it) .none cenv)
        ((model X.prog X.w).den (.compStart (.GeneratorExp elt [⟨tg, iter, ifs, 0⟩] scope pos) 0 (.ref it) .none cenv)) [] s := by
  have loop := gen_loop (a := a) (oa := oa) hc hco T hafp hmono pg pt pe hW m (m + 1) 0 s₀ s H (Nat.lt_succ_self _) w I st nH
  show Seg _ AG _ _ _ s₀ _ ((compStart (.GeneratorExp elt [⟨tg, iter, ifs, 0⟩] scope pos) 0 (.ref it) .none cenv).onRaise (leaving cenv)) [] s
  unfold compStart
  rw [Sem.onRaise_eq_wrap]
  show Seg _ AG _ _ _ s₀ _ ((ask >>= _).wrap _ _ _ _) [] s
  refine seg_bind_wrap (wpAny_askSetting ?_)
  split
  · exact seg_again rfl loop
  · first
      | exact seg_bind_wrap (wpAny_rule (seg_bind_wrap (wpAny_standAt (seg_bind_wrap (T.self _ 0 s _ _ st (seg_again rfl loop))))))
      | (refine seg_bind_wrap (wpAny_rule ?_); show Seg _ AG _ _ _ s₀ _ ((standAt iter.pos >>= _).wrap _ _ _ _) [] s; exact seg_bind_wrap (wpAny_standAt (seg_bind_wrap (T.self _ 0 s _ _ st (seg_again rfl loop)))))
end

/-! ### the consumer's side -/
section
variable {prog : Program} {w : World} {A : Around} {E : Value → Shared → Prop} {s : Shared}
theorem next_sz {a : Addr} {g n : Nat} {gs : GenState} {P : Nat → Shared → Shared → Prop} {Y : Protocol} {Q : Option Value → Shared → Prop} (hh : A.handled = none)
    (hl : s.heap.NoLimit) (hroom : A.depth < recursionLimit)
    (hg : s.heap.IsGen a g) (hgs : s.gens[g]? = some gs)
    (hgo : gs.Goes (model prog w) A.in1 (fun n s₀ r s₁ => r = .ok .next ∧ P n s₀ s₁) Y n (.send .none) (s.setGen g .running))
    (hY : ∀ v s₁ gs', s.gens.size ≤ s₁.gens.size → gs'.bare = true → Y (n - 1) (s.setGen g .running) v s₁ (fun r' s'' => match n with
        | 0 => False
        | m + 1 => gs'.Goes (model prog w) A.in1 (fun n s₀ r s₁ => r = .ok .next ∧ P n s₀ s₁) Y m r' s'') → Q (some v) (s₁.setGen g gs'))
    (hP : ∀ s₁, s.gens.size ≤ s₁.gens.size → P n (s.setGen g .running) s₁ → ∀ h', (∀ b o, s₁.heap.get? b = some o → h'.get? b = some o) → Q none { s₁.setGen g .finished with heap := h' }) :
    wpAny (model prog w) A (pyNext (.ref a)) Q E s := by
  refine GenW.wpAny_gsz (n := s.gens.size) (Nat.le_refl _) (wpAny_pyNext_genexpQ (E := fun e s' => s.gens.size ≤ s'.gens.size → E e s') (Q := fun r s' => s.gens.size ≤ s'.gens.size → Q r s') hh hl hroom hg hgs hgo
    (fun v s₁ gs' hb hv hz => hY v s₁ gs' (by rw [GenW.setGen_size] at hz; exact hz) hb hv)
    (fun s₁ hp h' hk hz => hP s₁ (by have z : s.gens.size ≤ (s₁.setGen g .finished).gens.size := hz; rw [GenW.setGen_size] at z; exact z) hp h' hk))
end
end GAl

set_option Elab.async false
set_option linter.all false
set_option maxRecDepth 100000
set_option maxHeartbeats 2000000
namespace GAl
open PySem PySem.Spec PyProof.Rows L2 GxR
open Sem (wp)

/-- the generator stands, ready for its next turn, at most n - 1 more are to come -/
def GSt (M : Model) (AG : Around) (P : Nat → Shared → Shared → Prop) (Y : Protocol) (a : Addr) (g n : Nat) (s : Shared) : Prop :=
  s.heap.IsGen a g ∧ s.heap.NoLimit ∧ ∃ gs, s.gens[g]? = some gs ∧ gs.Goes M AG (fun n s₀ r s₁ => r = .ok .next ∧ P n s₀ s₁) Y n (.send .none) (s.setGen g .running)

def stpAll (Qf : Hp → Prop) : V → Hp → Prop → Prop := fun y H N => ∃ c, y = .bl c ∧ (if c = true then N else Qf H)
def stpAny (Qt : Hp → Prop) : V → Hp → Prop → Prop := fun y H N => ∃ c, y = .bl c ∧ (if c = true then Qt H else N)
theorem stpAll_mono {Qf : Hp → Prop} : ∀ y H (p q : Prop), (p → q) → stpAll Qf y H p → stpAll Qf y H q := fun y H p q h ⟨c, e, k⟩ => ⟨c, e, by
  cases c with
  | true => simp only [if_true] at k ⊢; exact h k
  | false => simp only [Bool.false_eq_true, if_false] at k ⊢; exact k⟩
theorem stpAny_mono {Qf : Hp → Prop} : ∀ y H (p q : Prop), (p → q) → stpAny Qf y H p → stpAny Qf y H q := fun y H p q h ⟨c, e, k⟩ => ⟨c, e, by
  cases c with
  | false => simp only [Bool.false_eq_true, if_false] at k ⊢; exact h k
  | true => simp only [if_true] at k ⊢; exact k⟩

theorem gens_some {s : Shared} {g k : Nat} {gs : GenState} (h : s.gens[g]? = some gs) (hk : s.gens.size ≤ k) {s₁ : Shared} (e : s₁.gens.size = k) : ∃ x, s₁.gens[g]? = some x := by
  obtain ⟨hl, _⟩ := Array.getElem?_eq_some_iff.mp h
  exact ⟨_, Array.getElem?_eq_getElem (by omega)⟩

section
variable {X XG : Cx} {A : Around} {a : Addr} {oa : Obj} {g : Nat} {σw : L2.St} {Qd Qf : Hp → Prop} {R : Result → Shared → Prop}
theorem isgen_of {h h' : Heap} (hg : h.IsGen a g) (ho : h.get? a = some oa) (ho' : h'.get? a = some oa) : h'.IsGen a g := by
  obtain ⟨o, nm, qn, e, r⟩ := hg
  rw [ho] at e; cases e
  exact ⟨_, nm, qn, ho', r⟩

/-- all.loop over it -/
theorem all_loop (hprog : XG.prog = X.prog) (hw : XG.w = X.w) (hh : A.handled = none) (hroom : A.depth < recursionLimit) (hpn : XG.pn = [])
    (hfin : ∀ s' σ' H', Inv XG [(a, oa)] σ' H' s' → Qd H' → R (.ok (.ret (.bool true))) s')
    (hcut : ∀ s' σ' H', Inv XG [(a, oa)] σ' H' s' → Qf H' → R (.ok (.ret (.bool false))) s') :
    ∀ (n : Nat) (s : Shared), s.heap.get? a = some oa → GSt (model X.prog X.w) A.in1.in1 (REnd XG a oa σw Qd) (YOut XG a oa (stpAll Qf)) a g n s → codeAny (model X.prog X.w) A (.builtin "all.loop" ⟨[.ref a], []⟩) R s := by
  intro n
  induction n with
  | zero =>
    intro s hoa ⟨hg, hl, gs, hgs, hgo⟩
    refine codeAny_builtin F.entry_all_loop ?_
    rw [Around.under_plainId F.plain_all_loop _]
    show wpAny _ A.in1 (pyNext (.ref a) >>= _) _ _ s
    refine wpAny_bind (next_sz (A := A.in1) hh hl hroom hg hgs hgo (fun v s₁ gs' hsz hb hv => ?_) (fun s₁ hsz hp h' hk => ?_))
    · obtain ⟨y, H4, σ4, I4, r, c, e, k⟩ := hv
      subst e
      cases r
      refine wpAny_bind (wpAny_holding (wpAny_truthy_bool ?_))
      refine wpAny_bind (wpAny_letGo ?_)
      cases c with
      | true =>
        simp only [if_true] at k
        exact False.elim (k s₁ rfl I4.bare fun _ _ e => e)
      | false =>
        simp only [Bool.false_eq_true, if_false] at k ⊢
        refine wpAny_bind (wpAny_rule (wpAny_pure ?_))
        exact hcut _ σ4 H4 (Inv.kall I4 rfl (bare_set I4.bare hb) fun _ _ e => e) k
    · obtain ⟨H4, I4, q⟩ := hp
      refine wpAny_bind (wpAny_rule (wpAny_pure ?_))
      exact hfin _ σw H4 (Inv.kall I4 rfl (bare_set I4.bare rfl) hk) q
  | succ n ih =>
    intro s hoa ⟨hg, hl, gs, hgs, hgo⟩
    refine codeAny_builtin F.entry_all_loop ?_
    rw [Around.under_plainId F.plain_all_loop _]
    show wpAny _ A.in1 (pyNext (.ref a) >>= _) _ _ s
    refine wpAny_bind (next_sz (A := A.in1) hh hl hroom hg hgs hgo (fun v s₁ gs' hsz hb hv => ?_) (fun s₁ hsz hp h' hk => ?_))
    · obtain ⟨y, H4, σ4, I4, r, c, e, k⟩ := hv
      subst e
      cases r
      refine wpAny_bind (wpAny_holding (wpAny_truthy_bool ?_))
      refine wpAny_bind (wpAny_letGo ?_)
      cases c with
      | true =>
        simp only [if_true] at k ⊢
        have ha : s₁.heap.get? a = some oa := (I4.pin (a, oa) (by rw [hpn]; simp)).1
        obtain ⟨x, hx⟩ := gens_some hgs hsz rfl
        refine wpAny_pure ⟨plainId_quiet F.plain_all_loop _, ih (s₁.setGen g gs') ha ⟨isgen_of hg hoa ha, I4.nolimit, gs', setGen_self hx, ?_⟩⟩
        exact k ((s₁.setGen g gs').setGen g .running) rfl (bare_set (bare_set I4.bare hb) rfl) fun _ _ e => e
      | false =>
        simp only [Bool.false_eq_true, if_false] at k ⊢
        refine wpAny_bind (wpAny_rule (wpAny_pure ?_))
        exact hcut _ σ4 H4 (Inv.kall I4 rfl (bare_set I4.bare hb) fun _ _ e => e) k
    · obtain ⟨H4, I4, q⟩ := hp
      refine wpAny_bind (wpAny_rule (wpAny_pure ?_))
      exact hfin _ σw H4 (Inv.kall I4 rfl (bare_set I4.bare rfl) hk) q
/-- any.loop over it -/
theorem any_loop (hprog : XG.prog = X.prog) (hw : XG.w = X.w) (hh : A.handled = none) (hroom : A.depth < recursionLimit) (hpn : XG.pn = [])
    (hfin : ∀ s' σ' H', Inv XG [(a, oa)] σ' H' s' → Qd H' → R (.ok (.ret (.bool false))) s')
    (hcut : ∀ s' σ' H', Inv XG [(a, oa)] σ' H' s' → Qf H' → R (.ok (.ret (.bool true))) s') :
    ∀ (n : Nat) (s : Shared), s.heap.get? a = some oa → GSt (model X.prog X.w) A.in1.in1 (REnd XG a oa σw Qd) (YOut XG a oa (stpAny Qf)) a g n s → codeAny (model X.prog X.w) A (.builtin "any.loop" ⟨[.ref a], []⟩) R s := by
  intro n
  induction n with
  | zero =>
    intro s hoa ⟨hg, hl, gs, hgs, hgo⟩
    refine codeAny_builtin F.entry_any_loop ?_
    rw [Around.under_plainId F.plain_any_loop _]
    show wpAny _ A.in1 (pyNext (.ref a) >>= _) _ _ s
    refine wpAny_bind (next_sz (A := A.in1) hh hl hroom hg hgs hgo (fun v s₁ gs' hsz hb hv => ?_) (fun s₁ hsz hp h' hk => ?_))
    · obtain ⟨y, H4, σ4, I4, r, c, e, k⟩ := hv
      subst e
      cases r
      refine wpAny_bind (wpAny_holding (wpAny_truthy_bool ?_))
      refine wpAny_bind (wpAny_letGo ?_)
      cases c with
      | false =>
        simp only [Bool.false_eq_true, if_false] at k
        exact False.elim (k s₁ rfl I4.bare fun _ _ e => e)
      | true =>
        simp only [if_true] at k ⊢
        refine wpAny_bind (wpAny_rule (wpAny_pure ?_))
        exact hcut _ σ4 H4 (Inv.kall I4 rfl (bare_set I4.bare hb) fun _ _ e => e) k
    · obtain ⟨H4, I4, q⟩ := hp
      refine wpAny_bind (wpAny_rule (wpAny_pure ?_))
      exact hfin _ σw H4 (Inv.kall I4 rfl (bare_set I4.bare rfl) hk) q
  | succ n ih =>
    intro s hoa ⟨hg, hl, gs, hgs, hgo⟩
    refine codeAny_builtin F.entry_any_loop ?_
    rw [Around.under_plainId F.plain_any_loop _]
    show wpAny _ A.in1 (pyNext (.ref a) >>= _) _ _ s
    refine wpAny_bind (next_sz (A := A.in1) hh hl hroom hg hgs hgo (fun v s₁ gs' hsz hb hv => ?_) (fun s₁ hsz hp h' hk => ?_))
    · obtain ⟨y, H4, σ4, I4, r, c, e, k⟩ := hv
      subst e
      cases r
      refine wpAny_bind (wpAny_holding (wpAny_truthy_bool ?_))
      refine wpAny_bind (wpAny_letGo ?_)
      cases c with
      | false =>
        simp only [Bool.false_eq_true, if_false] at k ⊢
        have ha : s₁.heap.get? a = some oa := (I4.pin (a, oa) (by rw [hpn]; simp)).1
        obtain ⟨x, hx⟩ := gens_some hgs hsz rfl
        refine wpAny_pure ⟨plainId_quiet F.plain_any_loop _, ih (s₁.setGen g gs') ha ⟨isgen_of hg hoa ha, I4.nolimit, gs', setGen_self hx, ?_⟩⟩
        exact k ((s₁.setGen g gs').setGen g .running) rfl (bare_set (bare_set I4.bare hb) rfl) fun _ _ e => e
      | true =>
        simp only [if_true] at k ⊢
        refine wpAny_bind (wpAny_rule (wpAny_pure ?_))
        exact hcut _ σ4 H4 (Inv.kall I4 rfl (bare_set I4.bare hb) fun _ _ e => e) k
    · obtain ⟨H4, I4, q⟩ := hp
      refine wpAny_bind (wpAny_rule (wpAny_pure ?_))
      exact hfin _ σw H4 (Inv.kall I4 rfl (bare_set I4.bare rfl) hk) q
end
end GAl

set_option Elab.async false
set_option linter.all false
set_option maxRecDepth 100000
set_option maxHeartbeats 2000000
namespace GAl
open PySem PySem.Spec PyProof.Rows L2 GxR
open Sem (wp)

/-- the scope of a generator expression -/
structure GSc (N : List Str) (sc scope : Scope) (own : List (Str × Nat)) : Prop where
  blk : BlkOk N sc scope own
  co : scope.isCoroutine = false
  cell : ∀ y ∈ scope.names, y.2 ≠ .cell
  dot : scope.names.lookup (".0" : Str) = some NameKind.local
def gscC (N : List Str) (sc scope : Scope) (own : List (Str × Nat)) : Bool :=
  blkC N sc scope own && !scope.isCoroutine && (scope.names.all fun y => match y.2 with | .cell => false | _ => true) && (match scope.names.lookup (".0" : Str) with | some .local => true | _ => false)
theorem gsc_by {N : List Str} {sc scope : Scope} {own : List (Str × Nat)} (h : gscC N sc scope own = true) : GSc N sc scope own := by
  unfold gscC at h
  simp only [Bool.and_eq_true, List.all_eq_true, Bool.not_eq_true'] at h
  obtain ⟨⟨⟨h1, h2⟩, h3⟩, h4⟩ := h
  refine ⟨blkOk_by h1, h2, fun y hy e => ?_, ?_⟩
  · have q := h3 y hy
    rw [e] at q
    exact Bool.noConfusion q
  · split at h4
    · assumption
    · cases h4

/-- what a consumed generator expression asks: the walked thing, the def's table, the turns -/
def tGenB (P : Addr) (wi : TI) (g : TG) (tt : TT) (te : TE) (vs : List Nat) (stp : V → Hp → Prop → Prop) (Qd : Hp → Prop) : L2.St → Hp → Prop := fun σ H =>
  wi σ H fun J H1 => TabG H1 P ∧ ∀ H2, Tabbed P H1 H2 → ∃ W : Nat → Nat → Hp → Prop, (∃ m, W 0 m H2) ∧ GTurn J g tt te vs (wipe σ vs) Qd stp W
def tAllG (P : Addr) (wi : TI) (g : TG) (tt : TT) (te : TE) (vs : List Nat) : TE := fun σ H Q => tGenB P wi g tt te vs (stpAll (Q (.bl false))) (Q (.bl true)) σ H
def tAnyG (P : Addr) (wi : TI) (g : TG) (tt : TT) (te : TE) (vs : List Nat) : TE := fun σ H Q => tGenB P wi g tt te vs (stpAny (Q (.bl true))) (Q (.bl false)) σ H

section
variable {X : Cx} {pins : List (Addr × Obj)} {σ : L2.St} {H : Hp} {s : Shared}
theorem gen_make {c P : Addr} {elt tg iter : Expr} {ifs : List Expr} {gpos : Pos} {scope : Scope} {own : List (Str × Nat)} {wi : TI} {g : TG} {tt : TT} {te : TE} {k : Nat} {stp : V → Hp → Prop → Prop} {Qd : Hp → Prop} {Q' : Value → Shared → Prop}
    (hr : Room (k + 1) X.A) (hc : X.calm = true) (hN : X.N.Nodup) (TB : TabB X.base X.mg c P) (hcode : X.env.code = .ref c) (S : GSc X.N X.env.scope scope own) (hi : PI X tg iter wi)
    (hg : ∀ (A' : Around), Room k A' → ∀ (s : Shared) (H : Hp) (cl : List (Str × Addr)) (C : Addr) (code : Value) (fp : List Addr), PG (gcx X A' s H (genEnv scope cl C code builtinsNs X.env) fp) tg g)
    (ht : ∀ (A' : Around), Room k A' → ∀ (s : Shared) (H : Hp) (cl : List (Str × Addr)) (C : Addr) (code : Value) (fp : List Addr), PTs (gcx X A' s H (genEnv scope cl C code builtinsNs X.env) fp) ifs tt)
    (he : ∀ (A' : Around), Room k A' → ∀ (s : Shared) (H : Hp) (cl : List (Str × Addr)) (C : Addr) (code : Value) (fp : List Addr), PE (gcx X A' s H (genEnv scope cl C code builtinsNs X.env) fp) elt te)
    (hmono : ∀ y H (p q : Prop), (p → q) → stp y H p → stp y H q)
    (hs : ∀ v, genFold iter X.env v = pure v) (I : Inv X pins σ H s) (h : tGenB P wi g tt te (own.map (·.2)) stp Qd σ H)
    (hQ : ∀ (XG : Cx) (a : Addr) (oa : Obj) (gn n : Nat) (σw : L2.St) (s5 : Shared), XG.prog = X.prog → XG.w = X.w → XG.pn = [] → s5.heap.get? a = some oa →
      GSt (model X.prog X.w) X.A.in1.in1 (REnd XG a oa σw Qd) (YOut XG a oa stp) a gn n s5 → (∀ s' σ' H', Inv XG [(a, oa)] σ' H' s' → Inv X pins σ H' s') → Q' (.ref a) s5) :
    wpAny (model X.prog X.w) X.A (eval (.GeneratorExp elt [⟨tg, iter, ifs, 0⟩] scope gpos) X.env) Q' X.xe s := by
  have ok := S.blk
  have hfree : ∀ y ∈ scope.names, y.2 = .free → ∃ c, X.env.cells.lookup y.1 = some c := fun y hy e => by
    rcases ok.free y hy e with k | k
    · exact I.ok.has _ (.inl k)
    · exact I.ok.has _ (.inr k)
  refine wpAny_GeneratorExp_make S.co (closure_ok hfree) S.cell S.dot ok.kind (by have := hr.dp; omega) ?_ hs
  refine thn (hi.run pins s σ H _ I h) fun xv s1 hx => thn hx fun itv s2 h2 => ?_
  obtain ⟨it, fp, tn, J, H2, e, I2, T, st2, f2, ⟨ps, hP, hts⟩, q⟩ := h2
  subst e
  have hPs : s2.heap.get? P = some { cls := .none, data := .fields ps } := I2.hok P _ hP
  have cd : PySem.W.CodeHd s2.heap c P := TB.code.keeps fun b u e => I2.bk b u e
  have nP : ∀ b ∈ fp, b ≠ P := fun b hb z => by
    have := (f2 b hb).1
    rw [z, hP] at this; cases this
  have sz2 : ∀ b ∈ fp, b < s2.heap.objs.size := fun b hb => by
    obtain ⟨o, e, _⟩ := T.obj _ _ st2 b hb
    exact Heap.lt_size e
  have cont : ∀ (code : Value) (h3 : Heap) (tk : Nat) (ps' : Array Value), Heap.ExtBut P s2.heap h3 → s2.heap.objs.size ≤ h3.objs.size → h3.get? P = some { cls := .none, data := .fields ps' } → (∃ more, ps' = ps ++ more) → TriplesOk ps'.toList →
      wpAny (model X.prog X.w) X.A (builtinsFor X.env.globals X.env.builtins) (fun bi s₄ =>
        ∀ h', h'.Ns s₄.heap.objs.size (fun y => if y = ".0" then some (.ref it) else none) → Heap.SameBut s₄.heap.objs.size (s₄.heap.push { cls := .type "frame", data := .dict #[] }) h' →
          Q' (.ref h'.objs.size) { s₄ with
            gens := s₄.gens.push (.fresh (.compStart (.GeneratorExp elt [⟨tg, iter, ifs, 0⟩] scope gpos) 0 (.ref it) .none (genEnv scope (cloFrom X.env.cells scope.names []) s₄.heap.objs.size code bi X.env))),
            toks := s₄.toks + 1 + 1 + 1,
            heap := h'.push { cls := .type "generator", data := .fields #[.int s₄.gens.size 0, .str "<genexpr>" (s₄.toks + 1), .str (X.env.qual ++ "<genexpr>") (s₄.toks + 1 + 1)] } }) X.xe { s2 with heap := h3, toks := tk } := by
    intro code h3 tk ps' hx hsz hP3 hmore ht3
    obtain ⟨bm, ob, e1, e2, e3, e4, e5, e6, e7, e8⟩ := TB.bm
    have keep3 : ∀ b u, b ≠ P → s2.heap.get? b = some u → h3.get? b = some u := fun b u hb e => hx b u hb e
    refine wpAny_builtinsFor (m := X.mg) (by rw [I2.ok.glob]; exact (I2.mod.glob.keeps I2.bk).extBut hx TB.gP) e1 e2 (keep3 _ _ e4 (I2.bk _ _ e5)) e6 e7 e8 ?_
    intro h' hn' hs'
    obtain ⟨more, em⟩ := hmore
    have I3 : Inv X pins σ (upd H2 P (.tbl (ps ++ more))) { s2 with heap := h3, toks := tk } :=
      inv_tab (more := more) (h' := h3) (g' := s2.gens) (d' := s2.drawn) (t' := tk) I2 hP keep3 (by rw [← em]; exact hP3) I2.bare
    obtain ⟨W, ⟨m0, w0⟩, turn⟩ := q (upd H2 P (.tbl (ps ++ more))) ⟨⟨ps ++ more, upd_same, by rw [← em]; exact ht3⟩, fun b hb => upd_ne hb⟩
    generalize hH3 : upd H2 P (.tbl (ps ++ more)) = H3 at I3 w0
    generalize hs4 : ({ s2 with heap := h3, toks := tk } : Shared) = s4 at I3 hn' hs' ⊢
    have hh4 : s4.heap = h3 := by rw [← hs4]
    have st4 : tn 0 s4.heap := T.keep _ _ _ st2 fun b hb o e => by rw [hh4]; exact keep3 b o (nP b hb) e
    have f3 : ∀ b ∈ fp, FpOk X pins H3 b ∧ b < s4.heap.objs.size := fun b hb => by
      refine ⟨⟨?_, (f2 b hb).2⟩, by rw [hh4]; exact Nat.lt_of_lt_of_le (sz2 b hb) hsz⟩
      rw [← hH3, upd_ne (nP b hb)]
      exact (f2 b hb).1
    have hszh : h'.objs.size = s4.heap.objs.size + 1 := by rw [hs'.1, Heap.size_push]
    have keep' : ∀ b o, s4.heap.get? b = some o → h'.get? b = some o := fun b o e => hs'.extBut b o (Nat.ne_of_lt (Heap.lt_size e)) (Heap.get?_push_of_some _ e)
    generalize hoa : ({ cls := .type "generator", data := .fields #[.int s4.gens.size 0, .str "<genexpr>" (s4.toks + 1), .str (X.env.qual ++ "<genexpr>") (s4.toks + 1 + 1)] } : Obj) = oa
    have ga : (h'.push oa).get? h'.objs.size = some oa := Heap.get?_push_size _ (by rw [← hoa]; rfl)
    have isg : (h'.push oa).IsGen h'.objs.size s4.gens.size := by rw [← hoa]; exact ⟨_, _, _, Heap.get?_push_size _ rfl, rfl, rfl, rfl⟩
    generalize hce : genEnv scope (cloFrom X.env.cells scope.names []) s4.heap.objs.size code builtinsNs X.env = cenv
    generalize hA' : X.A.in1.in1.over (.compLoop (.GeneratorExp elt [⟨tg, iter, ifs, 0⟩] scope gpos) 0 (.ref it) .none cenv) [] = A'
    have hfr : A'.frames = some (cenv :: X.stack) := by
      rw [← hA']
      show pushEnvs [cenv] (pushEnvs [] X.A.frames) = _
      rw [I2.ok.frames]
      rfl
    have hdp : A'.depth = X.A.depth + 1 := by rw [← hA']; rfl
    have hun : A'.units = X.A.units + 5 := by rw [← hA']; rfl
    have hhd : A'.handled = none := by rw [← hA']; exact hr.hd
    have hr' : Room k A' := ⟨hhd, by rw [hdp]; have := hr.dp; omega, by rw [hun]; have := hr.un; omega⟩
    have bare5 : AllBare (s4.gens.push (.fresh (.compStart (.GeneratorExp elt [⟨tg, iter, ifs, 0⟩] scope gpos) 0 (.ref it) .none cenv))) := I3.bare.push rfl
    have I5 := gen_start (A' := A') (cenv := cenv) (code := code) (m := fun y => if y = ".0" then some (.ref it) else none) (h5 := h'.push oa) (g' := s4.gens.push (.fresh (.compStart (.GeneratorExp elt [⟨tg, iter, ifs, 0⟩] scope gpos) 0 (.ref it) .none cenv)))
      (t5 := s4.toks + 1 + 1 + 1) (a := h'.objs.size) (oa := oa) I3 ok S.cell hN f3 hce.symm hfr hhd (hn'.push _) (fun b o e => Heap.get?_push_of_some _ (keep' b o e)) bare5 ga (by omega) (by rw [← hoa]; intro v z; cases z)
    have back : ∀ s' σ' H', Inv (gcx X A' s4 H3 cenv fp) [(h'.objs.size, oa)] σ' H' s' → Inv X pins σ H' s' := fun s' σ' H' I' =>
      I3.call' (ch := fp) I'.os I'.base I'.hok I'.bare fun b hb => ⟨(f3 b hb).1.2.2.2.1, (f3 b hb).1.2.1, (f3 b hb).1.2.2.2.2.1, (f3 b hb).1.2.2.2.2.2⟩
    have pg : PG (gcx X A' s4 H3 cenv fp) tg g := by rw [← hce]; exact hg A' hr' _ _ _ _ _ _
    have pt : PTs (gcx X A' s4 H3 cenv fp) ifs tt := by rw [← hce]; exact ht A' hr' _ _ _ _ _ _
    have pe : PE (gcx X A' s4 H3 cenv fp) elt te := by rw [← hce]; exact he A' hr' _ _ _ _ _ _
    refine hQ (gcx X A' s4 H3 cenv fp) h'.objs.size oa s4.gens.size (m0 + 1) (wipe σ (own.map (·.2))) _ rfl rfl rfl ga ⟨isg, I5.nolimit, _, Array.getElem?_push_size .., ?_⟩ back
    refine ⟨rfl, ?_⟩
    subst hA'
    refine gen_begin hc (by rw [← hce]; exact S.co) T (fun b hb z => ?_) hmono pg pt pe turn m0 _ _ H3 w0 (Inv.kall I5 rfl (bare_set I5.bare rfl) fun _ _ e => e) ?_ (fun b hb => (f3 b hb).1.1)
    · have h9 := (f3 b hb).2
      rw [← z] at h9
      have h9 : h'.objs.size < s4.heap.objs.size := h9
      omega
    · exact T.keep _ _ _ st4 fun b hb o e => Heap.get?_push_of_some _ (keep' b o e)
  refine ⟨I2.nolimit, ?_⟩
  cases hf : codeAmong gpos ps.toList with
  | none =>
    refine wpAny_genexprCodeX hcode (cd.code hPs hts) (cd.tab hPs) hf fun c' h' tk hx hge hlt hco' _ htab' _ => ?_
    obtain ⟨o1, vs, f1, tf, fl, tg', inF, tx, tt', op, _, _, _, _, _, _, _, _, _, htr, _⟩ := hco'
    exact cont _ h' tk _ hx (Nat.le_trans hge (Nat.le_of_lt hlt)) htab'.2 ⟨_, rfl⟩ htr
  | some cv =>
    refine wpAny_genexprCode_hit hcode (cd.code hPs hts) hf ?_
    exact cont cv s2.heap s2.toks ps (Heap.ExtBut.refl _ _) (Nat.le_refl _) hPs ⟨#[], by simp⟩ hts

theorem pe_allG {c P : Addr} {elt tg iter : Expr} {ifs : List Expr} {p pos gpos : Pos} {scope : Scope} {own : List (Str × Nat)} {wi : TI} {g : TG} {tt : TT} {te : TE} {k : Nat}
    (hr : Room (k + 1) X.A) (hgl : Gl X "all") (hm : X.mg "all" = none) (hc : X.calm = true) (hN : X.N.Nodup) (TB : TabB X.base X.mg c P) (hcode : X.env.code = .ref c) (S : GSc X.N X.env.scope scope own) (hi : PI X tg iter wi)
    (hg : ∀ (A' : Around), Room k A' → ∀ (s : Shared) (H : Hp) (cl : List (Str × Addr)) (C : Addr) (code : Value) (fp : List Addr), PG (gcx X A' s H (genEnv scope cl C code builtinsNs X.env) fp) tg g)
    (ht : ∀ (A' : Around), Room k A' → ∀ (s : Shared) (H : Hp) (cl : List (Str × Addr)) (C : Addr) (code : Value) (fp : List Addr), PTs (gcx X A' s H (genEnv scope cl C code builtinsNs X.env) fp) ifs tt)
    (he : ∀ (A' : Around), Room k A' → ∀ (s : Shared) (H : Hp) (cl : List (Str × Addr)) (C : Addr) (code : Value) (fp : List Addr), PE (gcx X A' s H (genEnv scope cl C code builtinsNs X.env) fp) elt te)
    (hs : ∀ v, genFold iter X.env v = pure v := by intro _; rfl)
    (hst : starEach [.GeneratorExp elt [⟨tg, iter, ifs, 0⟩] scope gpos] X.env = (false, eval (.GeneratorExp elt [⟨tg, iter, ifs, 0⟩] scope gpos) X.env) :: starEach [] X.env := by rfl)
    (hb : bootBuiltins "all" = some (.builtin "all") := by decide +kernel) :
    PE X (.Call (.Name "all" p) [.GeneratorExp elt [⟨tg, iter, ifs, 0⟩] scope gpos] [] pos) (tAllG P wi g tt te (own.map (·.2))) := by
  refine ⟨fun pins s σ H Q I h => ?_⟩
  refine wpAny_Call_Name_kw (ld_blt I hgl hm hb ?_)
  refine PyProof.Rows.callWith_builtin1 ?_ hst (by rfl)
  rw [hst]
  show wpAny _ _ (spliced ((false, eval (.GeneratorExp elt [⟨tg, iter, ifs, 0⟩] scope gpos) X.env) :: backTo pos (starEach [] X.env))) _ _ s
  refine Calls.spliced_cons (gen_make hr hc hN TB hcode S hi hg ht he stpAll_mono hs I h fun XG a oa gn n σw s5 eP eW epn ha hG back => ?_)
  refine Calls.spliced_nil ?_
  refine call_function_tree F.kind_all F.plain_all F.entry_all (F.args_all1 _) ?_
  unfold Builtin.«all»
  refine wpAny_bind (m := oneArg "all" _) (wpAny_pure ?_)
  refine wpAny_bind (wpAny_pyIter_gen hG.1 ?_)
  refine wpAny_pure ⟨plainId_quiet F.plain_all_loop _, all_loop (X := X) (XG := XG) (σw := σw) (Qd := Q (.bl true)) (Qf := Q (.bl false)) eP eW hr.hd (by have := hr.dp; omega) epn (fun s' σ' H' I' q => ?_) (fun s' σ' H' I' q => ?_) n s5 ha hG⟩
  · exact ⟨.bl true, H', back s' σ' H' I', rfl, q⟩
  · exact ⟨.bl false, H', back s' σ' H' I', rfl, q⟩
theorem pe_anyG {c P : Addr} {elt tg iter : Expr} {ifs : List Expr} {p pos gpos : Pos} {scope : Scope} {own : List (Str × Nat)} {wi : TI} {g : TG} {tt : TT} {te : TE} {k : Nat}
    (hr : Room (k + 1) X.A) (hgl : Gl X "any") (hm : X.mg "any" = none) (hc : X.calm = true) (hN : X.N.Nodup) (TB : TabB X.base X.mg c P) (hcode : X.env.code = .ref c) (S : GSc X.N X.env.scope scope own) (hi : PI X tg iter wi)
    (hg : ∀ (A' : Around), Room k A' → ∀ (s : Shared) (H : Hp) (cl : List (Str × Addr)) (C : Addr) (code : Value) (fp : List Addr), PG (gcx X A' s H (genEnv scope cl C code builtinsNs X.env) fp) tg g)
    (ht : ∀ (A' : Around), Room k A' → ∀ (s : Shared) (H : Hp) (cl : List (Str × Addr)) (C : Addr) (code : Value) (fp : List Addr), PTs (gcx X A' s H (genEnv scope cl C code builtinsNs X.env) fp) ifs tt)
    (he : ∀ (A' : Around), Room k A' → ∀ (s : Shared) (H : Hp) (cl : List (Str × Addr)) (C : Addr) (code : Value) (fp : List Addr), PE (gcx X A' s H (genEnv scope cl C code builtinsNs X.env) fp) elt te)
    (hs : ∀ v, genFold iter X.env v = pure v := by intro _; rfl)
    (hst : starEach [.GeneratorExp elt [⟨tg, iter, ifs, 0⟩] scope gpos] X.env = (false, eval (.GeneratorExp elt [⟨tg, iter, ifs, 0⟩] scope gpos) X.env) :: starEach [] X.env := by rfl)
    (hb : bootBuiltins "any" = some (.builtin "any") := by decide +kernel) :
    PE X (.Call (.Name "any" p) [.GeneratorExp elt [⟨tg, iter, ifs, 0⟩] scope gpos] [] pos) (tAnyG P wi g tt te (own.map (·.2))) := by
  refine ⟨fun pins s σ H Q I h => ?_⟩
  refine wpAny_Call_Name_kw (ld_blt I hgl hm hb ?_)
  refine PyProof.Rows.callWith_builtin1 ?_ hst (by rfl)
  rw [hst]
  show wpAny _ _ (spliced ((false, eval (.GeneratorExp elt [⟨tg, iter, ifs, 0⟩] scope gpos) X.env) :: backTo pos (starEach [] X.env))) _ _ s
  refine Calls.spliced_cons (gen_make hr hc hN TB hcode S hi hg ht he stpAny_mono hs I h fun XG a oa gn n σw s5 eP eW epn ha hG back => ?_)
  refine Calls.spliced_nil ?_
  refine call_function_tree F.kind_any F.plain_any F.entry_any (F.args_any1 _) ?_
  unfold Builtin.«any»
  refine wpAny_bind (m := oneArg "any" _) (wpAny_pure ?_)
  refine wpAny_bind (wpAny_pyIter_gen hG.1 ?_)
  refine wpAny_pure ⟨plainId_quiet F.plain_any_loop _, any_loop (X := X) (XG := XG) (σw := σw) (Qd := Q (.bl false)) (Qf := Q (.bl true)) eP eW hr.hd (by have := hr.dp; omega) epn (fun s' σ' H' I' q => ?_) (fun s' σ' H' I' q => ?_) n s5 ha hG⟩
  · exact ⟨.bl false, H', back s' σ' H' I', rfl, q⟩
  · exact ⟨.bl true, H', back s' σ' H' I', rfl, q⟩
end
end GAl

set_option Elab.async false
set_option linter.all false
set_option maxRecDepth 100000
set_option maxHeartbeats 2000000
namespace HK
open PySem PySem.Spec PyProof.Rows L2 GAl GxR
/-! ### defs whose code object is known -/
structure FunC (K : PySem.W.Frag) (x qual : Str) (st : Stmt) (f : Addr) (fd : FuncData) (c : Addr) : Prop where
  ex : ∃ (oc : Value) (od : Option Addr) (kV doc pm : Value) (an : Option Addr) (ct : Value) (osl : Array (Option Value)),
    fd = PySem.W.fnOf x qual (defArgs st) (defBody st) (defScope st) .none kV doc pm an (.ref c) ct ∧ K.lookup f = some ⟨oc, od, .func fd, osl⟩ ∧ PySem.W.codeIn K (.ref c) qual = true
  kp : PySem.W.keepIn K (.ref f) = true
section
variable {P : Program} {w : World} {K : PySem.W.Frag} {mg : Str → Option Value} {base : Heap}
theorem FunC.toFun {x qual : Str} {st : Stmt} {f : Addr} {fd : FuncData} {c : Addr} (F : FunC K x qual st f fd c) : Fun K x qual st f fd := by
  obtain ⟨⟨oc, od, kV, doc, pm, an, ct, osl, e, l, h⟩, k⟩ := F
  exact ⟨⟨oc, od, kV, doc, pm, an, _, ct, osl, e, l, h⟩, k⟩
theorem FunC.ok {x qual : Str} {st : Stmt} {f : Addr} {fd : FuncData} {c : Addr} {N ps : List Str} {k : Nat} {sp : Sp} (F : FunC K x qual st f fd c) (S : FnScope N ps (defScope st)) (len : ∀ vs H Q E, sp vs H Q E → vs.length = ps.length)
    (hbody : ∀ (A : Around) (outer : List Env) (s : Shared) (H : Hp) (vs : List V) (Q : VK) (E : XK), Room k (A.deeper (envOfC qual (defScope st) s.heap.objs.size f (.ref c))) → sp vs H Q E →
      ∃ t, PSs (cxOf CX0 P w K mg base N qual (defScope st) f (.ref c) A outer s H E).nox (defBody st) t ∧ t { nx := fun _ H' => Q .non H', rt := Q } (start N vs) H) : FnOk P w K mg base CX0 (k + 1) f fd ps sp := by
  obtain ⟨oc, od, kV, doc, pm, an, ct, osl, rfl, lk, hcd⟩ := F.ex
  refine fn_of lk hcd S len fun A outer s H vs Q E hr hsp => ?_
  obtain ⟨t, h, q⟩ := hbody A outer s H vs Q E hr hsp
  exact ⟨t, h.nox, q⟩
theorem func_mk {x qual : Str} {st : Stmt} {f c : Addr} {oc : Value} {od an : Option Addr} {osl : Array (Option Value)} {kV doc pm ct : Value} (l : K.lookup f = some ⟨oc, od, .func (PySem.W.fnOf x qual (defArgs st) (defBody st) (defScope st) .none kV doc pm an (.ref c) ct), osl⟩)
    (h : PySem.W.codeIn K (.ref c) qual = true) (k : PySem.W.keepIn K (.ref f) = true) : FunC K x qual st f (PySem.W.fnOf x qual (defArgs st) (defBody st) (defScope st) .none kV doc pm an (.ref c) ct) c := ⟨⟨oc, od, kV, doc, pm, an, ct, osl, rfl, l, h⟩, k⟩
end

/-! ### what stays: everything but the list at t; tables stay tables -/
structure Kt (t : Addr) (H H' : Hp) : Prop where
  tup : ∀ b xs, H b = some (.tup xs) → H' b = some (.tup xs)
  frz : ∀ b o u, H b = some (.frz o u) → H' b = some (.frz o u)
  oth : ∀ b o, H b = some o → b ≠ t → (∀ ps, o ≠ .tbl ps) → H' b = some o
  tab : ∀ P, TabG H P → TabG H' P
  dom : ∀ b, H' b = none → H b = none
/-- everything; tables stay tables -/
structure K0 (H H' : Hp) : Prop where
  oth : ∀ b o, H b = some o → (∀ ps, o ≠ .tbl ps) → H' b = some o
  tab : ∀ P, TabG H P → TabG H' P
  dom : ∀ b, H' b = none → H b = none
theorem upd_none {H : Hp} {p b : Addr} {o : HO} (h : upd H p o b = none) : H b = none := by
  by_cases e : b = p
  · rw [e, upd_same] at h; cases h
  · rw [upd_ne e] at h; exact h
theorem K0.refl (H : Hp) : K0 H H := ⟨fun _ _ h _ => h, fun _ h => h, fun _ h => h⟩
theorem K0.trans {H H1 H2 : Hp} (a : K0 H H1) (b : K0 H1 H2) : K0 H H2 := ⟨fun x o h n => b.oth x o (a.oth x o h n) n, fun P h => b.tab P (a.tab P h), fun x h => a.dom x (b.dom x h)⟩
theorem K0.kt {t : Addr} {H H' : Hp} (a : K0 H H') : Kt t H H' := ⟨fun b xs h => a.oth b _ h (fun _ z => by cases z), fun b o u h => a.oth b _ h (fun _ z => by cases z), fun b o h _ n => a.oth b o h n, a.tab, a.dom⟩
theorem Kt.refl (t : Addr) (H : Hp) : Kt t H H := (K0.refl H).kt
theorem Kt.trans {t : Addr} {H H1 H2 : Hp} (a : Kt t H H1) (b : Kt t H1 H2) : Kt t H H2 := ⟨fun x xs h => b.tup x xs (a.tup x xs h), fun x o u h => b.frz x o u (a.frz x o u h), fun x o h n m => b.oth x o (a.oth x o h n m) n m, fun P h => b.tab P (a.tab P h), fun x h => a.dom x (b.dom x h)⟩
theorem tabG_upd {H : Hp} {p : Addr} {o : HO} (n : H p = none) {P : Addr} (h : TabG H P) : TabG (upd H p o) P := by
  obtain ⟨ps, e, ht⟩ := h
  exact ⟨ps, by rw [upd_ne (ne_of_none e n)]; exact e, ht⟩
theorem K0.new {H : Hp} {p : Addr} {o : HO} (n : H p = none) : K0 H (upd H p o) := ⟨fun b u e _ => by rw [upd_ne (ne_of_none e n)]; exact e, fun P h => tabG_upd n h, fun _ h => upd_none h⟩
theorem K0.tbd {P : Addr} {H H' : Hp} (h0 : TabG H P) (h : Tabbed P H H') : K0 H H' := ⟨fun b o e n => by
  have hb : b ≠ P := fun z => by
    obtain ⟨ps, e', _⟩ := h0
    rw [z, e'] at e
    exact n ps (Option.some.inj e).symm
  rw [h.2 b hb]; exact e, fun Q hq => by
  by_cases hQ : Q = P
  · rw [hQ]; exact h.1
  · obtain ⟨ps, e, ht⟩ := hq
    exact ⟨ps, by rw [h.2 Q hQ]; exact e, ht⟩, fun b e => by
  by_cases hb : b = P
  · obtain ⟨ps, e', _⟩ := h.1
    rw [hb, e'] at e; cases e
  · rw [h.2 b hb] at e; exact e⟩
/-- the list at t is written -/
theorem Kt.set {t : Addr} {H : Hp} {xs ys : List V} (h : H t = some (.lst xs)) : Kt t H (upd H t (.lst ys)) := ⟨fun b zs e => by
  rw [upd_ne (ne_of e h (fun z => by cases z))]; exact e, fun b o u e => by
  rw [upd_ne (ne_of e h (fun z => by cases z))]; exact e, fun b o e n _ => by rw [upd_ne n]; exact e, fun P hP => by
  obtain ⟨ps, e, ht⟩ := hP
  exact ⟨ps, by rw [upd_ne (ne_of e h (fun z => by cases z))]; exact e, ht⟩, fun _ e => upd_none e⟩
theorem Kt.sqT {K : PySem.W.Frag} {t a : Addr} {H H' : Hp} {xs : List V} (k : Kt t H H') (h : SqT K H a xs) : SqT K H' a xs := by
  rcases h with (h | ⟨o, h⟩) | h
  · exact .inl (.inl (k.tup _ _ h))
  · exact .inl (.inr ⟨o, k.frz _ _ _ h⟩)
  · exact .inr h
theorem K0.sqT {K : PySem.W.Frag} {a : Addr} {H H' : Hp} {xs : List V} (k : K0 H H') (h : SqT K H a xs) : SqT K H' a xs := (k.kt (t := 0)).sqT h
theorem K0.sqL {K : PySem.W.Frag} {a : Addr} {H H' : Hp} {xs : List V} (k : K0 H H') (h : SqL K H a xs) : SqL K H' a xs := by
  rcases h with (h | ⟨o, h⟩) | h
  · exact .inl (.inl (k.oth _ _ h (fun _ z => by cases z)))
  · exact .inl (.inr ⟨o, k.oth _ _ h (fun _ z => by cases z)⟩)
  · exact .inr h
theorem Kt.sqL {K : PySem.W.Frag} {t a : Addr} {H H' : Hp} {xs : List V} (k : Kt t H H') (n : a ≠ t) (h : SqL K H a xs) : SqL K H' a xs := by
  rcases h with (h | ⟨o, h⟩) | h
  · exact .inl (.inl (k.oth _ _ h n (fun _ z => by cases z)))
  · exact .inl (.inr ⟨o, k.frz _ _ _ h⟩)
  · exact .inr h
mutual
theorem K0.dp {K : PySem.W.Frag} {H H' : Hp} (k : K0 H H') : ∀ (d : PyData) (v : V), Dp K H v d → Dp K H' v d
  | .none, _, h => by cases h; exact .non
  | .bool _, _, h => by cases h; exact .bl _
  | .int _, _, h => by cases h; exact .int _
  | .str _, _, h => by cases h; exact .str _
  | .list ds, _, h => by cases h with | lst a b => exact .lst (k.sqL a) (K0.dpAll k ds _ b)
  | .tuple ds, _, h => by cases h with | tup a b => exact .tup (k.sqT a) (K0.dpAll k ds _ b)
  | .dict _, _, h => by cases h
theorem K0.dpAll {K : PySem.W.Frag} {H H' : Hp} (k : K0 H H') : ∀ (ds : List PyData) (vs : List V), DpAll K H vs ds → DpAll K H' vs ds
  | [], _, h => by cases h; exact .nil
  | d :: ds, _, h => by cases h with | cons a b => exact .cons (K0.dp k d _ a) (K0.dpAll k ds _ b)
end

/-! ### kinds -/
def tys : List String := ["NoneType", "bool", "int", "str", "list", "tuple", "dict"]
theorem tys_int {T : String} (h : T ∈ tys) : kitB T "int" = some (T == "int" || T == "bool") := by
  simp only [tys, List.mem_cons, List.not_mem_nil, or_false] at h
  rcases h with rfl | rfl | rfl | rfl | rfl | rfl | rfl <;> decide +kernel
theorem tys_bool {T : String} (h : T ∈ tys) : kitB T "bool" = some (T == "bool") := by
  simp only [tys, List.mem_cons, List.not_mem_nil, or_false] at h
  rcases h with rfl | rfl | rfl | rfl | rfl | rfl | rfl <;> decide +kernel
theorem tys_tuple {T : String} (h : T ∈ tys) : kitB T "tuple" = some (T == "tuple") := by
  simp only [tys, List.mem_cons, List.not_mem_nil, or_false] at h
  rcases h with rfl | rfl | rfl | rfl | rfl | rfl | rfl <;> decide +kernel
theorem tys_dict {T : String} (h : T ∈ tys) : kitB T "dict" = some (T == "dict") := by
  simp only [tys, List.mem_cons, List.not_mem_nil, or_false] at h
  rcases h with rfl | rfl | rfl | rfl | rfl | rfl | rfl <;> decide +kernel
theorem sqT_ty {K : PySem.W.Frag} {H : Hp} {a : Addr} {xs : List V} (h : SqT K H a xs) : TyX K H (.ref a) (.type "tuple") := by
  rcases h with (h | ⟨o, h⟩) | ⟨o, _, _, ho, h, _⟩
  · exact .base (.tup h)
  · exact .fTuple h
  · exact .kTuple ho h
theorem sqL_ty {K : PySem.W.Frag} {H : Hp} {a : Addr} {xs : List V} (h : SqL K H a xs) : TyX K H (.ref a) (.type "list") := by
  rcases h with (h | ⟨o, h⟩) | ⟨o, _, _, ho, h, _⟩
  · exact .base (.lst h)
  · exact .base (.frz h)
  · exact .kList ho h
def tyD : PyData → String
  | .none => "NoneType" | .bool _ => "bool" | .int _ => "int" | .str _ => "str" | .list _ => "list" | .tuple _ => "tuple" | .dict _ => "dict"
theorem tyD_mem (d : PyData) : tyD d ∈ tys := by cases d <;> simp [tyD, tys]
theorem dp_ty {K : PySem.W.Frag} {H : Hp} {v : V} {d : PyData} (h : Dp K H v d) : TyX K H v (.type (tyD d)) := by
  cases h with
  | non => exact .base .non
  | bl b => exact .base (.bl b)
  | int i => exact .base (.int i)
  | str x => exact .base (.str x)
  | lst a _ => exact sqL_ty a
  | tup a _ => exact sqT_ty a
def isWholeD : PyData → Bool
  | .int _ => true
  | _ => false
def withinD (d : PyData) (lo hi : Int) : Bool := match d with
  | .int i => decide (lo ≤ i) && decide (i ≤ hi)
  | _ => false
theorem whole_ty (d : PyData) : ((tyD d == "int" || tyD d == "bool") && !(tyD d == "bool")) = isWholeD d := by cases d <;> simp [tyD, isWholeD]
theorem dp_int {K : PySem.W.Frag} {H : Hp} {x : V} {d : PyData} (h : Dp K H x d) (e : isWholeD d = true) : ∃ i, x = .int i ∧ d = .int i := by
  cases h <;> first | exact ⟨_, rfl, rfl⟩ | cases e
end HK

set_option Elab.async false
set_option linter.all false
set_option maxRecDepth 100000
set_option maxHeartbeats 2000000
namespace HK
open PySem PySem.Spec PyProof.Rows L2 GAl GxR
def topS (i : Nat) : Stmt := PySem.Challenge.pw_hearkenway_k09_closed_places.main.body.getD i (.Pass ⟨0, 0, 0, 0⟩)
abbrev sWhole : Stmt := topS 5
abbrev sWithin : Stmt := topS 6
abbrev sRises : Stmt := topS 7
abbrev sIsNet : Stmt := topS 13
abbrev sIsRoad : Stmt := topS 14
theorem scWhole : FnScope ["thing"] ["thing"] (defScope sWhole) := ⟨rfl, rfl, rfl, by decide +kernel, rfl, by decide +kernel, by decide +kernel⟩
theorem scWithin : FnScope ["thing", "least", "greatest"] ["thing", "least", "greatest"] (defScope sWithin) := ⟨rfl, rfl, rfl, by decide +kernel, rfl, by decide +kernel, by decide +kernel⟩
theorem scIsRoad : FnScope ["many", "thing", "start", "end", "cost", "late"] ["many", "thing"] (defScope sIsRoad) := ⟨rfl, rfl, rfl, by decide +kernel, rfl, by decide +kernel, by decide +kernel⟩

theorem qeq {Q : VK} {a b : Bool} {H : Hp} (q : Q (.bl a) H) (e : a = b) : Q (.bl b) H := e ▸ q
section
variable {P : Program} {w : World} {K : PySem.W.Frag} {mg : Str → Option Value} {base : Heap}
def spWhole (K : PySem.W.Frag) : Sp := fun vs H Q _ => ∃ x d, vs = [x] ∧ Dp K H x d ∧ Q (.bl (isWholeD d)) H
theorem ok_whole {f : Addr} {fd : FuncData} (F : Fun K "is_whole" "is_whole" sWhole f fd) (mi : mg "isinstance" = none) (mI : mg "int" = none) (mB : mg "bool" = none) : FnOk P w K mg base CX0 1 f fd ["thing"] (spWhole K) := by
  refine F.ok scWhole (fun vs H Q E h => ?_) (fun cdv A outer s H vs Q E hr h => ?_)
  · obtain ⟨x, d, rfl, _⟩ := h
    rfl
  · obtain ⟨x, d, rfl, hd, q⟩ := h
    refine ⟨_, pss_one (ps_ret (pe_and (pe_callB call_isi (by rfl) mi boot_isinstance (pa_cons (pv 0) (pa_cons (pe_bltn (v := .ty "int") (by rfl) mI (by decide +kernel) rfl) pa_nil)))
      (pe_one (pe_not (pe_callB call_isi (by rfl) mi boot_isinstance (pa_cons (pv 0) (pa_cons (pe_bltn (v := .ty "bool") (by rfl) mB (by decide +kernel) rfl) pa_nil))))))), ?_⟩
    refine ⟨x, rfl, x, .ty "int", _, _, _, rfl, .ty "int", dp_ty hd, kit_ty (tys_int (tyD_mem d)), _, rfl, ite2 (fun e => ?_) (fun e => ?_)⟩
    · refine ⟨x, rfl, x, .ty "bool", _, _, _, rfl, .ty "bool", dp_ty hd, kit_ty (tys_bool (tyD_mem d)), _, rfl, ?_⟩
      exact qeq q (by rw [← whole_ty d, e, Bool.true_and])
    · have e' : (tyD d == "int" || tyD d == "bool") = false := by simpa using e
      exact qeq q (by rw [← whole_ty d, e', Bool.false_and])
def spWithin (K : PySem.W.Frag) : Sp := fun vs H Q _ => ∃ x d lo hi, vs = [x, .int lo, .int hi] ∧ Dp K H x d ∧ Q (.bl (withinD d lo hi)) H
theorem ok_within {f fW : Addr} {fd fdW : FuncData} (F : Fun K "is_within" "is_within" sWithin f fd) (FW : Fun K "is_whole" "is_whole" sWhole fW fdW) (bW : Binds K fdW ["thing"] []) (gW : mg "is_whole" = some (.ref fW))
    (GW : FnOk P w K mg base CX0 1 fW fdW ["thing"] (spWhole K)) : FnOk P w K mg base CX0 2 f fd ["thing", "least", "greatest"] (spWithin K) := by
  refine F.ok scWithin (fun vs H Q E h => ?_) (fun cdv A outer s H vs Q E hr h => ?_)
  · obtain ⟨x, d, lo, hi, rfl, _⟩ := h
    rfl
  · obtain ⟨x, d, lo, hi, rfl, hd, q⟩ := h
    refine ⟨_, pss_one (ps_ret (pe_and (pe_call GW hr (by rfl) gW FW.kp bW .nil pass0 (pa_cons (pv 0) pa_nil)) (pe_one (pe_chain op_le op_le (pv 1) (pv 0) (pv 2))))), ?_⟩
    refine ⟨x, rfl, x, d, rfl, hd, _, rfl, ite2 (fun e => ?_) (fun e => ?_)⟩
    · obtain ⟨i, rfl, rfl⟩ := dp_int hd e
      refine ⟨_, rfl, _, rfl, _, _, rfl, rfl, _, rfl, ite2 (fun e1 => ?_) (fun e1 => ?_)⟩
      · refine ⟨_, rfl, _, _, rfl, rfl, ?_⟩
        exact qeq q (by show (decide (lo ≤ i) && decide (i ≤ hi)) = _; rw [e1, Bool.true_and])
      · exact qeq q (by show (decide (lo ≤ i) && decide (i ≤ hi)) = _; simp only [Bool.not_eq_true] at e1; rw [e1, Bool.false_and])
    · exact qeq q (by cases d <;> first | rfl | exact absurd rfl e)
end
end HK

set_option Elab.async false
set_option linter.all false
set_option maxRecDepth 100000
set_option maxHeartbeats 2000000
namespace HK
open PySem PySem.Spec PyProof.Rows L2 GAl GxR
def neD : PyData → PyData → Bool
  | .int a, .int b => !decide (a = b)
  | _, _ => false
def isRoadD (n : Int) : PyData → Bool
  | .tuple [s, e, c, l] => (withinD s 0 (n - 1) && withinD e 0 (n - 1) && neD s e) && (withinD c 0 1000 && withinD l 1 1000)
  | _ => false
theorem dpAll_len {K : PySem.W.Frag} {H : Hp} : ∀ {xs : List V} {ds : List PyData}, DpAll K H xs ds → xs.length = ds.length
  | _, _, .nil => rfl
  | _, _, .cons _ t => by rw [List.length_cons, List.length_cons, dpAll_len t]
theorem within_int {d : PyData} {lo hi : Int} (h : withinD d lo hi = true) : ∃ i, d = .int i ∧ lo ≤ i ∧ i ≤ hi := by
  cases d <;> simp only [withinD] at h <;> first | cases h | skip
  rename_i i
  simp only [Bool.and_eq_true, decide_eq_true_eq] at h
  exact ⟨i, rfl, h.1, h.2⟩
theorem dp_int' {K : PySem.W.Frag} {H : Hp} {x : V} {i : Int} (h : Dp K H x (.int i)) : x = .int i := by cases h; rfl
theorem dp_tup {K : PySem.W.Frag} {H : Hp} {x : V} {ds : List PyData} (h : Dp K H x (.tuple ds)) : ∃ a xs, x = .ref a ∧ SqT K H a xs ∧ DpAll K H xs ds := by cases h with | tup a b => exact ⟨_, _, rfl, a, b⟩

section
variable {P : Program} {w : World} {K : PySem.W.Frag} {mg : Str → Option Value} {base : Heap}
def spRoad (K : PySem.W.Frag) : Sp := fun vs H Q _ => ∃ (n : Int) (x : V) (d : PyData), vs = [.int n, x] ∧ Dp K H x d ∧ Q (.bl (isRoadD n d)) H
theorem ok_road {f fW : Addr} {fd fdW : FuncData} {t1 t2 t3 : Tok} (F : Fun K "is_road" "is_road" sIsRoad f fd) (FW : Fun K "is_within" "is_within" sWithin fW fdW) (bW : Binds K fdW ["thing", "least", "greatest"] []) (gW : mg "is_within" = some (.ref fW))
    (GW : FnOk P w K mg base CX0 2 fW fdW ["thing", "least", "greatest"] (spWithin K)) (mi : mg "isinstance" = none) (mT : mg "tuple" = none) (ml : mg "len" = none)
    (g1 : mg "MOST_PRICE" = some (.int 1000 t1)) (g2 : mg "LEAST_LATE" = some (.int 1 t2)) (g3 : mg "MOST_LATE" = some (.int 1000 t3)) : FnOk P w K mg base CX0 3 f fd ["many", "thing"] (spRoad K) := by
  refine F.ok scIsRoad (fun vs H Q E h => ?_) (fun cdv A outer s H vs Q E hr h => ?_)
  · obtain ⟨n, x, d, rfl, _⟩ := h
    rfl
  · obtain ⟨n, x, d, rfl, hd, q⟩ := h
    refine ⟨_, pss_cons (ps_if (pt_not (PW.pt (pw_and (pt_val (pe_callB call_isi (by rfl) mi boot_isinstance (pa_cons (pv 1) (pa_cons (pe_bltn (v := .ty "tuple") (by rfl) mT (by decide +kernel) rfl) pa_nil))))
        (pw_and1 (pt_cmpR op_eq (pe_callB call_len_seq (by rfl) ml PySem.boot_len (pa_cons (pv 1) pa_nil)) pe_int (nomark _)))))) (pss_one (ps_ret pe_bl)) pss_nil)
      (pss_cons (ps_asg (pv 1) (pg_tup rfl (pgs_cons (pg_name (i := 2) scIsRoad.nd rfl (.inl rfl)) (pgs_cons (pg_name (i := 3) scIsRoad.nd rfl (.inl rfl)) (pgs_cons (pg_name (i := 4) scIsRoad.nd rfl (.inl rfl)) (pgs_cons (pg_name (i := 5) scIsRoad.nd rfl (.inl rfl)) pgs_nil))))))
      (pss_cons (ps_if (pt_not (PW.pt (pw_and (pt_val (pe_call GW hr (by rfl) gW FW.kp bW .nil pass0 (pa_cons (pv 2) (pa_cons pe_int (pa_cons (pe_op op_sub (pv 0) pe_int) pa_nil)))))
        (pw_and (pt_val (pe_call GW hr (by rfl) gW FW.kp bW .nil pass0 (pa_cons (pv 3) (pa_cons pe_int (pa_cons (pe_op op_sub (pv 0) pe_int) pa_nil)))))
          (pw_and1 (pt_cmpR op_ne (pv 2) (pv 3) (nomark _))))))) (pss_one (ps_ret pe_bl)) pss_nil)
      (pss_one (ps_ret (pe_and (pe_call GW hr (by rfl) gW FW.kp bW .nil pass0 (pa_cons (pv 4) (pa_cons pe_int (pa_cons (pe_glob (v := .int 1000) (by rfl) g1 ⟨_, rfl⟩) pa_nil))))
        (pe_one (pe_call GW hr (by rfl) gW FW.kp bW .nil pass0 (pa_cons (pv 5) (pa_cons (pe_glob (v := .int 1) (by rfl) g2 ⟨_, rfl⟩) (pa_cons (pe_glob (v := .int 1000) (by rfl) g3 ⟨_, rfl⟩) pa_nil)))))))))), ?_⟩
    -- isinstance(thing, tuple) and len(thing) == 4
    refine ⟨x, rfl, x, .ty "tuple", _, _, _, rfl, .ty "tuple", dp_ty hd, kit_ty (tys_tuple (tyD_mem d)), _, rfl, ite2 (fun e => ?_) (fun e => ?_)⟩
    · obtain ⟨ds, rfl⟩ : ∃ ds, d = .tuple ds := by cases d <;> first | exact ⟨_, rfl⟩ | (simp [tyD] at e)
      obtain ⟨a, xs, rfl, hq, hall⟩ := dp_tup hd
      refine ⟨.ref a, rfl, a, xs, rfl, .inr hq, rfl, _, rfl, ?_⟩
      by_cases h4 : xs.length = 4
      · rw [decide_eq_true (show (V.int (xs.length : Int)) = .int 4 by rw [h4]; rfl)]
        refine iteF ?_
        have h4' : ds.length = 4 := by rw [← dpAll_len hall]; exact h4
        obtain ⟨s1, e1, c1, l1, rfl⟩ : ∃ s1 e1 c1 l1, ds = [s1, e1, c1, l1] := by
          match ds, h4' with
          | [a, b, c, d], _ => exact ⟨a, b, c, d, rfl⟩
        cases hall with
        | cons d1 hall => cases hall with
          | cons d2 hall => cases hall with
            | cons d3 hall => cases hall with
              | cons d4 hall =>
                cases hall
                rename_i v1 v2 v3 v4
                refine ⟨.ref a, rfl, a, _, rfl, hq, rfl, v1, _, rfl, v2, _, rfl, v3, _, rfl, v4, _, rfl, rfl, ?_⟩
                refine ⟨v1, rfl, .int n, rfl, n, 1, rfl, rfl, v1, s1, 0, n - 1, rfl, d1, _, rfl, ite2 (fun b1 => ?_) (fun b1 => ?_)⟩
                · refine ⟨v2, rfl, .int n, rfl, n, 1, rfl, rfl, v2, e1, 0, n - 1, rfl, d2, _, rfl, ite2 (fun b2 => ?_) (fun b2 => ?_)⟩
                  · obtain ⟨i, rfl, _⟩ := within_int b1
                    obtain ⟨j, rfl, _⟩ := within_int b2
                    obtain rfl := dp_int' d1
                    obtain rfl := dp_int' d2
                    refine ⟨_, rfl, _, rfl, rfl, _, rfl, ?_⟩
                    have hne : (!decide (V.int i = V.int j)) = neD (.int i) (.int j) := by
                      show (!decide (V.int i = V.int j)) = !decide (i = j)
                      congr 1
                      exact decide_eq_decide.mpr ⟨fun z => V.int.inj z, fun z => by rw [z]⟩
                    rw [hne]
                    cases b3 : neD (.int i) (.int j) with
                    | true =>
                      refine iteF ?_
                      refine ⟨v3, rfl, v3, c1, 0, 1000, rfl, d3, _, rfl, ite2 (fun b4 => ?_) (fun b4 => ?_)⟩
                      · refine ⟨v4, rfl, v4, l1, 1, 1000, rfl, d4, ?_⟩
                        exact qeq q (by show ((_ && _ && _) && (_ && _)) = _; rw [b1, b2, b3, b4]; rfl)
                      · simp only [Bool.not_eq_true] at b4
                        exact qeq q (by show ((_ && _ && _) && (_ && _)) = _; rw [b4, Bool.false_and, Bool.and_false])
                    | false =>
                      refine iteT ?_
                      exact qeq q (by show ((_ && _ && _) && (_ && _)) = _; rw [b3, Bool.and_false, Bool.false_and])
                  · simp only [Bool.not_eq_true] at b2
                    refine iteT ?_
                    exact qeq q (by show ((_ && _ && _) && (_ && _)) = _; rw [b2, Bool.and_false, Bool.false_and, Bool.false_and])
                · simp only [Bool.not_eq_true] at b1
                  refine iteT ?_
                  exact qeq q (by show ((_ && _ && _) && (_ && _)) = _; rw [b1, Bool.false_and, Bool.false_and, Bool.false_and])
      · rw [decide_eq_false (show ¬ (V.int (xs.length : Int)) = .int 4 from fun z => h4 (by have := V.int.inj z; omega))]
        refine iteT ?_
        refine qeq q ?_
        have h4' : ds.length ≠ 4 := by rw [← dpAll_len hall]; exact h4
        unfold isRoadD
        split
        · rename_i heq
          cases heq
          exact absurd rfl h4'
        · rfl
    · refine iteT ?_
      refine qeq q ?_
      cases d <;> first | rfl | (exact absurd rfl e)
end
end HK

set_option Elab.async false
set_option linter.all false
set_option maxRecDepth 100000
set_option maxHeartbeats 2000000
namespace HK
open PySem PySem.Spec PyProof.Rows L2 GAl GxR
theorem tyes {σ : L2.St} {H : Hp} {A B : Hp → Prop} (h : A H) : tYes σ H (fun b H3 => if b = true then A H3 else B H3) := by
  show (fun (b : Bool) (H3 : Hp) => if b = true then A H3 else B H3) true H
  simp only [if_true]
  exact h
def risesB (l : List (List Int)) : Bool := (List.range (l.length - 1)).all fun i => HT.lexLt (l.getD i []) (l.getD (i + 1) [])
theorem risesB_yes {l : List (List Int)} (h : ∀ j, j < l.length - 1 → HT.lexLt (l.getD j []) (l.getD (j + 1) []) = true) : risesB l = true := by
  unfold risesB
  rw [List.all_eq_true]
  exact fun j hj => h j (List.mem_range.mp hj)
theorem risesB_no {l : List (List Int)} {j : Nat} (hj : j < l.length - 1) (h : HT.lexLt (l.getD j []) (l.getD (j + 1) []) = false) : risesB l = false := by
  unfold risesB
  rw [Bool.eq_false_iff]
  intro z
  have := List.all_eq_true.mp z j (List.mem_range.mpr hj)
  rw [h] at this
  cases this
theorem cut1 (xs : List V) : cutV xs (some 1) none = xs.drop 1 := by
  unfold cutV
  rw [show HT.sIx xs.length 0 (some 1) = min 1 xs.length from HT.sIx_nat xs.length 0 1, HT.sIx_none]
  cases xs with
  | nil => rfl
  | cons x r =>
    rw [show min 1 (x :: r).length = 1 by
      rw [List.length_cons]
      omega]
    show (List.take ((x :: r).length - 1) r) = r
    rw [List.length_cons, Nat.add_sub_cancel]
    exact List.take_length
theorem scRises : FnScope ["row", "low", "high"] ["row"] (defScope sRises) := ⟨rfl, rfl, rfl, by decide +kernel, rfl, by decide +kernel, by decide +kernel⟩
section
variable {P : Program} {w : World} {K : PySem.W.Frag} {mg : Str → Option Value} {base : Heap}
/-- the list at a holds tuples of ints -/
def TupsAt (K : PySem.W.Frag) (H : Hp) (xs : List V) (l : List (List Int)) : Prop := xs.length = l.length ∧ ∀ (i : Nat) (x : V), xs[i]? = some x → ∃ t, x = .ref t ∧ SqT K H t ((l.getD i []).map V.int)
theorem TupsAt.k0 {H H' : Hp} {xs : List V} {l : List (List Int)} (h : TupsAt K H xs l) (k : K0 H H') : TupsAt K H' xs l := ⟨h.1, fun i x e => by
  obtain ⟨t, e, s⟩ := h.2 i x e
  exact ⟨t, e, k.sqT s⟩⟩
def spRises (K : PySem.W.Frag) (Pr : Addr) : Sp := fun vs H Q _ => ∃ (a : Addr) (xs : List V) (l : List (List Int)), vs = [.ref a] ∧ SqL K H a xs ∧ TupsAt K H xs l ∧ TabG H Pr ∧ ∀ H', K0 H H' → Q (.bl (risesB l)) H'
theorem ok_rises {f c Pr : Addr} {fd : FuncData} (F : FunC K "rises" "rises" sRises f fd c) (TB : TabB base mg c Pr) (mz : mg "zip" = none) (ma : mg "all" = none) : FnOk P w K mg base CX0 2 f fd ["row"] (spRises K Pr) := by
  refine F.ok scRises (fun vs H Q E h => ?_) (fun A outer s H vs Q E hr h => ?_)
  · obtain ⟨a, xs, l, rfl, _⟩ := h
    rfl
  · obtain ⟨a, xs, l, rfl, hS, hT, hP, q⟩ := h
    refine ⟨_, pss_one (ps_ret (pe_allG (own := [("low", 1), ("high", 2)]) (k := 0) (g := gTup K 2 (gCons (gName 1) (gCons (gName 2) gNil))) (tt := tYes) (te := tOp (rLtT K) (tVar 1) (tVar 2)) hr (by rfl) ma rfl scRises.nd TB rfl (gsc_by (N := ["row", "low", "high"]) (sc := defScope sRises) (by decide +kernel))
      (pi_zip (by rfl) mz (pa_cons (pv 0) (pa_cons (pe_slice sl_list (pv 0) (po_some pe_int) po_none) pa_nil)))
      (fun A' hr' _ _ _ _ _ _ => pg_tup rfl (pgs_cons (pg_name (i := 1) scRises.nd rfl (.inl rfl)) (pgs_cons (pg_name (i := 2) scRises.nd rfl (.inl rfl)) pgs_nil)))
      (fun A' hr' _ _ _ _ _ _ => pts_nil)
      (fun A' hr' _ _ _ _ _ _ => pe_cmpR (op_ltT hr'.units0) (pv 1) (pv 2) (nomark _)))), ?_⟩
    refine ⟨.ref a, rfl, .ref a, rfl, 1, rfl, a, xs, rfl, hS, fun c nc => ?_⟩
    have k1 : K0 H (upd H c (.lst (cutV xs (some 1) none))) := K0.new nc
    refine ⟨a, c, xs, _, rfl, k1.sqL hS, .inl (.inl upd_same), k1.tab _ hP, fun H2 hT2 => ?_⟩
    have k2 : K0 H H2 := k1.trans (K0.tbd (k1.tab _ hP) hT2)
    have hc2 : H2 c = some (.lst (xs.drop 1)) := by
      have := (K0.tbd (k1.tab _ hP) hT2).oth c _ upd_same (fun _ z => by cases z)
      rw [cut1] at this
      exact this
    refine ⟨fun i m H3 => i + m = xs.length - 1 ∧ K0 H H3 ∧ H3 c = some (.lst (xs.drop 1)) ∧ ∀ j, j < i → HT.lexLt (l.getD j []) (l.getD (j + 1) []) = true, ⟨xs.length - 1, by omega, k2, hc2, fun j hj => absurd hj (Nat.not_lt_zero _)⟩, fun i m H3 hW => ?_⟩
    obtain ⟨em, k3, ec, hlt⟩ := hW
    have hA : SqL K H3 a xs := k3.sqL hS
    have hC : SqL K H3 c (xs.drop 1) := .inl (.inl ec)
    by_cases hi : i < xs.length - 1
    · have h1 : i < xs.length := by omega
      have h2 : i + 1 < xs.length := by omega
      have g1 : xs[i]? = some xs[i] := List.getElem?_eq_getElem h1
      have g2 : (xs.drop 1)[i]? = some xs[i + 1] := by rw [List.getElem?_drop, Nat.add_comm 1 i]; exact List.getElem?_eq_getElem h2
      refine .inr ⟨⟨_, _, _, _, hA, hC, g1, g2⟩, fun H' => K0 H H' ∧ H' c = some (.lst (xs.drop 1)) ∧ HT.lexLt (l.getD i []) (l.getD (i + 1) []) = true, fun H' hN => ?_, fun x H' hy => ?_⟩
      · obtain ⟨k', ec', hl'⟩ := hN
        refine ⟨m - 1, by omega, by omega, k', ec', fun j hj => ?_⟩
        by_cases e : j = i
        · rw [e]; exact hl'
        · exact hlt j (by omega)
      · obtain ⟨T, x1, x2, rfl, nT, rfl, f1, f2⟩ := hy
        have ex1 : x1 = xs[i] := Option.some.inj ((f1 _ hA).symm.trans g1)
        have ex2 : x2 = xs[i + 1] := Option.some.inj ((f2 _ hC).symm.trans g2)
        have kT : K0 H3 (upd H3 T (.tup [x1, x2])) := K0.new nT
        obtain ⟨t1, e1, s1⟩ := hT.2 i x1 (by rw [ex1]; exact g1)
        obtain ⟨t2, e2, s2⟩ := hT.2 (i + 1) x2 (by rw [ex2]; exact List.getElem?_eq_getElem h2)
        refine ⟨T, [x1, x2], rfl, .inl (.inl upd_same), rfl, x1, [x2], rfl, x2, [], rfl, rfl, rfl, ?_⟩
        refine tyes ?_
        have k4 := k3.trans kT
        refine ⟨x1, rfl, x2, rfl, t1, t2, _, _, e1, e2, k4.sqT s1, k4.sqT s2, _, rfl, ?_⟩
        cases hb : HT.lexLt (l.getD i []) (l.getD (i + 1) []) with
        | true => exact iteT ⟨k4, kT.oth c _ ec (fun _ z => by cases z), rfl⟩
        | false => exact iteF (qeq (q _ k4) (risesB_no (by rw [← hT.1]; exact hi) hb))
    · refine .inl ⟨⟨_, _, hA, hC, .inr (by rw [List.length_drop]; omega)⟩, ?_⟩
      exact qeq (q _ k3) (risesB_yes fun j hj => hlt j (by rw [← hT.1] at hj; omega))
end
end HK

set_option Elab.async false
set_option linter.all false
set_option maxRecDepth 100000
set_option maxHeartbeats 2000000
namespace HK
open PySem PySem.Spec PyProof.Rows L2 GAl GxR
def pairD : PyData → List Int
  | .tuple (.int s :: .int e :: _) => [s, e]
  | _ => []
def isNetD : PyData → Bool
  | .tuple [.int m, .tuple rs] => (decide (1 ≤ m) && decide (m ≤ 12)) && (rs.all (isRoadD m) && risesB (rs.map pairD))
  | _ => false
theorem road_ints {n : Int} {d : PyData} (h : isRoadD n d = true) : ∃ s e c l : Int, d = .tuple [.int s, .int e, .int c, .int l] ∧ 0 ≤ s ∧ s ≤ n - 1 ∧ 0 ≤ e ∧ e ≤ n - 1 ∧ s ≠ e ∧ 0 ≤ c ∧ c ≤ 1000 ∧ 1 ≤ l ∧ l ≤ 1000 := by
  unfold isRoadD at h
  split at h
  · rename_i s e c l
    simp only [Bool.and_eq_true] at h
    obtain ⟨⟨⟨h1, h2⟩, h3⟩, h4, h5⟩ := h
    obtain ⟨i, rfl, a1, a2⟩ := within_int h1
    obtain ⟨j, rfl, b1, b2⟩ := within_int h2
    obtain ⟨k, rfl, c1, c2⟩ := within_int h4
    obtain ⟨q, rfl, d1, d2⟩ := within_int h5
    refine ⟨i, j, k, q, rfl, a1, a2, b1, b2, fun z => ?_, c1, c2, d1, d2⟩
    rw [z] at h3
    simp [neD] at h3
  · cases h
theorem dp_ints4 {K : PySem.W.Frag} {H : Hp} {x : V} {s e c l : Int} (h : Dp K H x (.tuple [.int s, .int e, .int c, .int l])) : ∃ a, x = .ref a ∧ SqT K H a [.int s, .int e, .int c, .int l] := by
  obtain ⟨a, xs, rfl, hq, hall⟩ := dp_tup h
  cases hall with
  | cons d1 hall => cases hall with
    | cons d2 hall => cases hall with
      | cons d3 hall => cases hall with
        | cons d4 hall =>
          cases hall
          obtain rfl := dp_int' d1
          obtain rfl := dp_int' d2
          obtain rfl := dp_int' d3
          obtain rfl := dp_int' d4
          exact ⟨a, rfl, hq⟩
theorem dpAll_get {K : PySem.W.Frag} {H : Hp} : ∀ {xs : List V} {ds : List PyData} {i : Nat} {x : V}, DpAll K H xs ds → xs[i]? = some x → ∃ d, ds[i]? = some d ∧ Dp K H x d
  | _, _, _, _, .nil, e => by simp at e
  | _, _, 0, _, .cons h _, e => by simp at e; subst e; exact ⟨_, rfl, h⟩
  | _, _, i + 1, x, .cons _ t, e => by
    obtain ⟨d, h1, h2⟩ := dpAll_get (i := i) (x := x) t (by simpa using e)
    exact ⟨d, by simpa using h1, h2⟩
theorem K0.mut {H H' : Hp} {p : Addr} {o : HO} (k : K0 H H') (n : H p = none) : K0 H (upd H' p o) := ⟨fun b u e m => by
  rw [upd_ne (ne_of_none e n)]; exact k.oth b u e m, fun P h => by
  obtain ⟨ps, e, ht⟩ := h
  obtain ⟨ps', e', ht'⟩ := k.tab P ⟨ps, e, ht⟩
  exact ⟨ps', by rw [upd_ne (ne_of_none e n)]; exact e', ht'⟩, fun b e => k.dom b (upd_none e)⟩
theorem TupsAt.kt {K : PySem.W.Frag} {t : Addr} {H H' : Hp} {xs : List V} {l : List (List Int)} (h : TupsAt K H xs l) (k : Kt t H H') : TupsAt K H' xs l := ⟨h.1, fun i x e => by
  obtain ⟨t, e, s⟩ := h.2 i x e
  exact ⟨t, e, k.sqT s⟩⟩
theorem TupsAt.snoc {K : PySem.W.Frag} {H : Hp} {xs : List V} {l : List (List Int)} {t : Addr} {ns : List Int} (h : TupsAt K H xs l) (s : SqT K H t (ns.map V.int)) : TupsAt K H (xs ++ [.ref t]) (l ++ [ns]) := by
  refine ⟨by simp [h.1], fun i x e => ?_⟩
  by_cases hi : i < xs.length
  · rw [List.getElem?_append_left hi] at e
    obtain ⟨t', e', s'⟩ := h.2 i x e
    refine ⟨t', e', ?_⟩
    have : (l ++ [ns]).getD i [] = l.getD i [] := by
      simp only [List.getD_eq_getElem?_getD]
      rw [List.getElem?_append_left (by rw [← h.1]; exact hi)]
    rw [this]; exact s'
  · have hx : i = xs.length := by
      have : i < (xs ++ [V.ref t]).length := (List.getElem?_eq_some_iff.mp e).1
      rw [List.length_append, List.length_singleton] at this
      omega
    subst hx
    rw [List.getElem?_append_right (Nat.le_refl _), Nat.sub_self] at e
    have e : V.ref t = x := Option.some.inj e
    refine ⟨t, e.symm, ?_⟩
    have : (l ++ [ns]).getD xs.length [] = ns := by
      simp only [List.getD_eq_getElem?_getD]
      rw [h.1, List.getElem?_append_right (Nat.le_refl _), Nat.sub_self]; rfl
    rw [this]; exact s
theorem scIsNet : FnScope ["thing", "many", "roads", "road"] ["thing"] (defScope sIsNet) := ⟨rfl, rfl, rfl, by decide +kernel, rfl, by decide +kernel, by decide +kernel⟩
theorem all_no {rs : List PyData} {p : PyData → Bool} {i : Nat} {d : PyData} (h : rs[i]? = some d) (hd : p d = false) : rs.all p = false := by
  rw [Bool.eq_false_iff]
  intro z
  have := List.all_eq_true.mp z d (List.mem_of_getElem? h)
  rw [hd] at this; cases this
theorem all_yes {rs : List PyData} {p : PyData → Bool} (h : ∀ (j : Nat) (d : PyData), rs[j]? = some d → p d = true) : rs.all p = true := by
  rw [List.all_eq_true]
  intro d hd
  obtain ⟨j, hj, e⟩ := List.getElem_of_mem hd
  exact h j d (by rw [← e]; exact List.getElem?_eq_getElem hj)

section
variable {P : Program} {w : World} {K : PySem.W.Frag} {mg : Str → Option Value} {base : Heap}
def NetAns (K : PySem.W.Frag) (H : Hp) (v : V) (b : Bool) : Prop := (∃ d, Dp K H v d ∧ (∀ m rs, d = .tuple [m, .tuple rs] → rs.length ≤ 1000) ∧ b = isNetD d) ∨ (∃ T, T ∈ tys ∧ TyX K H v (.type T) ∧ (T == "tuple") = false ∧ b = false)
def spIsNet (K : PySem.W.Frag) (Pn Pr : Addr) : Sp := fun vs H Q _ => ∃ (v : V) (b : Bool), vs = [v] ∧ NetAns K H v b ∧ TabG H Pn ∧ TabG H Pr ∧ ∀ H', K0 H H' → Q (.bl b) H'
theorem ok_isnet {f c Pn Pr fW fR fS : Addr} {fd fdW fdR fdS : FuncData} {t1 : Tok} (F : FunC K "is_net" "is_net" sIsNet f fd c) (TB : TabB base mg c Pn)
    (kW : PySem.W.keepIn K (.ref fW) = true) (bW : Binds K fdW ["thing", "least", "greatest"] []) (gW : mg "is_within" = some (.ref fW)) (GW : FnOk P w K mg base CX0 2 fW fdW ["thing", "least", "greatest"] (spWithin K))
    (kR : PySem.W.keepIn K (.ref fR) = true) (bR : Binds K fdR ["many", "thing"] []) (gR : mg "is_road" = some (.ref fR)) (GR : FnOk P w K mg base CX0 3 fR fdR ["many", "thing"] (spRoad K))
    (kS : PySem.W.keepIn K (.ref fS) = true) (bS : Binds K fdS ["row"] []) (gS : mg "rises" = some (.ref fS)) (GS : FnOk P w K mg base CX0 2 fS fdS ["row"] (spRises K Pr))
    (mi : mg "isinstance" = none) (mT : mg "tuple" = none) (ml : mg "len" = none) (ma : mg "all" = none) (g1 : mg "MOST_PLACES" = some (.int 12 t1)) : FnOk P w K mg base CX0 5 f fd ["thing"] (spIsNet K Pn Pr) := by
  refine F.ok scIsNet (fun vs H Q E h => ?_) (fun A outer s H vs Q E hr h => ?_)
  · obtain ⟨v, b, rfl, _⟩ := h
    rfl
  · obtain ⟨v, b, rfl, hA, hPn, hPr, q⟩ := h
    refine ⟨_, pss_cons (ps_if (pt_not (PW.pt (pw_and (pt_val (pe_callB call_isi (by rfl) mi boot_isinstance (pa_cons (pv 0) (pa_cons (pe_bltn (v := .ty "tuple") (by rfl) mT (by decide +kernel) rfl) pa_nil))))
        (pw_and1 (pt_cmpR op_eq (pe_callB call_len_seq (by rfl) ml PySem.boot_len (pa_cons (pv 0) pa_nil)) pe_int (nomark _)))))) (pss_one (ps_ret pe_bl)) pss_nil)
      (pss_cons (ps_asg (pv 0) (pg_tup rfl (pgs_cons (pg_name (i := 1) scIsNet.nd rfl (.inr rfl)) (pgs_cons (pg_name (i := 2) scIsNet.nd rfl (.inl rfl)) pgs_nil))))
      (pss_cons (ps_if (pt_not (PW.pt (pw_and (pt_val (pe_call GW (hr.mono (by decide)) (by rfl) gW kW bW .nil pass0 (pa_cons (pv 1) (pa_cons pe_int (pa_cons (pe_glob (v := .int 12) (by rfl) g1 ⟨_, rfl⟩) pa_nil)))))
        (pw_and1 (pt_val (pe_callB call_isi (by rfl) mi boot_isinstance (pa_cons (pv 2) (pa_cons (pe_bltn (v := .ty "tuple") (by rfl) mT (by decide +kernel) rfl) pa_nil)))))))) (pss_one (ps_ret pe_bl)) pss_nil)
      (pss_cons (ps_if (pt_not (pt_val (pe_allG (own := [("road", 3)]) (k := 3) (g := gName 3) (tt := tYes) (te := tCall (spRoad K) [] E0 (tCons (tVar 1) (tCons (tVar 3) tNil))) hr (by rfl) ma rfl scIsNet.nd TB rfl (gsc_by (N := ["thing", "many", "roads", "road"]) (sc := defScope sIsNet) (by decide +kernel))
          (pi_tup (pv 2)) (fun A' hr' _ _ _ _ _ _ => pg_name (i := 3) scIsNet.nd rfl (.inl rfl)) (fun A' hr' _ _ _ _ _ _ => pts_nil)
          (fun A' hr' _ _ _ _ _ _ => pe_call GR hr' (by rfl) gR kR bR .nil pass0 (pa_cons (pv 1) (pa_cons (pv 3) pa_nil)))))) (pss_one (ps_ret pe_bl)) pss_nil)
      (pss_one (ps_ret (pe_call GS (hr.mono (by decide)) (by rfl) gS kS bS .nil pass0 (pa_cons (pe_lc (own := [("road", 3)]) (g := gName 3) (tt := tYes) (te := tSl (rSlT K) (tVar 3) tNoPart (tPart (tC (.int 2)))) rfl scIsNet.nd (pi_tup (pv 2))
          (blkOk_by (N := ["thing", "many", "roads", "road"]) (sc := defScope sIsNet) (by decide +kernel)) (fun _ _ _ _ _ => pg_name (i := 3) scIsNet.nd rfl (Or.inl rfl)) (fun _ _ _ _ _ => pts_nil)
          (fun _ _ _ _ _ => pe_slice sl_tup (pv 3) po_none (po_some pe_int))) pa_nil))))))), ?_⟩
    rcases hA with ⟨d, hd, hsz, rfl⟩ | ⟨T, hT, hty, hne, rfl⟩
    · refine ⟨v, rfl, v, .ty "tuple", _, _, _, rfl, .ty "tuple", dp_ty hd, kit_ty (tys_tuple (tyD_mem d)), _, rfl, ite2 (fun e => ?_) (fun e => ?_)⟩
      · obtain ⟨ds, rfl⟩ : ∃ ds, d = .tuple ds := by cases d <;> first | exact ⟨_, rfl⟩ | (simp [tyD] at e)
        obtain ⟨a, xs, rfl, hq, hall⟩ := dp_tup hd
        refine ⟨.ref a, rfl, a, xs, rfl, .inr hq, rfl, _, rfl, ?_⟩
        by_cases h4 : xs.length = 2
        · rw [decide_eq_true (show (V.int (xs.length : Int)) = .int 2 by rw [h4]; rfl)]
          refine iteF ?_
          have h4' : ds.length = 2 := by rw [← dpAll_len hall]; exact h4
          obtain ⟨dm, dr, rfl⟩ : ∃ dm dr, ds = [dm, dr] := by
            match ds, h4' with
            | [a, b], _ => exact ⟨a, b, rfl⟩
          cases hall with
          | cons d1 hall => cases hall with
            | cons d2 hall =>
              cases hall
              rename_i v1 v2
              refine ⟨.ref a, rfl, a, _, rfl, hq, rfl, v1, _, rfl, v2, _, rfl, rfl, ?_⟩
              refine ⟨v1, rfl, v1, dm, 1, 12, rfl, d1, _, rfl, ite2 (fun b1 => ?_) (fun b1 => ?_)⟩
              · obtain ⟨m, rfl, m1, m2⟩ := within_int b1
                obtain rfl := dp_int' d1
                refine ⟨v2, rfl, v2, .ty "tuple", _, _, _, rfl, .ty "tuple", dp_ty d2, kit_ty (tys_tuple (tyD_mem dr)), _, rfl, ?_⟩
                cases hb2 : (tyD dr == "tuple") with
                | false =>
                  refine iteT (qeq (q _ (K0.refl _)) ?_)
                  cases dr <;> first | rfl | (simp [tyD] at hb2)
                | true =>
                  refine iteF ?_
                  obtain ⟨rs, rfl⟩ : ∃ ds, dr = .tuple ds := by cases dr <;> first | exact ⟨_, rfl⟩ | (simp [tyD] at hb2)
                  obtain ⟨r, ys, rfl, hqr, hallr⟩ := dp_tup d2
                  have hm : isNetD (.tuple [.int m, .tuple rs]) = (rs.all (isRoadD m) && risesB (rs.map pairD)) := by
                    show ((decide (1 ≤ m) && decide (m ≤ 12)) && _) = _
                    rw [decide_eq_true m1, decide_eq_true m2, Bool.true_and, Bool.true_and]
                  rw [hm] at q
                  have hlen : ys.length = rs.length := dpAll_len hallr
                  -- all(is_road(many, road) for road in roads)
                  refine ⟨.ref r, rfl, r, rfl, ⟨_, hqr⟩, hPn, fun H2 hT2 => ?_⟩
                  have k2 : K0 H H2 := K0.tbd hPn hT2
                  refine ⟨fun i mm H3 => i + mm = ys.length ∧ K0 H H3 ∧ ∀ (j : Nat) (d : PyData), j < i → rs[j]? = some d → isRoadD m d = true, ⟨ys.length, by omega, k2, fun j _ hj => absurd hj (Nat.not_lt_zero _)⟩, fun i mm H3 hW => ?_⟩
                  obtain ⟨em, k3, hlt⟩ := hW
                  have hY : SqT K H3 r ys := k3.sqT hqr
                  by_cases hi : i < ys.length
                  · have g1 : ys[i]? = some ys[i] := List.getElem?_eq_getElem hi
                    obtain ⟨di, hdi, hDi⟩ := dpAll_get hallr g1
                    refine .inr ⟨⟨_, _, hY, g1⟩, fun H' => K0 H H' ∧ isRoadD m di = true, fun H' hN => ?_, fun x H' hy => ?_⟩
                    · obtain ⟨k', hb'⟩ := hN
                      refine ⟨mm - 1, by omega, by omega, k', fun j d hj hd => ?_⟩
                      by_cases e : j = i
                      · subst e
                        rw [hdi] at hd; cases hd; exact hb'
                      · exact hlt j d (by omega) hd
                    · obtain ⟨rfl, fx⟩ := hy
                      have ex : x = ys[i] := Option.some.inj ((fx _ hY).symm.trans g1)
                      subst ex
                      refine ⟨rfl, tyes ?_⟩
                      refine ⟨.int m, rfl, _, rfl, m, _, di, rfl, K0.dp k3 di _ hDi, _, rfl, ?_⟩
                      cases hb3 : isRoadD m di with
                      | true => exact iteT ⟨k3, rfl⟩
                      | false =>
                        refine iteF ⟨_, rfl, iteT (qeq (q _ k3) ?_)⟩
                        rw [all_no hdi hb3, Bool.false_and]
                  · refine .inl ⟨⟨_, hY, by omega⟩, _, rfl, iteF ?_⟩
                    have hallR : ∀ (j : Nat) (d : PyData), rs[j]? = some d → isRoadD m d = true := fun j d hd => hlt j d (by
                      have := (List.getElem?_eq_some_iff.mp hd).1
                      omega) hd
                    have hat : rs.all (isRoadD m) = true := all_yes hallR
                    rw [hat, Bool.true_and] at q
                    -- rises([road[:2] for road in roads])
                    refine ⟨.ref r, rfl, r, rfl, ⟨_, hY⟩, fun D nD => lc_tup (K := K) (a := r) (xs := ys) (fun i H4 => K0 H3 H4 ∧ ∃ zs, H4 D = some (.lst zs) ∧ TupsAt K H4 zs ((rs.take i).map pairD)) ⟨K0.new nD, [], upd_same, rfl, fun i x e => by simp at e⟩ (fun i H4 _ h => h.1.sqT hY) (fun i x H4 hx h => ?_) (fun H4 h => ?_)⟩
                    · obtain ⟨k4, zs, ez, hz⟩ := h
                      obtain ⟨di, hdi, hDi⟩ := dpAll_get hallr hx
                      obtain ⟨s1, e1, c1, l1, rfl, _⟩ := road_ints (hallR i di hdi)
                      obtain ⟨ar, rfl, hqa⟩ := dp_ints4 (K0.dp (k3.trans k4) _ _ hDi)
                      refine ⟨rfl, tyes ?_⟩
                      refine ⟨.ref ar, rfl, 2, rfl, ar, _, rfl, hqa, fun z => absurd z.2 (by show ¬ (HT.sIx 4 4 (some 2) = 4); decide), fun p np => ?_⟩
                      have kp : K0 H4 (upd H4 p (.tup (cutV [.int s1, .int e1, .int c1, .int l1] none (some 2)))) := K0.new np
                      have ez' := kp.oth D _ ez (fun _ z => by cases z)
                      have hl : zs.length ≤ rs.length := by
                        rw [hz.1, List.length_map, List.length_take]; omega
                      refine ⟨zs, ez', small1000 (Nat.le_trans hl (hsz _ _ rfl)), ?_⟩
                      refine ⟨(k4.trans kp).mut nD, zs ++ [.ref p], upd_same, ?_⟩
                      have : (rs.take (i + 1)).map pairD = (rs.take i).map pairD ++ [[s1, e1]] := by
                        rw [List.take_add_one, hdi, List.map_append]; rfl
                      rw [this]
                      refine TupsAt.snoc ((hz.k0 kp).kt (Kt.set ez')) ?_
                      exact (Kt.set ez').sqT (.inl (.inl upd_same))
                    · obtain ⟨k4, zs, ez, hz⟩ := h
                      rw [hlen, List.take_length] at hz
                      exact ⟨D, zs, _, rfl, .inl (.inl ez), hz, (k3.trans k4).tab _ hPr, fun H5 k5 => q _ ((k3.trans k4).trans k5)⟩
              · simp only [Bool.not_eq_true] at b1
                refine iteT (qeq (q _ (K0.refl _)) ?_)
                unfold isNetD
                split
                · rename_i heq
                  cases heq
                  show (withinD (.int _) 1 12 && _) = false
                  rw [b1, Bool.false_and]
                · rfl
        · rw [decide_eq_false (show ¬ (V.int (xs.length : Int)) = .int 2 from fun z => h4 (by have := V.int.inj z; omega))]
          refine iteT (qeq (q _ (K0.refl _)) ?_)
          have h4' : ds.length ≠ 2 := by rw [← dpAll_len hall]; exact h4
          unfold isNetD
          split
          · rename_i heq
            cases heq
            exact absurd rfl h4'
          · rfl
      · refine iteT (qeq (q _ (K0.refl _)) ?_)
        cases d <;> first | rfl | (exact absurd rfl e)
    · refine ⟨v, rfl, v, .ty "tuple", _, _, _, rfl, .ty "tuple", hty, kit_ty (tys_tuple hT), _, rfl, ?_⟩
      rw [hne]
      exact iteF (iteT (q _ (K0.refl _)))
end
end HK

set_option Elab.async false
set_option linter.all false
set_option maxRecDepth 100000
set_option maxHeartbeats 2000000
namespace HK
open PySem PySem.Spec PyProof.Rows L2 GAl GxR
open Evl (pss_cut)
abbrev sSpread : Stmt := topS 24
abbrev sDigit : Stmt := topS 25
abbrev sSome : Stmt := topS 26
theorem scSpread : FnScope ["cell", "place", "mixed", "other"] ["cell", "place"] (defScope sSpread) := ⟨rfl, rfl, rfl, by decide +kernel, rfl, by decide +kernel, by decide +kernel⟩
theorem scDigit : FnScope ["tape", "many", "place", "cell", "found"] ["tape", "many"] (defScope sDigit) := ⟨rfl, rfl, rfl, by decide +kernel, rfl, by decide +kernel, by decide +kernel⟩
theorem scSome : FnScope ["tape", "row"] ["tape", "row"] (defScope sSome) := ⟨rfl, rfl, rfl, by decide +kernel, rfl, by decide +kernel, by decide +kernel⟩
theorem dpInts {K : PySem.W.Frag} {H : Hp} : ∀ ns : List Int, DpAll K H (ns.map V.int) (ns.map PyData.int)
  | [] => .nil
  | n :: ns => .cons (.int n) (dpInts ns)
/-- the script, at s: written, locked, or a list apart from the tape's at t -/
def Scr (K : PySem.W.Frag) (t : Addr) (H : Hp) (s : Addr) (ns : List Int) : Prop := (H s = some (.lst (ns.map V.int)) ∧ s ≠ t) ∨ (∃ o, H s = some (.frz o (.lst (ns.map V.int)))) ∨
  ∃ (o : Obj) (its : Array Value) (n : Nat), K.lookup s = some o ∧ o.cls = .type "list" ∧ o.dict = none ∧ o.data = .seq its n ∧ its.size ≤ sizeLine ∧ Vals (ns.map V.int) its.toList
theorem Scr.sq {K : PySem.W.Frag} {t : Addr} {H : Hp} {s : Addr} {ns : List Int} (h : Scr K t H s ns) : SqL K H s (ns.map V.int) := by
  rcases h with ⟨h, _⟩ | h | h
  · exact .inl (.inl h)
  · exact .inl (.inr h)
  · exact .inr h
theorem Scr.kt {K : PySem.W.Frag} {t : Addr} {H H' : Hp} {s : Addr} {ns : List Int} (h : Scr K t H s ns) (k : Kt t H H') : Scr K t H' s ns := by
  rcases h with ⟨h, n⟩ | ⟨o, h⟩ | h
  · exact .inl ⟨k.oth _ _ h n (fun _ z => by cases z), n⟩
  · exact .inr (.inl ⟨o, k.frz _ _ _ h⟩)
  · exact .inr (.inr h)
theorem Scr.of {K : PySem.W.Frag} {t : Addr} {H : Hp} {s : Addr} {ns : List Int} {o : HO} (h : SqL K H s (ns.map V.int)) (n : H t = none) : Scr K t (upd H t o) s ns := by
  rcases h with (h | ⟨o', h⟩) | h
  · have z := ne_of_none h n
    exact .inl ⟨by rw [upd_ne z]; exact h, z⟩
  · have z := ne_of_none h n
    exact .inr (.inl ⟨o', by rw [upd_ne z]; exact h⟩)
  · exact .inr (.inr h)
/-- the tape: the script, the next place, what is left of the number -/
def TapeV (H : Hp) (t s : Addr) : Prop := ∃ p v : Int, H t = some (.lst [.ref s, .int p, .int v]) ∧ 0 ≤ p ∧ 0 ≤ v
structure Tape (K : PySem.W.Frag) (H : Hp) (t s : Addr) (ns : List Int) : Prop where
  v : TapeV H t s
  scr : Scr K t H s ns
theorem canLay_ints : ∀ ns : List Int, SeqAt.shaped (.list (ns.map PyData.int)) = true := PySem.W.shaped_ints
theorem eqv_nil (ns : List Int) : PyData.eqv (.list (ns.map PyData.int)) (.list []) = ns.isEmpty := by
  cases ns <;> simp [PyData.eqv, PyData.eqvAll]
section
variable {P : Program} {w : World} {K : PySem.W.Frag} {mg : Str → Option Value} {base : Heap}
def spSpread : Sp := fun vs H Q _ => ∃ cell place : Int, vs = [.int cell, .int place] ∧ 0 ≤ place ∧ ∀ v : Int, 0 ≤ v → Q (.int v) H
theorem mulR {i j : Int} (h : -(2 ^ 64) < j) (h2 : j < 2 ^ 64) : CMul i j := .inr ⟨h, h2⟩
theorem mulL {i j : Int} (h : -(2 ^ 64) < i) (h2 : i < 2 ^ 64) : CMul i j := .inl ⟨h, h2⟩
theorem ok_spread {f : Addr} {fd : FuncData} (F : Fun K "_law_b_spread" "_law_b_spread" sSpread f fd) : FnOk P w K mg base CX0 1 f fd ["cell", "place"] spSpread := by
  refine F.ok scSpread (fun vs H Q E h => ?_) (fun cdv A outer s H vs Q E hr h => ?_)
  · obtain ⟨a, b, rfl, _⟩ := h
    rfl
  · obtain ⟨cell, place, rfl, hp, q⟩ := h
    refine ⟨_, pss_cons (ps_if (pt_cmpR op_ge (pv 0) (pe_op op_pow pe_int pe_int) (nomark _)) (pss_one (ps_ret (pv 0))) pss_nil)
      (pss_cut (ps_set (i := 2) scSpread.nd rfl (.inl rfl) (pe_op op_mod (pe_op op_add (pe_op op_add (pe_op op_mul (pe_op op_mod (pv 0) pe_int) pe_int) (pe_op op_mul (pv 1) pe_int)) pe_int) pe_int))
      (pss_cut (ps_set (i := 2) scSpread.nd rfl (.inl rfl) (pe_op op_mod (pe_op op_add (pe_op op_add (pe_op op_mul (pv 2) (pv 2)) (pe_op op_mul pe_int (pv 1))) pe_int) pe_int))
      (pss_cut (ps_set (i := 3) scSpread.nd rfl (.inl rfl) (pe_op op_mod (pe_op op_add (pe_op op_add (pe_op op_mul (pv 2) (pv 2)) (pe_op op_mul pe_int (pv 2))) (pv 1)) pe_int))
      (pss_one (ps_ret (pe_op op_add (pe_op op_mul (pv 2) pe_int) (pv 3))))))), ?_⟩
    refine ⟨.int cell, rfl, 10, 18, rfl, rfl, ⟨by decide, by decide, by decide⟩, cell, _, rfl, rfl, _, rfl, ite2 (fun e => ?_) (fun e => ?_)⟩
    · refine ⟨.int cell, rfl, q cell ?_⟩
      have h1 : (10 : Int) ^ (18 : Int).toNat ≤ cell := of_decide_eq_true e
      have h2 : (0 : Int) ≤ (10 : Int) ^ (18 : Int).toNat := by decide
      omega
    · refine ⟨fun σ' H' => ∃ m : Int, σ' = [some (.int cell), some (.int place), some (.int m), none] ∧ H' = H ∧ 0 ≤ m ∧ m < 2147483629, ?_, ?_⟩
      · exact ⟨.int cell, rfl, cell, 2147483647, rfl, rfl, (show (0 : Int) < 2147483647 by decide), _, 16807, rfl, rfl, mulR (by decide) (by decide), .int place, rfl, place, 62089911, rfl, rfl, mulR (by decide) (by decide), _, _, rfl, rfl, _, 12345, rfl, rfl, _, 2147483629, rfl, rfl, (show (0 : Int) < 2147483629 by decide),
          _, rfl, rfl, Int.emod_nonneg _ (by decide), Int.emod_lt_of_pos _ (by decide)⟩
      rintro σ' H' ⟨m1, rfl, rfl, b1, b2⟩
      refine ⟨fun σ' H'' => ∃ m : Int, σ' = [some (.int cell), some (.int place), some (.int m), none] ∧ H'' = H' ∧ 0 ≤ m ∧ m < 2147483587, ?_, ?_⟩
      · exact ⟨.int m1, rfl, .int m1, rfl, m1, m1, rfl, rfl, mulL (by omega) (by omega), .int place, rfl, 7919, place, rfl, rfl, mulL (by decide) (by decide), _, _, rfl, rfl, _, 1, rfl, rfl, _, 2147483587, rfl, rfl, (show (0 : Int) < 2147483587 by decide),
          _, rfl, rfl, Int.emod_nonneg _ (by decide), Int.emod_lt_of_pos _ (by decide)⟩
      rintro σ' H'' ⟨m2, rfl, rfl, c1, c2⟩
      refine ⟨fun σ' H' => ∃ m : Int, σ' = [some (.int cell), some (.int place), some (.int m2), some (.int m)] ∧ H' = H'' ∧ 0 ≤ m, ?_, ?_⟩
      · exact ⟨.int m2, rfl, .int m2, rfl, m2, m2, rfl, rfl, mulL (by omega) (by omega), .int m2, rfl, 40014, m2, rfl, rfl, mulL (by decide) (by decide), _, _, rfl, rfl, .int place, rfl, _, place, rfl, rfl, _, 2147483563, rfl, rfl, (show (0 : Int) < 2147483563 by decide),
          _, rfl, rfl, Int.emod_nonneg _ (by decide)⟩
      rintro σ' H' ⟨m3, rfl, rfl, d1⟩
      refine ⟨.int m2, rfl, m2, 2147483563, rfl, rfl, mulL (by omega) (by omega), .int m3, rfl, _, m3, rfl, rfl, ?_⟩
      exact q _ (by omega)

def spDigit (K : PySem.W.Frag) : Sp := fun vs H Q _ => ∃ (t sc : Addr) (many : Int) (ns : List Int), vs = [.ref t, .int many] ∧ Tape K H t sc ns ∧ 0 < many ∧ many ≤ 100000000000000000000 ∧
  ∀ (d : Int) (H' : Hp), 0 ≤ d → d < many → Kt t H H' → Tape K H' t sc ns → Q (.int d) H'
theorem ok_digit {f fS : Addr} {fd fdS : FuncData} (F : Fun K "_law_b_digit" "_law_b_digit" sDigit f fd) (kS : PySem.W.keepIn K (.ref fS) = true) (bS : Binds K fdS ["cell", "place"] []) (gS : mg "_law_b_spread" = some (.ref fS))
    (GS : FnOk P w K mg base CX0 1 fS fdS ["cell", "place"] spSpread) (ml : mg "len" = none) : FnOk P w K mg base CX0 2 f fd ["tape", "many"] (spDigit K) := by
  refine F.ok scDigit (fun vs H Q E h => ?_) (fun cdv A outer s H vs Q E hr h => ?_)
  · obtain ⟨a, b, c, ns, rfl, _⟩ := h
    rfl
  · obtain ⟨t, sc, many, ns, rfl, ⟨⟨p, v, ht, hp, hv⟩, hScr⟩, hm, hm2, q⟩ := h
    have hS := hScr.sq
    refine ⟨_, pss_cut (ps_if (pt_cmpR op_lt (pe_ix ix_list (pv 0) pe_int (fun _ _ => rfl)) (pv 1) (nomark _))
        (pss_cons (ps_set (i := 2) scDigit.nd rfl (.inl rfl) (pe_ix ix_list (pv 0) pe_int (fun _ _ => rfl)))
        (pss_cons (ps_set (i := 3) scDigit.nd rfl (.inl rfl) (pv 2))
        (pss_cut (ps_if (pt_cmpR op_lt (pv 2) (pe_callB call_len_seq (by rfl) ml PySem.boot_len (pa_cons (pe_ix ix_list (pv 0) pe_int (fun _ _ => rfl)) pa_nil)) (nomark _))
            (pss_one (ps_set (i := 3) scDigit.nd rfl (.inl rfl) (pe_ix ix_list (pe_ix ix_list (pv 0) pe_int (fun _ _ => rfl)) (pv 2) (fun _ _ => rfl))))
            (pss_one (ps_if (pt_cmpR (op_neD hr.units) (pe_ix ix_list (pv 0) pe_int (fun _ _ => rfl)) (pe_lst pa_nil) (nomark _))
              (pss_one (ps_set (i := 3) scDigit.nd rfl (.inl rfl) (pe_op op_add (pe_op op_mod (pe_ix ix_list (pe_ix ix_list (pv 0) pe_int (fun _ _ => rfl)) (pe_op op_mod (pe_op op_mul (pv 2) pe_int) (pe_callB call_len_seq (by rfl) ml PySem.boot_len (pa_cons (pe_ix ix_list (pv 0) pe_int (fun _ _ => rfl)) pa_nil))) (fun _ _ => rfl)) (pe_op op_pow pe_int pe_int)) (pe_op op_mul (pv 2) pe_int)))) pss_nil)))
        (pss_cons (ps_asg (pe_op op_add (pv 2) pe_int) (pg_sub (pv 0) pe_int set_list))
        (pss_one (ps_asg (pe_call GS hr (by rfl) gS kS bS .nil pass0 (pa_cons (pv 3) (pa_cons (pv 2) pa_nil))) (pg_sub (pv 0) pe_int set_list))))))) pss_nil)
      (pss_cons (ps_set (i := 4) scDigit.nd rfl (.inl rfl) (pe_op op_mod (pe_ix ix_list (pv 0) pe_int (fun _ _ => rfl)) (pv 1)))
      (pss_cons (ps_asg (pe_op op_fdivW (pe_ix ix_list (pv 0) pe_int (fun _ _ => rfl)) (pv 1)) (pg_sub (pv 0) pe_int set_list))
      (pss_one (ps_ret (pv 4))))), ?_⟩
    refine ⟨fun σ' H' => ∃ y2 y3 y4 p' v', σ' = [some (.ref t), some (.int many), y2, y3, y4] ∧ Kt t H H' ∧ H' t = some (.lst [.ref sc, .int p', .int v']) ∧ 0 ≤ p' ∧ 0 ≤ v', ?_, ?_⟩
    · refine ⟨.ref t, rfl, t, _, 2, .int v, rfl, rfl, .inl (.inl ht), atI_nat (j := 2) rfl, .int many, rfl, v, many, rfl, rfl, _, rfl, ite2 (fun e => ?_) (fun e => ?_)⟩
      · refine ⟨.ref t, rfl, t, _, 1, .int p, rfl, rfl, .inl (.inl ht), atI_nat (j := 1) rfl, .int p, rfl, ?_⟩
        refine ⟨fun σ' H' => ∃ c : Int, σ' = [some (.ref t), some (.int many), some (.int p), some (.int c), none] ∧ K0 H H', ?_, ?_⟩
        · refine ⟨.int p, rfl, .ref t, rfl, t, _, 0, .ref sc, rfl, rfl, .inl (.inl ht), atI_nat (j := 0) rfl, sc, _, rfl, .inl hS, p, _, rfl, rfl, _, rfl, ite2 (fun e2 => ?_) (fun e2 => ?_)⟩
          · have hlt : p < ((ns.map V.int).length : Int) := of_decide_eq_true e2
            rw [List.length_map] at hlt
            obtain ⟨j, rfl⟩ := Int.eq_ofNat_of_zero_le hp
            have hj : j < ns.length := by omega
            refine ⟨.ref t, rfl, t, _, 0, .ref sc, rfl, rfl, .inl (.inl ht), atI_nat (j := 0) rfl, _, rfl, sc, _, _, .int ns[j], rfl, rfl, hS, atI_nat (by rw [List.getElem?_map, List.getElem?_eq_getElem hj]; rfl), ?_⟩
            exact ⟨_, rfl, K0.refl _⟩
          · refine ⟨.ref t, rfl, t, _, 0, .ref sc, rfl, rfl, .inl (.inl ht), atI_nat (j := 0) rfl, Nat.zero_le _, fun pn np => ?_⟩
            have kn : K0 H (upd H pn (.lst [])) := K0.new np
            have ht' := kn.oth t _ ht (fun _ z => by cases z)
            refine ⟨_, _, .lst (kn.sqL hS) (dpInts ns), .lst (.inl (.inl upd_same)) .nil, canLay_ints ns, canLay_ints [], _, rfl, ?_⟩
            rw [show PyData.eqv (.list (ns.map PyData.int)) (.list ([] : List PyData)) = ns.isEmpty from eqv_nil ns]
            refine ite2 (fun e3 => ?_) (fun e3 => ⟨p, rfl, kn⟩)
            · have hl : 0 < (ns.length : Int) := by
                cases ns with
                | nil => cases e3
                | cons n0 nr => rw [List.length_cons]; omega
              have hl' : 0 < ((ns.map V.int).length : Int) := by rw [List.length_map]; exact hl
              have hix : ∃ k : Nat, p * 7 % ((ns.map V.int).length : Int) = (k : Int) ∧ k < ns.length := by
                have h1 := Int.emod_nonneg (p * 7) (show ((ns.map V.int).length : Int) ≠ 0 by omega)
                have h2 := Int.emod_lt_of_pos (p * 7) hl'
                obtain ⟨k, hk⟩ := Int.eq_ofNat_of_zero_le h1
                rw [List.length_map] at h2
                refine ⟨k, hk, ?_⟩
                rw [List.length_map] at hk
                omega
              obtain ⟨k, hk, hkl⟩ := hix
              refine ⟨.ref t, rfl, t, _, 0, .ref sc, rfl, rfl, .inl (.inl ht'), atI_nat (j := 0) rfl, .int p, rfl, p, 7, rfl, rfl, mulR (by decide) (by decide), .ref t, rfl, t, _, 0, .ref sc, rfl, rfl, .inl (.inl ht'), atI_nat (j := 0) rfl, sc, _, rfl, .inl (kn.sqL hS), _, _, rfl, rfl, hl',
                sc, _, _, .int ns[k], rfl, rfl, kn.sqL hS, (by rw [hk]; exact atI_nat (by rw [List.getElem?_map, List.getElem?_eq_getElem hkl]; rfl)), 10, 6, rfl, rfl, ⟨by decide, by decide, by decide⟩, _, _, rfl, rfl, (show (0 : Int) < 10 ^ (6 : Int).toNat by decide), .int p, rfl, p, 1000003, rfl, rfl, mulR (by decide) (by decide), _, _, rfl, rfl, ?_⟩
              exact ⟨_, rfl, kn⟩
        · rintro σ' H' ⟨c, rfl, k⟩
          have ht' := k.oth t _ ht (fun _ z => by cases z)
          refine ⟨.int p, rfl, p, 1, rfl, rfl, .ref t, rfl, t, _, 1, 1, rfl, rfl, ht', rfl, ?_⟩
          refine ⟨.int c, rfl, .int p, rfl, c, p, rfl, hp, fun v' hv' => ?_⟩
          refine ⟨.ref t, rfl, t, _, 2, 2, rfl, rfl, upd_same, rfl, ?_⟩
          rw [upd_upd]
          have kk : Kt t H (upd H' t (.lst [.ref sc, .int (p + 1), .int v'])) := (k.kt).trans (Kt.set ht')
          exact ⟨_, _, _, p + 1, v', rfl, kk, upd_same, by omega, hv'⟩
      · exact ⟨_, _, _, p, v, rfl, Kt.refl _ _, ht, hp, hv⟩
    · rintro σ' H' ⟨y2, y3, y4, p', v', rfl, k, ht', hp', hv'⟩
      refine ⟨.ref t, rfl, t, _, 2, .int v', rfl, rfl, .inl (.inl ht'), atI_nat (j := 2) rfl, .int many, rfl, v', many, rfl, rfl, hm, ?_⟩
      refine ⟨.ref t, rfl, t, _, 2, .int v', rfl, rfl, .inl (.inl ht'), atI_nat (j := 2) rfl, .int many, rfl, v', many, rfl, rfl, ?_, .ref t, rfl, t, _, 2, 2, rfl, rfl, ht', rfl, ?_⟩
      · exact wide_div (b := 70) hm (by omega) (by decide) (by decide)
      · refine ⟨_, rfl, q _ _ (Int.emod_nonneg _ (by omega)) (Int.emod_lt_of_pos _ hm) (k.trans (Kt.set ht')) ?_⟩
        exact ⟨⟨p', v' / many, upd_same, hp', Int.ediv_nonneg hv' (by omega)⟩, hScr.kt (k.trans (Kt.set ht'))⟩
end
end HK

set_option Elab.async false
set_option linter.all false
set_option maxRecDepth 100000
set_option maxHeartbeats 2000000
namespace HK
open PySem PySem.Spec PyProof.Rows L2 GAl GxR
section
variable {X : Cx}
/-- tuple(xs) of a list: the new object is known -/
theorem call_tuple_fz : CallR X (.type "tuple") (fun xs H Q => ∃ p ys, xs = [.ref p] ∧ SqL X.K H p ys ∧ ∀ l o, H l = none → o.cls = .type "tuple" → o.dict = none → Q (.ref l) (upd H l (.frz o (.tup ys)))) := by
  intro pins s σ H xs us Q I r h
  obtain ⟨p, ys, rfl, hq, q⟩ := h
  obtain ⟨u, rfl, rx⟩ := vals1 r
  cases rx
  obtain ⟨its, r', pl, hz⟩ := I.list hq
  have hlen := r'.length
  refine call_tuple_list pl.isList (fun h' kp => ?_) (by simp only [List.size_toArray] <;> omega)
  have I1 : Inv X pins σ H { s with heap := h' } := I.kept (t' := s.toks) kp
  have hget : (h'.push { cls := .type "tuple", data := .seq its.toArray }).get? h'.objs.size = some { cls := .type "tuple", data := .seq its.toArray } := Heap.get?_push_size _ rfl
  have I2 : Inv X pins σ (upd H h'.objs.size (.frz { cls := .type "tuple", data := .seq its.toArray } (.tup ys))) { s with heap := h'.push { cls := .type "tuple", data := .seq its.toArray } } :=
    I1.laid (t' := s.toks) (fun b o e => Heap.get?_push_of_some _ e) (Nat.le_refl _) (show ObjOk X.prog X.w _ _ _ (.frz _ (.tup ys)) from ⟨hget, hz, its, r', IsTup.new _ _⟩)
  exact ⟨.ref h'.objs.size, _, I2, rfl, q _ _ (I1.hok.fresh (Nat.le_refl _)) rfl rfl⟩
/-- a method of a built-in type, of an object that is known -/
def tBMF (T : String) (r : V → List V → Hp → VK → Prop) (to : TE) (t : TA) : TE := fun σ H Q => to σ H fun x H1 => (∃ a ob u, x = .ref a ∧ H1 a = some (.frz ob u) ∧ ob.cls = .type T ∧ ob.dict = none) ∧ t σ H1 fun xs H2 => r x xs H2 Q
theorem pe_bmF {o e : Expr} {es : List Expr} {to : TE} {t : TA} {name : Str} {apos cpos : Pos} {T id : String} {r : V → List V → Hp → VK → Prop}
    (pa : PlainAttrs T) (slot : Slot T name id) (hty : typeOf (.builtin id) = pure (.type "method_descriptor")) (hm : MtR X id r) (ho : PE X o to) (ha : PA X (e :: es) t)
    (hbase : attributeBase o name X.env (eval o X.env) = eval o X.env := by rfl)
    (hfew : ((backTo cpos (starEach (e :: es) X.env)).all (fun x => !x.1) && (backToKw cpos (keywordEach [] X.env)).all (fun x => x.1.isSome)
      && decide ((e :: es).length + ([] : List Keyword).length + (if ([] : List Keyword).isEmpty then 0 else 1) < 30)) = true := by rfl)
    (hline : (apos.endLine == cpos.line) = true := by rfl) (hs : starEach (e :: es) X.env = (false, eval e X.env) :: starEach es X.env := by rfl) (hplain : (backTo cpos (starEach es X.env)).any (·.1) = false := by rfl) :
    PE X (.Call (.Attribute o name apos) (e :: es) [] cpos) (tBMF T r to t) := by
  refine ⟨fun pins s σ H Q I h => ?_⟩
  refine wpAny_Call_method_late hbase hfew hline rfl (thn (ho.run pins s σ H _ I h) fun v s1 ⟨x, H1, I1, r1, ⟨a, ob, u, ex, hob, hc, hd⟩, q1⟩ => ?_)
  subst ex
  have hget := (show ObjOk X.prog X.w H1 s1.heap a (.frz ob u) from I1.hok a _ hob).1
  have ev : v = .ref a := r1
  refine ⟨T, id, pa, slot, hty, by rw [ev]; exact ⟨ob, hget, hc⟩, fun b e2 => ?_, ?_⟩
  · rw [ev] at e2
    cases e2
    exact ⟨ob, hget, hd⟩
  have hA := ha.run cpos pins s1 σ H1 _ I1 q1
  rw [hs] at hA ⊢
  refine Calls.callWith_builtin (by show (false || (backTo cpos (starEach es X.env)).any (·.1)) = false; rw [hplain] <;> rfl) (Calls.evalArgs_plain ?_)
  exact thn hA fun us s2 ⟨vs, H2, I2, r2, q2⟩ => hm pins s2 σ H2 (.ref a) vs v us Q I2 r1 r2 q2
end
end HK

set_option Elab.async false
set_option linter.all false
set_option maxRecDepth 100000
set_option maxHeartbeats 2000000
namespace HK
open PySem PySem.Spec PyProof.Rows L2 GAl GxR
open Evl (pss_cut)
abbrev sNet : Stmt := topS 27
theorem scNet : FnScope ["tape", "most", "n", "often", "roads", "i", "j", "pay", "late"] ["tape", "most"] (defScope sNet) := ⟨rfl, rfl, rfl, by decide +kernel, rfl, by decide +kernel, by decide +kernel⟩
structure R4 where
  s : Int
  e : Int
  c : Int
  l : Int
def R4.vs (r : R4) : List V := [.int r.s, .int r.e, .int r.c, .int r.l]
def R4.d (r : R4) : PyData := .tuple [.int r.s, .int r.e, .int r.c, .int r.l]
structure RoadOk (n : Int) (r : R4) : Prop where
  s0 : 0 ≤ r.s
  s1 : r.s < n
  e0 : 0 ≤ r.e
  e1 : r.e < n
  ne : r.s ≠ r.e
  c0 : 0 ≤ r.c
  c1 : r.c ≤ 1000
  l0 : 1 ≤ r.l
  l1 : r.l ≤ 1000
def R4.lt (a b : R4) : Prop := a.s < b.s ∨ (a.s = b.s ∧ a.e < b.e)
structure Good (n : Int) (rs : List R4) : Prop where
  n1 : 1 ≤ n
  n2 : n ≤ 12
  ok : ∀ r ∈ rs, RoadOk n r
  up : rs.Pairwise R4.lt
/-- the roads' tuples -/
def Roads (K : PySem.W.Frag) (H : Hp) (xs : List V) (rs : List R4) : Prop := DpAll K H xs (rs.map R4.d)
theorem dp_r4 {K : PySem.W.Frag} {H : Hp} {x : V} {r : R4} (h : Dp K H x r.d) : ∃ a, x = .ref a ∧ SqT K H a r.vs := dp_ints4 h
theorem r4_dp {K : PySem.W.Frag} {H : Hp} {a : Addr} {r : R4} (h : SqT K H a r.vs) : Dp K H (.ref a) r.d := .tup h (.cons (.int _) (.cons (.int _) (.cons (.int _) (.cons (.int _) .nil))))
theorem Kt.roads {K : PySem.W.Frag} {t : Addr} {H H' : Hp} (k : Kt t H H') : ∀ {xs : List V} {rs : List R4}, Roads K H xs rs → Roads K H' xs rs
  | _, [], .nil => .nil
  | _, r :: rs, .cons a b => .cons (by
      obtain ⟨p, rfl, h⟩ := dp_r4 (r := r) a
      exact r4_dp (r := r) (k.sqT h)) (Kt.roads k (rs := rs) b)
theorem dpAll_snoc {K : PySem.W.Frag} {H : Hp} : ∀ {xs : List V} {ds : List PyData} {x : V} {d : PyData}, DpAll K H xs ds → Dp K H x d → DpAll K H (xs ++ [x]) (ds ++ [d])
  | _, _, _, _, .nil, h => .cons h .nil
  | _, _, _, _, .cons a b, h => .cons a (dpAll_snoc b h)
theorem Roads.snoc {K : PySem.W.Frag} {H : Hp} {xs : List V} {rs : List R4} {a : Addr} {r : R4} (h : Roads K H xs rs) (s : SqT K H a r.vs) : Roads K H (xs ++ [.ref a]) (rs ++ [r]) := by
  unfold Roads
  rw [List.map_append]
  exact dpAll_snoc h (r4_dp s)
theorem Roads.len {K : PySem.W.Frag} {H : Hp} {xs : List V} {rs : List R4} (h : Roads K H xs rs) : xs.length = rs.length := by
  have := dpAll_len h
  rw [List.length_map] at this
  exact this
theorem Kt.mut {t : Addr} {H H' : Hp} {p : Addr} {o : HO} (k : Kt t H H') (n : H p = none) : Kt t H (upd H' p o) := ⟨fun b u e => by
  rw [upd_ne (ne_of_none e n)]; exact k.tup b u e, fun b o u e => by
  rw [upd_ne (ne_of_none e n)]; exact k.frz b o u e, fun b u e m m' => by
  rw [upd_ne (ne_of_none e n)]; exact k.oth b u e m m', fun P h => by
  obtain ⟨ps, e, ht⟩ := h
  obtain ⟨ps', e', ht'⟩ := k.tab P ⟨ps, e, ht⟩
  exact ⟨ps', by rw [upd_ne (ne_of_none e n)]; exact e', ht'⟩, fun b e => k.dom b (upd_none e)⟩
theorem Tape.k0 {K : PySem.W.Frag} {H H' : Hp} {t s : Addr} {ns : List Int} (h : Tape K H t s ns) (k : K0 H H') : Tape K H' t s ns := by
  obtain ⟨⟨p, v, e, r⟩, q⟩ := h
  exact ⟨⟨p, v, k.oth t _ e (fun _ z => by cases z), r⟩, q.kt k.kt⟩
theorem Tape.ne {K : PySem.W.Frag} {H : Hp} {t s b : Addr} {ns : List Int} (h : Tape K H t s ns) (n : H b = none) : b ≠ t := fun z => by
  obtain ⟨_, _, e, _⟩ := h.v
  rw [z, e] at n; cases n
/-- a list of the law's own, at b, is written -/
theorem Tape.mut {K : PySem.W.Frag} {H H' : Hp} {t s b : Addr} {ns : List Int} {o : HO} (h : Tape K H' t s ns) (h0 : Scr K t H s ns) (k : Kt t H H') (n : H b = none) (nb : b ≠ t) : Tape K (upd H' b o) t s ns := by
  obtain ⟨⟨p, v, e, r⟩, q⟩ := h
  exact ⟨⟨p, v, by rw [upd_ne nb.symm]; exact e, r⟩, h0.kt (k.mut n)⟩
theorem pick8 {x d : Int} (h0 : 0 ≤ d) (h1 : d < 8) (hx : 0 ≤ x ∧ x ≤ 1000) : ∃ y : Int, atI [V.int 0, .int 1, .int 1, .int 2, .int 3, .int 7, .int 1000, .int x] d = some (.int y) ∧ 0 ≤ y ∧ y ≤ 1000 := by
  obtain ⟨k, rfl⟩ := Int.eq_ofNat_of_zero_le h0
  match k, h1 with
  | 0, _ => exact ⟨0, atI_nat rfl, by omega, by omega⟩
  | 1, _ => exact ⟨1, atI_nat rfl, by omega, by omega⟩
  | 2, _ => exact ⟨1, atI_nat rfl, by omega, by omega⟩
  | 3, _ => exact ⟨2, atI_nat rfl, by omega, by omega⟩
  | 4, _ => exact ⟨3, atI_nat rfl, by omega, by omega⟩
  | 5, _ => exact ⟨7, atI_nat rfl, by omega, by omega⟩
  | 6, _ => exact ⟨1000, atI_nat rfl, by omega, by omega⟩
  | 7, _ => exact ⟨x, atI_nat rfl, hx⟩
  | k + 8, h => exact absurd h (by omega)
theorem pick7 {x d : Int} (h0 : 0 ≤ d) (h1 : d < 7) (hx : 1 ≤ x ∧ x ≤ 1000) : ∃ y : Int, atI [V.int 1, .int 1, .int 2, .int 3, .int 5, .int 1000, .int x] d = some (.int y) ∧ 1 ≤ y ∧ y ≤ 1000 := by
  obtain ⟨k, rfl⟩ := Int.eq_ofNat_of_zero_le h0
  match k, h1 with
  | 0, _ => exact ⟨1, atI_nat rfl, by omega, by omega⟩
  | 1, _ => exact ⟨1, atI_nat rfl, by omega, by omega⟩
  | 2, _ => exact ⟨2, atI_nat rfl, by omega, by omega⟩
  | 3, _ => exact ⟨3, atI_nat rfl, by omega, by omega⟩
  | 4, _ => exact ⟨5, atI_nat rfl, by omega, by omega⟩
  | 5, _ => exact ⟨1000, atI_nat rfl, by omega, by omega⟩
  | 6, _ => exact ⟨x, atI_nat rfl, hx⟩
  | k + 7, h => exact absurd h (by omega)

section
variable {P : Program} {w : World} {K : PySem.W.Frag} {mg : Str → Option Value} {base : Heap}
/-- what the law's net is -/
def NetAt (K : PySem.W.Frag) (H : Hp) (a : Addr) (n : Int) (rs : List R4) : Prop := ∃ r xs o, SqT K H a [.int n, .ref r] ∧ H r = some (.frz o (.tup xs)) ∧ o.cls = .type "tuple" ∧ o.dict = none ∧ Roads K H xs rs
theorem NetAt.kt {t : Addr} {H H' : Hp} {a : Addr} {n : Int} {rs : List R4} (h : NetAt K H a n rs) (k : Kt t H H') : NetAt K H' a n rs := by
  obtain ⟨r, xs, o, h1, h2, hc, hd, h3⟩ := h
  exact ⟨r, xs, o, k.sqT h1, k.frz _ _ _ h2, hc, hd, k.roads h3⟩
def spNet (K : PySem.W.Frag) : Sp := fun vs H Q _ => ∃ (t sc : Addr) (most : Int) (ns : List Int), vs = [.ref t, .int most] ∧ Tape K H t sc ns ∧ 1 ≤ most ∧ most ≤ 12 ∧
  ∀ (a : Addr) (n : Int) (rs : List R4) (H' : Hp), Kt t H H' → Tape K H' t sc ns → NetAt K H' a n rs → n ≤ most → Good n rs → rs.length ≤ 156 → Q (.ref a) H'
/-- between the turns -/
structure NI (K : PySem.W.Frag) (H : Hp) (t sc ra : Addr) (ns : List Int) (n : Int) (i j : Nat) (H3 : Hp) : Prop where
  kt : Kt t H H3
  tp : Tape K H3 t sc ns
  ex : ∃ xs rs, H3 ra = some (.lst xs) ∧ Roads K H3 xs rs ∧ Good n rs ∧ (∀ r ∈ rs, r.s < i ∨ (r.s = i ∧ r.e < j)) ∧ rs.length ≤ 12 * i + j
theorem ok_net {f fD : Addr} {fd fdD : FuncData} (F : Fun K "_law_b_net" "_law_b_net" sNet f fd) (kD : PySem.W.keepIn K (.ref fD) = true) (bD : Binds K fdD ["tape", "many"] []) (gD : mg "_law_b_digit" = some (.ref fD))
    (GD : FnOk P w K mg base CX0 2 fD fdD ["tape", "many"] (spDigit K)) (mr : mg "range" = none) (mT : mg "tuple" = none) : FnOk P w K mg base CX0 3 f fd ["tape", "most"] (spNet K) := by
  refine F.ok scNet (fun vs H Q E h => ?_) (fun cdv A outer s H vs Q E hr h => ?_)
  · obtain ⟨a, b, c, ns, rfl, _⟩ := h
    rfl
  · obtain ⟨t, sc, most, ns, rfl, htp, hm1, hm2, q⟩ := h
    refine ⟨_, pss_cons (ps_set (i := 2) scNet.nd rfl (.inl rfl) (pe_op op_add pe_int (pe_call GD hr (by rfl) gD kD bD .nil pass0 (pa_cons (pv 0) (pa_cons (pv 1) pa_nil)))))
      (pss_cons (ps_set (i := 3) scNet.nd rfl (.inl rfl) (pe_op op_add pe_int (pe_call GD hr (by rfl) gD kD bD .nil pass0 (pa_cons (pv 0) (pa_cons pe_int pa_nil)))))
      (pss_cons (ps_set (i := 4) scNet.nd rfl (.inl rfl) (pe_lst pa_nil))
      (pss_cons (ps_for PassesOwn.never rfl (pi_range1 (by rfl) mr (pa_cons (pv 2) pa_nil)) (pg_name (i := 5) scNet.nd rfl (.inl rfl))
        (pss_one (ps_for PassesOwn.never rfl (pi_range1 (by rfl) mr (pa_cons (pv 2) pa_nil)) (pg_name (i := 6) scNet.nd rfl (.inl rfl))
          (pss_one (ps_if (PW.pt (pw_and (pt_cmpR op_ne (pv 5) (pv 6) (nomark _)) (pw_and1 (pt_cmpR op_lt (pe_call GD hr (by rfl) gD kD bD .nil pass0 (pa_cons (pv 0) (pa_cons pe_int pa_nil))) (pv 3) (nomark _)))))
            (pss_cons (ps_set (i := 7) scNet.nd rfl (.inl rfl) (pe_ix ix_list (pe_lst (pa_cons pe_int (pa_cons pe_int (pa_cons pe_int (pa_cons pe_int (pa_cons pe_int (pa_cons pe_int (pa_cons pe_int (pa_cons (pe_call GD hr (by rfl) gD kD bD .nil pass0 (pa_cons (pv 0) (pa_cons pe_int pa_nil))) pa_nil)))))))))
                (pe_call GD hr (by rfl) gD kD bD .nil pass0 (pa_cons (pv 0) (pa_cons pe_int pa_nil))) (fun _ _ => rfl)))
            (pss_cons (ps_set (i := 8) scNet.nd rfl (.inl rfl) (pe_ix ix_list (pe_lst (pa_cons pe_int (pa_cons pe_int (pa_cons pe_int (pa_cons pe_int (pa_cons pe_int (pa_cons pe_int (pa_cons (pe_op op_add pe_int (pe_call GD hr (by rfl) gD kD bD .nil pass0 (pa_cons (pv 0) (pa_cons pe_int pa_nil)))) pa_nil))))))))
                (pe_call GD hr (by rfl) gD kD bD .nil pass0 (pa_cons (pv 0) (pa_cons pe_int pa_nil))) (fun _ _ => rfl)))
            (pss_one (ps_expr (pe_bm PySem.F.plainAttrs_list PySem.F.slot_list_append PySem.F.type_list_append mt_append (pv 4) (pa_cons (pe_tup (pa_cons (pv 5) (pa_cons (pv 6) (pa_cons (pv 7) (pa_cons (pv 8) pa_nil))))) pa_nil)))))) pss_nil)))))
      (pss_one (ps_ret (pe_tup (pa_cons (pv 2) (pa_cons (pe_callTy call_tuple_fz (by rfl) mT (by decide +kernel) (pa_cons (pv 4) pa_nil)) pa_nil)))))))), ?_⟩
    -- n
    refine ⟨.ref t, rfl, .int most, rfl, t, sc, most, ns, rfl, htp, by omega, by omega, fun d1 H1 hd1 hd1' k1 tp1 => ⟨1, d1, rfl, rfl, ?_⟩⟩
    -- often
    refine ⟨.ref t, rfl, t, sc, 6, ns, rfl, tp1, by omega, by omega, fun d2 H2 hd2 hd2' k2 tp2 => ⟨1, d2, rfl, rfl, ?_⟩⟩
    -- roads = []
    refine ⟨Nat.zero_le _, fun ra nra => ?_⟩
    have k12 : Kt t H H2 := k1.trans k2
    have nHra : H ra = none := k12.dom _ nra
    have hn1 : 1 ≤ 1 + d1 := by omega
    have hn2 : 1 + d1 ≤ 12 := by omega
    have hra : ra ≠ t := tp2.ne nra
    have stepI : ∀ {H3 H4 : Hp} {i j : Nat}, NI K H t sc ra ns (1 + d1) i j H3 → Kt t H3 H4 → Tape K H4 t sc ns → NI K H t sc ra ns (1 + d1) i j H4 := fun {H3 H4 i j} h k tp => by
      obtain ⟨xs, rs, e1, e2, e3⟩ := h.ex
      exact ⟨h.kt.trans k, tp, xs, rs, k.oth ra _ e1 hra (fun _ z => by cases z), k.roads e2, e3⟩
    have step0 : ∀ {H3 H4 : Hp} {i j : Nat}, NI K H t sc ra ns (1 + d1) i j H3 → K0 H3 H4 → NI K H t sc ra ns (1 + d1) i j H4 := fun {H3 H4 i j} h k => stepI h k.kt (h.tp.k0 k)
    refine ⟨.int (1 + d1), rfl, 1 + d1, rfl, by omega, by omega, for_range (lo := 0) (n := (1 + d1).toNat) (fun i σ' H' => ∃ y5 y6 y7 y8, σ' = [some (.ref t), some (.int most), some (.int (1 + d1)), some (.int (1 + d2)), some (.ref ra), y5, y6, y7, y8] ∧ NI K H t sc ra ns (1 + d1) i 0 H')
      ⟨none, none, none, none, rfl, ?_⟩ (fun i σ' H' hi h => ?_) (fun σ' H' h => ?_)⟩
    · exact ⟨k12.mut nHra, tp2.k0 (K0.new nra), [], [], upd_same, .nil, ⟨hn1, hn2, fun r hr => (by cases hr), .nil⟩, fun r hr => (by cases hr), by simp⟩
    · obtain ⟨y5, y6, y7, y8, rfl, hI⟩ := h
      refine ⟨.int (1 + d1), rfl, 1 + d1, rfl, by omega, by omega, for_range (lo := 0) (n := (1 + d1).toNat) (fun j σ' H' => ∃ y6 y7 y8, σ' = [some (.ref t), some (.int most), some (.int (1 + d1)), some (.int (1 + d2)), some (.ref ra), some (.int (0 + (i : Int))), y6, y7, y8] ∧ NI K H t sc ra ns (1 + d1) i j H')
        ⟨y6, y7, y8, rfl, hI⟩ (fun j σ' H' hj h => ?_) (fun σ' H' h => ?_)⟩
      · obtain ⟨y6, y7, y8, rfl, hI⟩ := h
        have next : ∀ {H4 : Hp}, NI K H t sc ra ns (1 + d1) i j H4 → NI K H t sc ra ns (1 + d1) i (j + 1) H4 := fun {H4} h => by
          obtain ⟨xs, rs, e1, e2, e3, e4, e5⟩ := h.ex
          exact ⟨h.kt, h.tp, xs, rs, e1, e2, e3, fun r hr => by
            rcases e4 r hr with z | ⟨z, z2⟩
            · exact .inl z
            · exact .inr ⟨z, by omega⟩, by omega⟩
        refine ⟨_, rfl, _, rfl, rfl, _, rfl, ite2 (fun e => ?_) (fun e => iteF ⟨_, y7, y8, rfl, next hI⟩)⟩
        have hij : (i : Int) ≠ j := by
          have e : (!decide (V.int (0 + (i : Int)) = V.int (0 + (j : Int)))) = true := e
          simp only [Bool.not_eq_true', decide_eq_false_iff_not] at e
          intro z
          exact e (by rw [z])
        refine ⟨.ref t, rfl, t, sc, 8, ns, rfl, hI.tp, by omega, by omega, fun d3 H3 hd3 hd3' k3 tp3 => ⟨_, rfl, d3, _, rfl, rfl, _, rfl, ite2 (fun e2 => ?_) (fun e2 => ⟨_, y7, y8, rfl, next (stepI hI k3 tp3)⟩)⟩⟩
        have I3 := stepI hI k3 tp3
        -- pay
        refine ⟨.ref t, rfl, t, sc, 1001, ns, rfl, tp3, by omega, by omega, fun d4 H4 hd4 hd4' k4 tp4 => ⟨by show 8 ≤ sizeLine; decide, fun pl npl => ?_⟩⟩
        have I4 := step0 (stepI I3 k4 tp4) (K0.new (o := .lst [.int 0, .int 1, .int 1, .int 2, .int 3, .int 7, .int 1000, .int d4]) npl)
        have npt := tp4.ne npl
        refine ⟨.ref t, rfl, t, sc, 8, ns, rfl, I4.tp, by omega, by omega, fun d5 H5 hd5 hd5' k5 tp5 => ?_⟩
        have I5 := stepI I4 k5 tp5
        obtain ⟨pay, hpay, p0, p1⟩ := pick8 (x := d4) hd5 hd5' ⟨hd4, by omega⟩
        refine ⟨pl, _, d5, .int pay, rfl, rfl, .inl (.inl (k5.oth pl _ upd_same npt (fun _ z => by cases z))), hpay, ?_⟩
        -- late
        refine ⟨.ref t, rfl, t, sc, 1000, ns, rfl, tp5, by omega, by omega, fun d6 H6 hd6 hd6' k6 tp6 => ⟨1, d6, rfl, rfl, by show 7 ≤ sizeLine; decide, fun ql nql => ?_⟩⟩
        have I6 := step0 (stepI I5 k6 tp6) (K0.new (o := .lst [.int 1, .int 1, .int 2, .int 3, .int 5, .int 1000, .int (1 + d6)]) nql)
        have nqt := tp6.ne nql
        refine ⟨.ref t, rfl, t, sc, 7, ns, rfl, I6.tp, by omega, by omega, fun d7 H7 hd7 hd7' k7 tp7 => ?_⟩
        have I7 := stepI I6 k7 tp7
        obtain ⟨late, hlate, l0, l1⟩ := pick7 (x := 1 + d6) hd7 hd7' ⟨by omega, by omega⟩
        refine ⟨ql, _, d7, .int late, rfl, rfl, .inl (.inl (k7.oth ql _ upd_same nqt (fun _ z => by cases z))), hlate, ?_⟩
        -- roads.append((i, j, pay, late))
        obtain ⟨xs, rs, e1, e2', e3, e4, e5⟩ := I7.ex
        refine ⟨.ref ra, rfl, .inl ⟨rfl, _, .inl (.inl e1)⟩, _, rfl, _, rfl, _, rfl, _, rfl, by show 4 ≤ sizeLine; decide, fun tp ntp => ?_⟩
        have kT : K0 H7 (upd H7 tp (.tup [.int (0 + (i : Int)), .int (0 + (j : Int)), .int pay, .int late])) := K0.new ntp
        have e1' := kT.oth ra _ e1 (fun _ z => by cases z)
        have hlen : xs.length ≤ 200 := by
          rw [e2'.len]
          omega
        refine ⟨ra, _, _, rfl, rfl, e1', Nat.lt_of_le_of_lt hlen (by decide), _, _, _, rfl, ?_⟩
        have kA := (I7.kt.trans kT.kt).mut (o := .lst (xs ++ [.ref tp])) nHra
        refine ⟨kA, (I7.tp.k0 kT).mut htp.scr (I7.kt.trans kT.kt) nHra hra, xs ++ [.ref tp], rs ++ [⟨0 + (i : Int), 0 + (j : Int), pay, late⟩], upd_same, ?_, ⟨hn1, hn2, fun r hr => ?_, ?_⟩, fun r hr => ?_, ?_⟩
        · exact Roads.snoc (r := ⟨0 + (i : Int), 0 + (j : Int), pay, late⟩) ((Kt.set e1').roads (kT.kt (t := t) |>.roads e2')) ((Kt.set e1').sqT (.inl (.inl upd_same)))
        · rcases List.mem_append.mp hr with z | z
          · exact e3.ok r z
          · have z := List.mem_singleton.mp z
            subst z
            exact ⟨by show 0 ≤ 0 + (i : Int); omega, by show 0 + (i : Int) < 1 + d1; omega, by show 0 ≤ 0 + (j : Int); omega, by show 0 + (j : Int) < 1 + d1; omega, by show 0 + (i : Int) ≠ 0 + (j : Int); omega, p0, p1, l0, l1⟩
        · rw [List.pairwise_append]
          refine ⟨e3.up, List.pairwise_singleton _ _, fun a ha b hb => ?_⟩
          have z := List.mem_singleton.mp hb
          subst z
          rcases e4 a ha with z | ⟨z, z2⟩
          · exact .inl (by show a.s < 0 + (i : Int); omega)
          · exact .inr ⟨by show a.s = 0 + (i : Int); omega, by show a.e < 0 + (j : Int); omega⟩
        · rcases List.mem_append.mp hr with z | z
          · rcases e4 r z with z | ⟨z, z2⟩
            · exact .inl z
            · exact .inr ⟨z, by omega⟩
          · have z := List.mem_singleton.mp z
            subst z
            exact .inr ⟨by show 0 + (i : Int) = i; omega, by show 0 + (j : Int) < _; omega⟩
        · rw [List.length_append, List.length_singleton]; omega
      · obtain ⟨y6, y7, y8, rfl, hI⟩ := h
        obtain ⟨xs, rs, e1, e2, e3, e4, e5⟩ := hI.ex
        refine ⟨_, _, _, _, rfl, hI.kt, hI.tp, xs, rs, e1, e2, e3, fun r hr => ?_, by omega⟩
        have hro := e3.ok r hr
        rcases e4 r hr with z | ⟨z, z2⟩
        · exact .inl (by omega)
        · exact .inl (by omega)
    · obtain ⟨y5, y6, y7, y8, rfl, hI⟩ := h
      obtain ⟨xs, rs, e1, e2, e3, e4, e5⟩ := hI.ex
      refine ⟨_, rfl, .ref ra, rfl, ra, xs, rfl, .inl (.inl e1), fun tl ob ntl hoc hod => ?_⟩
      have kT : K0 H' (upd H' tl (.frz ob (.tup xs))) := K0.new ntl
      refine ⟨by show 2 ≤ sizeLine; decide, fun tn ntn => ?_⟩
      have kN : K0 (upd H' tl (.frz ob (.tup xs))) (upd (upd H' tl (.frz ob (.tup xs))) tn (.tup [.int (1 + d1), .ref tl])) := K0.new ntn
      have kk := kT.trans kN
      refine q tn (1 + d1) rs _ (hI.kt.trans kk.kt) (hI.tp.k0 kk) ⟨tl, xs, ob, .inl (.inl upd_same), kN.oth tl _ upd_same (fun _ z => by cases z), hoc, hod, kk.kt (t := t) |>.roads e2⟩ (by omega) e3 (by omega)
end
end HK

set_option Elab.async false
set_option linter.all false
set_option maxRecDepth 100000
set_option maxHeartbeats 2000000
namespace HK
open PySem PySem.Spec PyProof.Rows L2 GAl GxR
mutual
/-- data whose lists are tracked, apart from the tape -/
inductive Dq (K : PySem.W.Frag) (T : Addr → Prop) (H : Hp) : V → PyData → Prop
  | non : Dq K T H .non .none
  | bl (b : Bool) : Dq K T H (.bl b) (.bool b)
  | int (i : Int) : Dq K T H (.int i) (.int i)
  | str (x : Str) : Dq K T H (.str x) (.str x)
  | lst {a : Addr} {xs : List V} {ds : List PyData} : H a = some (.lst xs) → ¬ T a → DqAll K T H xs ds → Dq K T H (.ref a) (.list ds)
  | tup {a : Addr} {xs : List V} {ds : List PyData} : SqT K H a xs → DqAll K T H xs ds → Dq K T H (.ref a) (.tuple ds)
inductive DqAll (K : PySem.W.Frag) (T : Addr → Prop) (H : Hp) : List V → List PyData → Prop
  | nil : DqAll K T H [] []
  | cons {v : V} {vs : List V} {d : PyData} {ds : List PyData} : Dq K T H v d → DqAll K T H vs ds → DqAll K T H (v :: vs) (d :: ds)
end
mutual
theorem Dq.dp {K : PySem.W.Frag} {T : Addr → Prop} {H : Hp} : ∀ (d : PyData) (v : V), Dq K T H v d → Dp K H v d
  | .none, _, h => by cases h; exact .non
  | .bool _, _, h => by cases h; exact .bl _
  | .int _, _, h => by cases h; exact .int _
  | .str _, _, h => by cases h; exact .str _
  | .list ds, _, h => by cases h with | lst a _ b => exact .lst (.inl (.inl a)) (DqAll.dp ds _ b)
  | .tuple ds, _, h => by cases h with | tup a b => exact .tup a (DqAll.dp ds _ b)
  | .dict _, _, h => by cases h
theorem DqAll.dp {K : PySem.W.Frag} {T : Addr → Prop} {H : Hp} : ∀ (ds : List PyData) (vs : List V), DqAll K T H vs ds → DpAll K H vs ds
  | [], _, h => by cases h; exact .nil
  | d :: ds, _, h => by cases h with | cons a b => exact .cons (Dq.dp d _ a) (DqAll.dp ds _ b)
end
mutual
theorem Dq.kt {K : PySem.W.Frag} {T : Addr → Prop} {t : Addr} {H H' : Hp} (hT : T t) (k : Kt t H H') : ∀ (d : PyData) (v : V), Dq K T H v d → Dq K T H' v d
  | .none, _, h => by cases h; exact .non
  | .bool _, _, h => by cases h; exact .bl _
  | .int _, _, h => by cases h; exact .int _
  | .str _, _, h => by cases h; exact .str _
  | .list ds, _, h => by cases h with | lst a n b => exact .lst (k.oth _ _ a (fun z => n (z ▸ hT)) (fun _ z => by cases z)) n (DqAll.kt hT k ds _ b)
  | .tuple ds, _, h => by cases h with | tup a b => exact .tup (k.sqT a) (DqAll.kt hT k ds _ b)
  | .dict _, _, h => by cases h
theorem DqAll.kt {K : PySem.W.Frag} {T : Addr → Prop} {t : Addr} {H H' : Hp} (hT : T t) (k : Kt t H H') : ∀ (ds : List PyData) (vs : List V), DqAll K T H vs ds → DqAll K T H' vs ds
  | [], _, h => by cases h; exact .nil
  | d :: ds, _, h => by cases h with | cons a b => exact .cons (Dq.kt hT k d _ a) (DqAll.kt hT k ds _ b)
end
theorem DqAll.len {K : PySem.W.Frag} {T : Addr → Prop} {H : Hp} : ∀ {vs : List V} {ds : List PyData}, DqAll K T H vs ds → vs.length = ds.length
  | _, _, .nil => rfl
  | _, _, .cons _ b => by rw [List.length_cons, List.length_cons, b.len]
theorem DqAll.app {K : PySem.W.Frag} {T : Addr → Prop} {H : Hp} : ∀ {vs ws : List V} {ds es : List PyData}, DqAll K T H vs ds → DqAll K T H ws es → DqAll K T H (vs ++ ws) (ds ++ es)
  | _, _, _, _, .nil, h => h
  | _, _, _, _, .cons a b, h => .cons a (b.app h)
theorem DqAll.take {K : PySem.W.Frag} {T : Addr → Prop} {H : Hp} : ∀ {vs : List V} {ds : List PyData} (k : Nat), DqAll K T H vs ds → DqAll K T H (vs.take k) (ds.take k)
  | _, _, 0, _ => .nil
  | _, _, _ + 1, .nil => .nil
  | _, _, k + 1, .cons a b => .cons a (b.take k)
theorem DqAll.drop {K : PySem.W.Frag} {T : Addr → Prop} {H : Hp} : ∀ {vs : List V} {ds : List PyData} (k : Nat), DqAll K T H vs ds → DqAll K T H (vs.drop k) (ds.drop k)
  | _, _, 0, h => h
  | _, _, _ + 1, .nil => .nil
  | _, _, k + 1, .cons _ b => b.drop k
theorem DqAll.get {K : PySem.W.Frag} {T : Addr → Prop} {H : Hp} : ∀ {vs : List V} {ds : List PyData} {i : Nat} {x : V}, DqAll K T H vs ds → vs[i]? = some x → ∃ d, ds[i]? = some d ∧ Dq K T H x d
  | _, _, _, _, .nil, e => by simp at e
  | _, _, 0, _, .cons h _, e => by simp at e; subst e; exact ⟨_, rfl, h⟩
  | _, _, i + 1, x, .cons _ b, e => by
    obtain ⟨d, h1, h2⟩ := DqAll.get (i := i) (x := x) b (by simpa using e)
    exact ⟨d, by simpa using h1, h2⟩
theorem DqAll.rev {K : PySem.W.Frag} {T : Addr → Prop} {H : Hp} : ∀ {vs : List V} {ds : List PyData}, DqAll K T H vs ds → DqAll K T H vs.reverse ds.reverse
  | _, _, .nil => .nil
  | _, _, .cons a b => by
    rw [List.reverse_cons, List.reverse_cons]
    exact b.rev.app (.cons a .nil)
theorem roads_dq {K : PySem.W.Frag} {T : Addr → Prop} {H : Hp} : ∀ {xs : List V} {rs : List R4}, Roads K H xs rs → DqAll K T H xs (rs.map R4.d)
  | _, [], .nil => .nil
  | _, r :: rs, .cons a b => .cons (by
      obtain ⟨p, rfl, h⟩ := dp_r4 (r := r) a
      exact .tup h (.cons (.int _) (.cons (.int _) (.cons (.int _) (.cons (.int _) .nil))))) (roads_dq (rs := rs) b)

/-- what stays, the tape a tape -/
structure Kp (K : PySem.W.Frag) (t sc : Addr) (ns : List Int) (H H' : Hp) : Prop where
  kt : Kt t H H'
  tp : Tape K H t sc ns → Tape K H' t sc ns
theorem Kp.refl {K : PySem.W.Frag} {t sc : Addr} {ns : List Int} (H : Hp) : Kp K t sc ns H H := ⟨Kt.refl _ _, fun h => h⟩
theorem Kp.trans {K : PySem.W.Frag} {t sc : Addr} {ns : List Int} {H H1 H2 : Hp} (a : Kp K t sc ns H H1) (b : Kp K t sc ns H1 H2) : Kp K t sc ns H H2 := ⟨a.kt.trans b.kt, fun h => b.tp (a.tp h)⟩
theorem K0.kp {K : PySem.W.Frag} {t sc : Addr} {ns : List Int} {H H' : Hp} (k : K0 H H') : Kp K t sc ns H H' := ⟨k.kt, fun h => h.k0 k⟩

section
variable {K : PySem.W.Frag} {T : Addr → Prop} {t sc : Addr} {ns : List Int} {H0 : Hp} {σ : L2.St}
/-- an expression makes data of which P holds -/
def Mk (K : PySem.W.Frag) (T : Addr → Prop) (t sc : Addr) (ns : List Int) (H0 : Hp) (σ : L2.St) (te : TE) (P : PyData → Prop) : Prop := T t → (∀ b, T b → H0 b ≠ none) → ∀ H, Kp K t sc ns H0 H → ∀ Q : VK, (∀ v H' d, Kp K t sc ns H H' → P d → Dq K T H' v d → Q v H') → te σ H Q
def MkL (K : PySem.W.Frag) (T : Addr → Prop) (t sc : Addr) (ns : List Int) (H0 : Hp) (σ : L2.St) (ta : TA) (P : List PyData → Prop) : Prop := T t → (∀ b, T b → H0 b ≠ none) → ∀ H, Kp K t sc ns H0 H → ∀ Q : List V → Hp → Prop, (∀ vs H' ds, Kp K t sc ns H H' → P ds → DqAll K T H' vs ds → Q vs H') → ta σ H Q
def MkI (K : PySem.W.Frag) (T : Addr → Prop) (t sc : Addr) (ns : List Int) (H0 : Hp) (σ : L2.St) (te : TE) (i : Int) : Prop := Mk K T t sc ns H0 σ te (· = .int i)
theorem Mk.imp {te : TE} {P P' : PyData → Prop} (h : Mk K T t sc ns H0 σ te P) (i : ∀ d, P d → P' d) : Mk K T t sc ns H0 σ te P' := fun hTt hdm H k Q q => h hTt hdm H k Q fun v H' d k' p dq => q v H' d k' (i d p) dq
theorem mk_int {i : Int} : Mk K T t sc ns H0 σ (tC (.int i)) (· = .int i) := fun _ _ H _ _ q => q _ H _ (Kp.refl H) rfl (.int i)
theorem mk_bl {b : Bool} : Mk K T t sc ns H0 σ (tC (.bl b)) (· = .bool b) := fun _ _ H _ _ q => q _ H _ (Kp.refl H) rfl (.bl b)
theorem mk_non : Mk K T t sc ns H0 σ (tC .non) (· = .none) := fun _ _ H _ _ q => q _ H _ (Kp.refl H) rfl .non
theorem mk_str {x : Str} : Mk K T t sc ns H0 σ (tC (.str x)) (· = .str x) := fun _ _ H _ _ q => q _ H _ (Kp.refl H) rfl (.str x)
theorem mk_var {i : Nat} {v : V} {d : PyData} (e : σ[i]? = some (some v)) (h : Dq K T H0 v d) : Mk K T t sc ns H0 σ (tVar i) (· = d) := fun hTt hdm H k _ q => ⟨v, e, q v H d (Kp.refl H) rfl (Dq.kt hTt k.kt d v h)⟩
theorem mk_add {ta tb : TE} {i j : Int} (ha : Mk K T t sc ns H0 σ ta (· = .int i)) (hb : Mk K T t sc ns H0 σ tb (· = .int j)) : Mk K T t sc ns H0 σ (tOp (rI0 fun i j => .int (i + j)) ta tb) (· = .int (i + j)) := fun hTt hdm H k Q q => ha hTt hdm H k _ fun v H1 d k1 e dq => by
  subst e; cases dq
  exact hb hTt hdm H1 (k.trans k1) _ fun v H2 d k2 e dq => by
    subst e; cases dq
    exact ⟨i, j, rfl, rfl, q _ H2 _ (k1.trans k2) rfl (.int _)⟩
theorem mk_sub {ta tb : TE} {i j : Int} (ha : Mk K T t sc ns H0 σ ta (· = .int i)) (hb : Mk K T t sc ns H0 σ tb (· = .int j)) : Mk K T t sc ns H0 σ (tOp (rI0 fun i j => .int (i - j)) ta tb) (· = .int (i - j)) := fun hTt hdm H k Q q => ha hTt hdm H k _ fun v H1 d k1 e dq => by
  subst e; cases dq
  exact hb hTt hdm H1 (k.trans k1) _ fun v H2 d k2 e dq => by
    subst e; cases dq
    exact ⟨i, j, rfl, rfl, q _ H2 _ (k1.trans k2) rfl (.int _)⟩
theorem mk_neg {ta : TE} {i : Int} (ha : Mk K T t sc ns H0 σ ta (· = .int i)) : Mk K T t sc ns H0 σ (tUn (rU fun i => .int (-i)) ta) (· = .int (-i)) := fun hTt hdm H k Q q => ha hTt hdm H k _ fun v H1 d k1 e dq => by
  subst e; cases dq
  exact ⟨i, rfl, q _ H1 _ k1 rfl (.int _)⟩
theorem mkl_nil : MkL K T t sc ns H0 σ tNil (· = []) := fun _ _ H _ _ q => q [] H [] (Kp.refl H) rfl .nil
theorem mkl_cons {te : TE} {ta : TA} {d : PyData} {ds : List PyData} (h : Mk K T t sc ns H0 σ te (· = d)) (hr : MkL K T t sc ns H0 σ ta (· = ds)) : MkL K T t sc ns H0 σ (tCons te ta) (· = d :: ds) := fun hTt hdm H k Q q => h hTt hdm H k _ fun v H1 d1 k1 e dq => hr hTt hdm H1 (k.trans k1) _ fun vs H2 es k2 e2 dqs => by
  subst e e2
  exact q _ H2 _ (k1.trans k2) rfl (.cons (Dq.kt hTt k2.kt _ _ dq) dqs)
theorem mkl_consP {te : TE} {ta : TA} {P : PyData → Prop} {ds : List PyData} (h : Mk K T t sc ns H0 σ te P) (hr : MkL K T t sc ns H0 σ ta (· = ds)) : MkL K T t sc ns H0 σ (tCons te ta) (fun l => ∃ d, P d ∧ l = d :: ds) := fun hTt hdm H k Q q => h hTt hdm H k _ fun v H1 d1 k1 e dq => hr hTt hdm H1 (k.trans k1) _ fun vs H2 es k2 e2 dqs => by
  subst e2
  exact q _ H2 _ (k1.trans k2) ⟨d1, e, rfl⟩ (.cons (Dq.kt hTt k2.kt _ _ dq) dqs)
theorem mk_tup {ta : TA} {P : List PyData → Prop} (h : MkL K T t sc ns H0 σ ta P) (hl : ∀ ds, P ds → ds.length ≤ 1000) : Mk K T t sc ns H0 σ (tTup ta) (fun d => ∃ ds, P ds ∧ d = .tuple ds) := fun hTt hdm H k Q q => h hTt hdm H k _ fun vs H1 ds k1 p dqs => by
  refine ⟨by rw [dqs.len]; exact Nat.le_of_lt (small1000 (hl ds p)), fun a na => ?_⟩
  have kn : K0 H1 (upd H1 a (.tup vs)) := K0.new na
  exact q _ _ _ (k1.trans kn.kp) ⟨ds, p, rfl⟩ (.tup (.inl (.inl upd_same)) (DqAll.kt hTt kn.kt _ _ dqs))
theorem mk_tupE {ta : TA} {ds : List PyData} (h : MkL K T t sc ns H0 σ ta (· = ds)) (hl : ds.length ≤ 1000 := by decide) : Mk K T t sc ns H0 σ (tTup ta) (· = .tuple ds) := (mk_tup h fun es e => by rw [e]; exact hl).imp fun d ⟨es, e, e2⟩ => by rw [e2, e]
theorem mk_lst {ta : TA} {P : List PyData → Prop} (h : MkL K T t sc ns H0 σ ta P) (hl : ∀ ds, P ds → ds.length ≤ 1000) : Mk K T t sc ns H0 σ (tLst ta) (fun d => ∃ ds, P ds ∧ d = .list ds) := fun hTt hdm H k Q q => h hTt hdm H k _ fun vs H1 ds k1 p dqs => by
  refine ⟨by rw [dqs.len]; exact Nat.le_of_lt (small1000 (hl ds p)), fun a na => ?_⟩
  have kn : K0 H1 (upd H1 a (.lst vs)) := K0.new na
  exact q _ _ _ (k1.trans kn.kp) ⟨ds, p, rfl⟩ (.lst upd_same (fun z => hdm _ z ((k.trans k1).kt.dom _ na)) (DqAll.kt hTt kn.kt _ _ dqs))
theorem mk_lstE {ta : TA} {ds : List PyData} (h : MkL K T t sc ns H0 σ ta (· = ds)) (hl : ds.length ≤ 1000 := by decide) : Mk K T t sc ns H0 σ (tLst ta) (· = .list ds) := (mk_lst h fun es e => by rw [e]; exact hl).imp fun d ⟨es, e, e2⟩ => by rw [e2, e]
/-- xs + ys, two lists -/
theorem mk_catL {ta tb : TE} {ds es : List PyData} (ha : Mk K T t sc ns H0 σ ta (· = .list ds)) (hb : Mk K T t sc ns H0 σ tb (· = .list es)) (hl : ds.length + es.length ≤ 1000 := by decide) : Mk K T t sc ns H0 σ (tOp rCat ta tb) (· = .list (ds ++ es)) := fun hTt hdm H k Q q => ha hTt hdm H k _ fun v H1 d k1 e dq => by
  subst e
  exact hb hTt hdm H1 (k.trans k1) _ fun v2 H2 d k2 e dq2 => by
    subst e
    have dq' := Dq.kt hTt k2.kt _ _ dq
    cases dq' with
    | @lst a xs _ h1 n1 a1 => cases dq2 with
      | @lst b ys _ h2 n2 a2 =>
        refine ⟨_, _, _, _, rfl, rfl, h1, h2, ?_, fun p np => ?_⟩
        · rw [a1.len, a2.len]; exact Nat.le_of_lt (small1000 hl)
        · have kn : K0 H2 (upd H2 p (.lst (xs ++ ys))) := K0.new np
          exact q _ _ _ ((k1.trans k2).trans kn.kp) rfl (.lst upd_same (fun z => hdm _ z (((k.trans k1).trans k2).kt.dom _ np)) (DqAll.kt hTt kn.kt _ _ (a1.app a2)))
/-- t + u, two tuples -/
theorem mk_catT {ta tb : TE} {P1 P2 : List PyData → Prop} (ha : Mk K T t sc ns H0 σ ta (fun d => ∃ ds, P1 ds ∧ d = .tuple ds)) (hb : Mk K T t sc ns H0 σ tb (fun d => ∃ ds, P2 ds ∧ d = .tuple ds)) (hl : ∀ ds es, P1 ds → P2 es → ds.length + es.length ≤ 1000) :
    Mk K T t sc ns H0 σ (tOp (rCatA K) ta tb) (fun d => ∃ ds, (∃ d1 d2, P1 d1 ∧ P2 d2 ∧ ds = d1 ++ d2) ∧ d = .tuple ds) := fun hTt hdm H k Q q => ha hTt hdm H k _ fun v H1 d k1 e dq => by
  obtain ⟨ds, p1, rfl⟩ := e
  exact hb hTt hdm H1 (k.trans k1) _ fun v2 H2 d k2 e dq2 => by
    obtain ⟨es, p2, rfl⟩ := e
    have dq' := Dq.kt hTt k2.kt _ _ dq
    cases dq' with
    | @tup a xs _ h1 a1 => cases dq2 with
      | @tup b ys _ h2 a2 =>
        refine ⟨_, _, _, _, rfl, rfl, h1, h2, ?_, fun e => ?_, fun e1 e2 => ?_, fun _ _ p np => ?_⟩
        · rw [a1.len, a2.len]; exact Nat.le_of_lt (small1000 (hl _ _ p1 p2))
        · subst e
          cases a1
          exact q _ _ _ (k1.trans k2) ⟨es, ⟨[], es, p1, p2, rfl⟩, rfl⟩ (.tup h2 a2)
        · subst e2
          cases a2
          exact q _ _ _ (k1.trans k2) ⟨ds, ⟨ds, [], p1, p2, by simp⟩, rfl⟩ (.tup h1 a1)
        · have kn : K0 H2 (upd H2 p (.tup (xs ++ ys))) := K0.new np
          exact q _ _ _ ((k1.trans k2).trans kn.kp) ⟨_, ⟨ds, es, p1, p2, rfl⟩, rfl⟩ (.tup (.inl (.inl upd_same)) (DqAll.kt hTt kn.kt _ _ (a1.app a2)))
def cutD (ds : List PyData) (lo hi : Option Int) : List PyData := (ds.drop (HT.sIx ds.length 0 lo)).take (HT.sIx ds.length ds.length hi - HT.sIx ds.length 0 lo)
def MkO (K : PySem.W.Frag) (T : Addr → Prop) (t sc : Addr) (ns : List Int) (H0 : Hp) (σ : L2.St) (to : TO) (o : Option Int) : Prop := T t → (∀ b, T b → H0 b ≠ none) → ∀ H, Kp K t sc ns H0 H → ∀ Q : Option Int → Hp → Prop, (∀ H', Kp K t sc ns H H' → Q o H') → to σ H Q
theorem mko_none : MkO K T t sc ns H0 σ tNoPart none := fun _ _ H _ _ q => q H (Kp.refl H)
theorem mko_some {te : TE} {i : Int} (h : Mk K T t sc ns H0 σ te (· = .int i)) : MkO K T t sc ns H0 σ (tPart te) (some i) := fun hTt hdm H k _ q => h hTt hdm H k _ fun v H1 d k1 e dq => by
  subst e; cases dq
  exact ⟨i, rfl, q H1 k1⟩
theorem mk_sl {te : TE} {tl th : TO} {lo hi : Option Int} {ds : List PyData} (h : Mk K T t sc ns H0 σ te (· = .tuple ds)) (h1 : MkO K T t sc ns H0 σ tl lo) (h2 : MkO K T t sc ns H0 σ th hi) : Mk K T t sc ns H0 σ (tSl (rSlA K) te tl th) (· = .tuple (cutD ds lo hi)) := fun hTt hdm H k Q q => h hTt hdm H k _ fun v H1 d k1 e dq => by
  subst e
  exact h1 hTt hdm H1 (k.trans k1) _ fun H2 k2 => h2 hTt hdm H2 ((k.trans k1).trans k2) _ fun H3 k3 => by
    have dq' := Dq.kt hTt (k2.trans k3).kt _ _ dq
    cases dq' with
    | @tup a xs _ hq hall =>
      refine ⟨_, _, rfl, hq, fun hw => ?_, fun hw p np => ?_⟩
      · have : cutD ds lo hi = ds := by
          unfold cutD
          rw [← hall.len, hw.1, hw.2, List.drop_zero, Nat.sub_zero]
          exact List.take_of_length_le (by rw [hall.len]; exact Nat.le_refl _)
        rw [this] at q
        exact q _ H3 _ ((k1.trans k2).trans k3) rfl (.tup hq hall)
      · have kn : K0 H3 (upd H3 p (.tup (cutV xs lo hi))) := K0.new np
        refine q _ _ _ (((k1.trans k2).trans k3).trans kn.kp) rfl (.tup (.inl (.inl upd_same)) (DqAll.kt hTt kn.kt _ _ ?_))
        unfold cutV cutD
        rw [hall.len]
        exact (hall.drop _).take _
/-- t[i], a tuple at a written place -/
theorem mk_ixT {te ti : TE} {ds : List PyData} {j : Nat} {d : PyData} (h : Mk K T t sc ns H0 σ te (· = .tuple ds)) (hi : Mk K T t sc ns H0 σ ti (· = .int j)) (hd : ds[j]? = some d) : Mk K T t sc ns H0 σ (tOp (rIxT K) te ti) (· = d) := fun hTt hdm H k Q q => h hTt hdm H k _ fun v H1 d1 k1 e dq => by
  subst e
  exact hi hTt hdm H1 (k.trans k1) _ fun v2 H2 d2 k2 e dq2 => by
    subst e; cases dq2
    have dq' := Dq.kt hTt k2.kt _ _ dq
    cases dq' with
    | @tup a xs _ hq hall =>
      have hl : j < xs.length := by rw [hall.len]; exact (List.getElem?_eq_some_iff.mp hd).1
      obtain ⟨d', e1, e2⟩ := hall.get (List.getElem?_eq_getElem hl)
      rw [hd] at e1; cases e1
      exact ⟨_, _, _, _, rfl, rfl, hq, atI_nat (List.getElem?_eq_getElem hl), q _ H2 _ (k1.trans k2) rfl e2⟩
end
end HK

set_option Elab.async false
set_option linter.all false
set_option maxRecDepth 100000
set_option maxHeartbeats 2000000
namespace HK
open PySem PySem.Spec PyProof.Rows L2 GAl GxR
open Evl (pss_cut)
section
variable {P : Program} {w : World} {K : PySem.W.Frag} {mg : Str → Option Value} {base : Heap}
def spSome (K : PySem.W.Frag) : Sp := fun vs H Q _ => ∃ (t sc r : Addr) (ns : List Int) (xs : List V), vs = [.ref t, .ref r] ∧ Tape K H t sc ns ∧ (SqT K H r xs ∨ (H r = some (.lst xs) ∧ r ≠ t)) ∧ 0 < xs.length ∧ xs.length ≤ 100000 ∧
  ∀ (j : Nat) (x : V) (H' : Hp), xs[j]? = some x → Kp K t sc ns H H' → Q x H'
theorem ok_some {f fD : Addr} {fd fdD : FuncData} (F : Fun K "_law_b_some" "_law_b_some" sSome f fd) (kD : PySem.W.keepIn K (.ref fD) = true) (bD : Binds K fdD ["tape", "many"] []) (gD : mg "_law_b_digit" = some (.ref fD))
    (GD : FnOk P w K mg base CX0 2 fD fdD ["tape", "many"] (spDigit K)) (ml : mg "len" = none) : FnOk P w K mg base CX0 3 f fd ["tape", "row"] (spSome K) := by
  refine F.ok scSome (fun vs H Q E h => ?_) (fun cdv A outer s H vs Q E hr h => ?_)
  · obtain ⟨a, b, c, d, e, rfl, _⟩ := h
    rfl
  · obtain ⟨t, sc, r, ns, xs, rfl, htp, hx, h0, h1, q⟩ := h
    refine ⟨_, pss_one (ps_ret (pe_ix ix_seq (pv 1) (pe_call GD hr (by rfl) gD kD bD .nil pass0 (pa_cons (pv 0) (pa_cons (pe_callB call_len_seq (by rfl) ml PySem.boot_len (pa_cons (pv 1) pa_nil)) pa_nil))) (fun _ _ => rfl))), ?_⟩
    refine ⟨.ref r, rfl, .ref t, rfl, .ref r, rfl, r, xs, rfl, hx.elim .inr (fun z => .inl (.inl (.inl z.1))), t, sc, _, ns, rfl, htp, by omega, by omega, fun d H' d0 d1 k tp => ?_⟩
    obtain ⟨j, rfl⟩ := Int.eq_ofNat_of_zero_le d0
    have hj : j < xs.length := by omega
    rcases hx with hx | ⟨hx, hn⟩
    · exact .inr (.inl ⟨r, xs, _, _, rfl, rfl, k.sqT hx, atI_nat (List.getElem?_eq_getElem hj), q j _ H' (List.getElem?_eq_getElem hj) ⟨k, fun _ => tp⟩⟩)
    · exact .inl ⟨r, xs, _, _, rfl, rfl, .inl (.inl (k.oth _ _ hx hn (fun _ z => by cases z))), atI_nat (List.getElem?_eq_getElem hj), q j _ H' (List.getElem?_eq_getElem hj) ⟨k, fun _ => tp⟩⟩

end
end HK

set_option Elab.async false
set_option linter.all false
set_option maxHeartbeats 2000000
namespace HK
/-! ### the mathematics: going through the roads as often as there are places -/
abbrev IF := Int → Option Int
def put (f : IF) (i x : Int) : IF := fun j => if j = i then some x else f j
def Le (g f : IF) : Prop := ∀ v a, f v = some a → ∃ b, g v = some b ∧ b ≤ a
theorem Le.refl (f : IF) : Le f f := fun v a h => ⟨a, h, Int.le_refl _⟩
theorem Le.trans {f g h : IF} (a : Le f g) (b : Le g h) : Le f h := fun v x e => by
  obtain ⟨y, e1, l1⟩ := b v x e
  obtain ⟨z, e2, l2⟩ := a v y e1
  exact ⟨z, e2, by omega⟩
def rlx (src g : IF) (r : R4) : IF := match src r.s with
  | none => g
  | some a => match g r.e with
    | none => put g r.e (a + r.l)
    | some b => if a + r.l < b then put g r.e (a + r.l) else g
structure IInv (n : Int) (rs : List R4) (root : Int) (f : IF) : Prop where
  rt0 : f root = some 0
  rng : ∀ v a, f v = some a → 0 ≤ v ∧ v < n ∧ 0 ≤ a
  wt : ∀ v b, f v = some b → v = root ∨ ∃ r ∈ rs, r.e = v ∧ ∃ a, f r.s = some a ∧ a + r.l ≤ b
def Closed (rs : List R4) (f : IF) : Prop := ∀ r ∈ rs, ∀ a, f r.s = some a → ∃ b, f r.e = some b ∧ b ≤ a + r.l
section
variable {n root : Int} {rs : List R4}
theorem put_inv {g : IF} {r : R4} {x a' : Int} (I : IInv n rs root g) (hr : RoadOk n r) (hm : r ∈ rs) (ha : g r.s = some a') (hx : a' + r.l ≤ x) (hlt : ∀ b, g r.e = some b → x < b) : IInv n rs root (put g r.e x) ∧ Le (put g r.e x) g := by
  have h0 := (I.rng _ _ ha).2.2
  have hl := hr.l0
  have ne : r.e ≠ root := fun z => by
    have := hlt 0 (by rw [z]; exact I.rt0)
    omega
  have le : Le (put g r.e x) g := fun v b e => by
    by_cases hv : v = r.e
    · subst hv
      exact ⟨x, if_pos rfl, Int.le_of_lt (hlt b e)⟩
    · exact ⟨b, by unfold put; rw [if_neg hv]; exact e, Int.le_refl _⟩
  refine ⟨⟨?_, fun v b e => ?_, fun v b e => ?_⟩, le⟩
  · unfold put; rw [if_neg (fun z => ne z.symm)]; exact I.rt0
  · unfold put at e
    by_cases hv : v = r.e
    · rw [if_pos hv] at e
      cases e
      rw [hv]
      exact ⟨hr.e0, hr.e1, by omega⟩
    · rw [if_neg hv] at e
      exact I.rng v b e
  · by_cases hv : v = r.e
    · unfold put at e
      rw [if_pos hv] at e
      cases e
      exact .inr ⟨r, hm, hv.symm, a', by unfold put; rw [if_neg hr.ne]; exact ha, hx⟩
    · unfold put at e
      rw [if_neg hv] at e
      rcases I.wt v b e with h | ⟨r', h1, h2, a, h3, h4⟩
      · exact .inl h
      · obtain ⟨a2, h5, h6⟩ := le _ _ h3
        exact .inr ⟨r', h1, h2, a2, h5, by omega⟩
theorem rlx_inv {src g : IF} {r : R4} (I : IInv n rs root g) (hr : RoadOk n r) (hm : r ∈ rs) (hs : Le g src) :
    IInv n rs root (rlx src g r) ∧ Le (rlx src g r) g ∧ ∀ a, src r.s = some a → ∃ b, rlx src g r r.e = some b ∧ b ≤ a + r.l := by
  unfold rlx
  cases e : src r.s with
  | none => exact ⟨I, .refl _, fun a z => by cases z⟩
  | some a =>
    obtain ⟨a', e1, l1⟩ := hs _ _ e
    cases e2 : g r.e with
    | none =>
      obtain ⟨h1, h2⟩ := put_inv (x := a + r.l) I hr hm e1 (by omega) (fun b z => by rw [e2] at z; cases z)
      exact ⟨h1, h2, fun a2 z => by cases z; exact ⟨_, if_pos rfl, Int.le_refl _⟩⟩
    | some b =>
      by_cases hb : a + r.l < b
      · simp only [hb, if_true]
        obtain ⟨h1, h2⟩ := put_inv (x := a + r.l) I hr hm e1 (by omega) (fun b' z => by rw [e2] at z; cases z; exact hb)
        exact ⟨h1, h2, fun a2 z => by cases z; exact ⟨_, if_pos rfl, Int.le_refl _⟩⟩
      · simp only [hb, if_false]
        exact ⟨I, .refl _, fun a2 z => by cases z; exact ⟨b, e2, by omega⟩⟩
def rnd (S : IF → IF) (l : List R4) (g : IF) : IF := l.foldl (fun g r => rlx (S g) g r) g
theorem rnd_inv {S : IF → IF} {f : IF} (hS : ∀ g, Le g f → Le g (S g) ∧ Le (S g) f) : ∀ (l : List R4) (g : IF), (∀ r ∈ l, r ∈ rs ∧ RoadOk n r) → IInv n rs root g → Le g f →
    IInv n rs root (rnd S l g) ∧ Le (rnd S l g) g ∧ ∀ r ∈ l, ∀ a, f r.s = some a → ∃ b, rnd S l g r.e = some b ∧ b ≤ a + r.l
  | [], g, _, I, _ => ⟨I, .refl _, fun r h => by cases h⟩
  | r :: l, g, hl, I, hf => by
    obtain ⟨s1, s2⟩ := hS g hf
    obtain ⟨i1, i2, i3⟩ := rlx_inv I (hl r (List.mem_cons_self ..)).2 (hl r (List.mem_cons_self ..)).1 s1
    obtain ⟨j1, j2, j3⟩ := rnd_inv hS l (rlx (S g) g r) (fun q h => hl q (List.mem_cons_of_mem _ h)) i1 (i2.trans hf)
    refine ⟨j1, j2.trans i2, fun q hq a ha => ?_⟩
    rcases List.mem_cons.mp hq with rfl | hq
    · obtain ⟨a', e, le⟩ := s2 _ _ ha
      obtain ⟨b, e2, le2⟩ := i3 a' e
      obtain ⟨c, e3, le3⟩ := j2 _ _ e2
      exact ⟨c, e3, by omega⟩
    · exact j3 q hq a ha
def iter (F : IF → IF) : Nat → IF → IF
  | 0, f => f
  | k + 1, f => F (iter F k f)
theorem half {D f : IF} (hok : ∀ r ∈ rs, RoadOk n r) (c : Closed rs D) (d0 : D root = some 0) (I : IInv n rs root f) : Le D f := by
  have key : ∀ (N : Nat) (v b : Int), f v = some b → b.toNat < N → ∃ c, D v = some c ∧ c ≤ b := by
    intro N
    induction N with
    | zero => intro v b _ h; omega
    | succ N ih =>
      intro v b e hb
      have h0 := (I.rng v b e).2.2
      rcases I.wt v b e with rfl | ⟨r, hm, rfl, a, e2, le⟩
      · exact ⟨0, d0, h0⟩
      · have hl := (hok r hm).l0
        have ha := (I.rng _ _ e2).2.2
        obtain ⟨x, e3, l3⟩ := ih r.s a e2 (by omega)
        obtain ⟨y, e4, l4⟩ := c r hm x e3
        exact ⟨y, e4, by omega⟩
  exact fun v b e => key (b.toNat + 1) v b e (by omega)
theorem two_same {f g : IF} (hok : ∀ r ∈ rs, RoadOk n r) (cf : Closed rs f) (If : IInv n rs root f) (cg : Closed rs g) (Ig : IInv n rs root g) : f = g := by
  have h1 := half hok cf If.rt0 Ig
  have h2 := half hok cg Ig.rt0 If
  funext v
  cases e : f v with
  | none =>
    cases e2 : g v with
    | none => rfl
    | some b => obtain ⟨c, e3, _⟩ := h1 v b e2; rw [e] at e3; cases e3
  | some a =>
    obtain ⟨b, e2, l2⟩ := h2 v a e
    obtain ⟨c, e3, l3⟩ := h1 v b e2
    rw [e] at e3
    cases e3
    rw [e2]
    have : a = b := by omega
    rw [this]
theorem countP_lt {α : Type} {p q : α → Bool} : ∀ {l : List α}, (∀ x ∈ l, p x = true → q x = true) → (∃ x ∈ l, q x = true ∧ ¬ p x = true) → l.countP p < l.countP q
  | [], _, h => by obtain ⟨x, hx, _⟩ := h; cases hx
  | y :: l, h, hx => by
    have hm : l.countP p ≤ l.countP q := List.countP_mono_left (fun x hx => h x (List.mem_cons_of_mem _ hx))
    obtain ⟨x, hx, hq, hp⟩ := hx
    rw [List.countP_cons, List.countP_cons]
    rcases List.mem_cons.mp hx with rfl | hx
    · rw [if_pos hq, if_neg hp]; omega
    · have ih := countP_lt (fun x hx => h x (List.mem_cons_of_mem _ hx)) ⟨x, hx, hq, hp⟩
      have := h y (List.mem_cons_self ..)
      by_cases hy : p y = true
      · rw [if_pos hy, if_pos (this hy)]; omega
      · rw [if_neg hy]
        split <;> omega
variable {F : IF → IF} {f0 : IF}
def Turns (n : Int) (rs : List R4) (root : Int) (F : IF → IF) : Prop := ∀ f, IInv n rs root f → IInv n rs root (F f) ∧ Le (F f) f ∧ ∀ r ∈ rs, ∀ a, f r.s = some a → ∃ b, F f r.e = some b ∧ b ≤ a + r.l
theorem iter_inv (hF : Turns n rs root F) (I0 : IInv n rs root f0) : ∀ k, IInv n rs root (iter F k f0)
  | 0 => I0
  | k + 1 => (hF _ (iter_inv hF I0 k)).1
theorem iter_le (hF : Turns n rs root F) (I0 : IInv n rs root f0) (k : Nat) : ∀ j, Le (iter F (k + j) f0) (iter F k f0)
  | 0 => .refl _
  | j + 1 => ((hF _ (iter_inv hF I0 (k + j))).2.1).trans (iter_le hF I0 k j)
theorem stab (hF : Turns n rs root F) (I0 : IInv n rs root f0) (v : Int) : ∃ K, ∀ k, K ≤ k → iter F k f0 v = iter F K f0 v := by
  have key : ∀ (N k : Nat) (m : Int), iter F k f0 v = some m → m.toNat < N → ∃ K, ∀ k, K ≤ k → iter F k f0 v = iter F K f0 v := by
    intro N
    induction N with
    | zero => intro k m _ h; omega
    | succ N ih =>
      intro k m e hm
      by_cases hh : ∀ j, k ≤ j → iter F j f0 v = some m
      · exact ⟨k, fun j hj => by rw [hh j hj, e]⟩
      · have ⟨j, hj⟩ := Classical.not_forall.mp hh
        have ⟨hk, hj⟩ := Classical.not_imp.mp hj
        obtain ⟨d, rfl⟩ := Nat.exists_eq_add_of_le hk
        obtain ⟨b, e2, l2⟩ := iter_le hF I0 k d v m e
        have hb := ((iter_inv hF I0 (k + d)).rng _ _ e2).2.2
        have : b ≠ m := fun z => hj (by rw [e2, z])
        exact ih (k + d) b e2 (by omega)
  by_cases h : ∃ k m, iter F k f0 v = some m
  · obtain ⟨k, m, e⟩ := h
    exact key (m.toNat + 1) k m e (by omega)
  · have none : ∀ k, iter F k f0 v = none := fun k => by
      cases e : iter F k f0 v with
      | none => rfl
      | some m => exact absurd ⟨k, m, e⟩ h
    exact ⟨0, fun k _ => by rw [none k, none 0]⟩
theorem stab_all (hF : Turns n rs root F) (I0 : IInv n rs root f0) : ∀ N : Nat, ∃ K, ∀ (i : Nat), i < N → ∀ k, K ≤ k → iter F k f0 (i : Int) = iter F K f0 (i : Int)
  | 0 => ⟨0, fun i h => by omega⟩
  | N + 1 => by
    obtain ⟨K1, h1⟩ := stab_all hF I0 N
    obtain ⟨K2, h2⟩ := stab hF I0 (N : Int)
    refine ⟨max K1 K2, fun i hi k hk => ?_⟩
    have a1 : K1 ≤ max K1 K2 := Nat.le_max_left ..
    have a2 : K2 ≤ max K1 K2 := Nat.le_max_right ..
    by_cases hi' : i = N
    · subst hi'
      rw [h2 k (by omega), h2 _ a2]
    · rw [h1 i (by omega) k (by omega), h1 i (by omega) _ a1]
theorem limit (hF : Turns n rs root F) (I0 : IInv n rs root f0) : ∃ D, IInv n rs root D ∧ Closed rs D := by
  obtain ⟨K, h⟩ := stab_all hF I0 n.toNat
  have same : iter F (K + 1) f0 = iter F K f0 := by
    funext v
    by_cases hv : 0 ≤ v ∧ v < n
    · obtain ⟨i, rfl⟩ := Int.eq_ofNat_of_zero_le hv.1
      exact h i (by omega) (K + 1) (by omega)
    · have none : ∀ k, iter F k f0 v = none := fun k => by
        cases e : iter F k f0 v with
        | none => rfl
        | some m =>
          have := (iter_inv hF I0 k).rng _ _ e
          exact absurd ⟨this.1, this.2.1⟩ hv
      rw [none, none]
  refine ⟨_, iter_inv hF I0 K, fun r hr a ha => ?_⟩
  obtain ⟨b, e, l⟩ := (hF _ (iter_inv hF I0 K)).2.2 r hr a ha
  exact ⟨b, by rw [← same]; exact e, l⟩
theorem conv (hok : ∀ r ∈ rs, RoadOk n r) (hF : Turns n rs root F) (I0 : IInv n rs root f0) : Closed rs (iter F n.toNat f0) := by
  obtain ⟨D, ID, cD⟩ := limit hF I0
  have low : ∀ k, Le D (iter F k f0) := fun k => half hok cD ID.rt0 (iter_inv hF I0 k)
  have stay : ∀ k v b, D v = some b → iter F k f0 v = some b → iter F (k + 1) f0 v = some b := fun k v b hd e => by
    obtain ⟨c, e1, l1⟩ := (hF _ (iter_inv hF I0 k)).2.1 v b e
    obtain ⟨c', e2, l2⟩ := low (k + 1) v c e1
    rw [hd] at e2
    cases e2
    have : c = b := by omega
    rw [← this]; exact e1
  have prog : ∀ (k N : Nat) (v b : Int), D v = some b → b.toNat < N → iter F k f0 v ≠ some b → ∃ v' b', D v' = some b' ∧ iter F k f0 v' ≠ some b' ∧ iter F (k + 1) f0 v' = some b' := by
    intro k N
    induction N with
    | zero => intro v b _ h; omega
    | succ N ih =>
      intro v b hd hb hne
      rcases ID.wt v b hd with rfl | ⟨r, hm, rfl, a, e2, le⟩
      · rw [ID.rt0] at hd
        cases hd
        exact absurd (iter_inv hF I0 k).rt0 hne
      · have hl := (hok r hm).l0
        have ha := (ID.rng _ _ e2).2.2
        by_cases hs : iter F k f0 r.s = some a
        · obtain ⟨b', e3, l3⟩ := (hF _ (iter_inv hF I0 k)).2.2 r hm a hs
          obtain ⟨c, e4, l4⟩ := low (k + 1) r.e b' e3
          rw [hd] at e4
          cases e4
          have : b' = b := by omega
          exact ⟨r.e, b, hd, hne, by rw [← this]; exact e3⟩
        · exact ih r.s a e2 (by omega) hs
  let fin : Nat → Nat → Bool := fun k i => decide (iter F k f0 (i : Int) = D (i : Int)) && (D (i : Int)).isSome
  have hn : ∀ v b, D v = some b → ∃ i : Nat, v = (i : Int) ∧ i ∈ List.range n.toNat := fun v b e => by
    have := ID.rng v b e
    obtain ⟨i, rfl⟩ := Int.eq_ofNat_of_zero_le this.1
    exact ⟨i, rfl, List.mem_range.mpr (by omega)⟩
  have main : ∀ k, (∀ v b, D v = some b → iter F k f0 v = some b) ∨ k + 1 ≤ (List.range n.toNat).countP (fin k) := by
    intro k
    induction k with
    | zero =>
      obtain ⟨i, hi, hm⟩ := hn root 0 ID.rt0
      refine .inr (List.countP_pos_iff.mpr ⟨i, hm, ?_⟩)
      show (decide (f0 (i : Int) = D (i : Int)) && (D (i : Int)).isSome) = true
      rw [← hi, I0.rt0, ID.rt0]
      rfl
    | succ k ih =>
      rcases ih with h | h
      · exact .inl fun v b e => stay k v b e (h v b e)
      · by_cases all : ∀ v b, D v = some b → iter F k f0 v = some b
        · exact .inl fun v b e => stay k v b e (all v b e)
        · refine .inr (Nat.lt_of_le_of_lt h (countP_lt (fun i _ hi => ?_) ?_))
          · have hi' := Bool.and_eq_true_iff.mp hi
            have h1 := of_decide_eq_true hi'.1
            obtain ⟨b, e⟩ := Option.isSome_iff_exists.mp hi'.2
            have := stay k i b e (h1.trans e)
            exact Bool.and_eq_true_iff.mpr ⟨decide_eq_true (this.trans e.symm), hi'.2⟩
          · have ⟨v, hv⟩ := Classical.not_forall.mp all
            have ⟨b, hb⟩ := Classical.not_forall.mp hv
            have ⟨hd, hne⟩ := Classical.not_imp.mp hb
            obtain ⟨v', b', d', n', e'⟩ := prog k (b.toNat + 1) v b hd (by omega) hne
            obtain ⟨i, rfl, hm⟩ := hn v' b' d'
            refine ⟨i, hm, Bool.and_eq_true_iff.mpr ⟨decide_eq_true (e'.trans d'.symm), by rw [d']; rfl⟩, fun z => ?_⟩
            exact n' ((of_decide_eq_true (Bool.and_eq_true_iff.mp z).1).trans d')
  have fin' : ∀ v b, D v = some b → iter F n.toNat f0 v = some b := by
    rcases main n.toNat with h | h
    · exact h
    · have := List.countP_le_length (p := fin n.toNat) (l := List.range n.toNat)
      rw [List.length_range] at this
      omega
  have eq : iter F n.toNat f0 = D := by
    funext v
    cases e : D v with
    | some b => exact fin' v b e
    | none =>
      cases e2 : iter F n.toNat f0 v with
      | none => rfl
      | some b => obtain ⟨c, e3, _⟩ := low n.toNat v b e2; rw [e] at e3; cases e3
  rw [eq]; exact cD
/-- the two ways of going through -/
theorem turns_at (hok : ∀ r ∈ rs, RoadOk n r) : Turns n rs root (fun f => rnd id rs f) := fun f I => by
  obtain ⟨h1, h2, h3⟩ := rnd_inv (S := id) (f := f) (n := n) (rs := rs) (root := root) (fun g h => ⟨.refl _, h⟩) rs f (fun r h => ⟨h, hok r h⟩) I (.refl _)
  exact ⟨h1, h2, h3⟩
theorem turns_by (hok : ∀ r ∈ rs, RoadOk n r) : Turns n rs root (fun f => rnd (fun _ => f) rs f) := fun f I => by
  obtain ⟨h1, h2, h3⟩ := rnd_inv (S := fun _ => f) (f := f) (n := n) (rs := rs) (root := root) (fun g h => ⟨h, .refl _⟩) rs f (fun r h => ⟨h, hok r h⟩) I (.refl _)
  exact ⟨h1, h2, h3⟩
def ini (root : Int) : IF := put (fun _ => none) root 0
theorem ini_inv (h0 : 0 ≤ root) (h1 : root < n) : IInv n rs root (ini root) := by
  refine ⟨if_pos rfl, fun v a e => ?_, fun v b e => ?_⟩
  · unfold ini put at e
    by_cases hv : v = root
    · rw [if_pos hv] at e; cases e; subst hv; exact ⟨h0, h1, Int.le_refl _⟩
    · rw [if_neg hv] at e; cases e
  · unfold ini put at e
    by_cases hv : v = root
    · exact .inl hv
    · rw [if_neg hv] at e; cases e
end
/-- what is found -/
def due (n : Int) (rs : List R4) (root : Int) : IF := iter (fun f => rnd id rs f) n.toNat (ini root)
theorem due_inv {n root : Int} {rs : List R4} (hok : ∀ r ∈ rs, RoadOk n r) (h0 : 0 ≤ root) (h1 : root < n) : IInv n rs root (due n rs root) := iter_inv (turns_at hok) (ini_inv h0 h1) _
theorem due_closed {n root : Int} {rs : List R4} (hok : ∀ r ∈ rs, RoadOk n r) (h0 : 0 ≤ root) (h1 : root < n) : Closed rs (due n rs root) := conv hok (turns_at hok) (ini_inv h0 h1)
theorem due_by {n root : Int} {rs : List R4} (hok : ∀ r ∈ rs, RoadOk n r) (h0 : 0 ≤ root) (h1 : root < n) : iter (fun f => rnd (fun _ => f) rs f) n.toNat (ini root) = due n rs root :=
  two_same hok (conv hok (turns_by hok) (ini_inv h0 h1)) (iter_inv (turns_by hok) (ini_inv h0 h1) _) (due_closed hok h0 h1) (due_inv hok h0 h1)
end HK

set_option Elab.async false
set_option linter.all false
set_option maxRecDepth 100000
set_option maxHeartbeats 2000000
namespace HK
open PySem PySem.Spec PyProof.Rows L2 GAl GxR
/-! ### a dict of whole numbers by whole numbers -/
structure DI (kvs : List (Key × V)) (f : IF) : Prop where
  nd : (kvs.map (·.1)).Nodup
  ks : ∀ p ∈ kvs, ∃ i x : Int, p = (Sum.inl i, V.int x)
  val : ∀ i : Int, valV kvs (Sum.inl i) = (f i).map V.int
theorem valV_mem {κ : Type} [DecidableEq κ] : ∀ {kvs : List (κ × V)} {p : κ × V}, (kvs.map (·.1)).Nodup → p ∈ kvs → valV kvs p.1 = some p.2
  | q :: r, p, nd, h => by
    have nd' := List.nodup_cons.mp nd
    rcases List.mem_cons.mp h with rfl | h
    · exact valV_pos rfl
    · have : ¬ q.1 = p.1 := fun z => nd'.1 (List.mem_map.mpr ⟨p, h, z.symm⟩)
      rw [valV_neg this]
      exact valV_mem nd'.2 h
theorem DI.at_ {kvs : List (Key × V)} {f : IF} (h : DI kvs f) {p : Key × V} (hp : p ∈ kvs) : ∃ i x : Int, p = (Sum.inl i, V.int x) ∧ f i = some x := by
  obtain ⟨i, x, rfl⟩ := h.ks p hp
  have e := valV_mem h.nd hp
  rw [h.val] at e
  cases e2 : f i with
  | none => rw [e2] at e; cases e
  | some y => rw [e2] at e; cases e; exact ⟨i, _, rfl, e2⟩
theorem DI.mem {kvs : List (Key × V)} {f : IF} (h : DI kvs f) (i : Int) : (Sum.inl i : Key) ∈ kvs.map (·.1) ↔ (f i).isSome = true := by
  constructor
  · intro hm
    obtain ⟨p, hp, e⟩ := List.mem_map.mp hm
    obtain ⟨j, x, rfl, e2⟩ := h.at_ hp
    have e : (Sum.inl j : Key) = Sum.inl i := e
    cases e
    rw [e2]; rfl
  · intro hs
    obtain ⟨x, e⟩ := Option.isSome_iff_exists.mp hs
    exact valV_in (v := .int x) (by rw [h.val, e]; rfl)
theorem DI.put {kvs : List (Key × V)} {f : IF} (h : DI kvs f) (i x : Int) : DI (putK kvs (Sum.inl i) (.int x)) (HK.put f i x) := by
  refine ⟨?_, fun p hp => ?_, fun j => ?_⟩
  · cases e : valV kvs (Sum.inl i) with
    | none => exact nd_putK _ h.nd e
    | some v =>
      unfold putK
      rw [valV_any, e]
      simp only [Option.isSome_some, if_true]
      have : (kvs.map fun kv => if kv.1 = (Sum.inl i : Key) then (kv.1, V.int x) else kv).map (·.1) = kvs.map (·.1) := by
        rw [List.map_map]
        exact List.map_congr_left fun p _ => by
          show (if p.1 = (Sum.inl i : Key) then (p.1, V.int x) else p).1 = p.1
          split <;> rfl
      rw [this]; exact h.nd
  · unfold putK at hp
    split at hp
    · obtain ⟨q, hq, rfl⟩ := List.mem_map.mp hp
      obtain ⟨j, y, rfl⟩ := h.ks q hq
      by_cases e : (Sum.inl j : Key) = Sum.inl i
      · exact ⟨j, x, by simp only [e, if_true]⟩
      · exact ⟨j, y, by simp only [e, if_false]⟩
    · rcases List.mem_append.mp hp with hp | hp
      · exact h.ks p hp
      · exact ⟨i, x, List.mem_singleton.mp hp⟩
  · rw [valV_put, h.val]
    unfold HK.put
    by_cases e : j = i
    · subst e; simp
    · simp [e]
theorem DI.one (root : Int) : DI (mergeK [] [(Sum.inl root, V.int 0)]) (ini root) := by
  have h0 : DI [] (fun _ => none) := ⟨List.nodup_nil, fun p hp => (by cases hp), fun i => rfl⟩
  exact h0.put root 0
theorem DI.same {ks ls : List (Key × V)} {f : IF} (h : DI ks f) (g : DI ls f) : ks.length = ls.length ∧ ∀ p ∈ ks, valV ls p.1 = some p.2 ∧ flatB p.2 = true := by
  constructor
  · have : (ks.map (·.1)).Perm (ls.map (·.1)) := (List.perm_ext_iff_of_nodup h.nd g.nd).mpr fun k => by
      cases k with
      | inl i => rw [h.mem, g.mem]
      | inr s =>
        constructor
        · intro hm
          obtain ⟨p, hp, e⟩ := List.mem_map.mp hm
          obtain ⟨j, x, rfl⟩ := h.ks p hp
          cases e
        · intro hm
          obtain ⟨p, hp, e⟩ := List.mem_map.mp hm
          obtain ⟨j, x, rfl⟩ := g.ks p hp
          cases e
    have := this.length_eq
    rwa [List.length_map, List.length_map] at this
  · intro p hp
    obtain ⟨i, x, rfl, e⟩ := h.at_ hp
    exact ⟨by show valV ls (Sum.inl i) = _; rw [g.val, e]; rfl, rfl⟩
theorem DI.pair {kvs : List (Key × V)} {f : IF} (h : DI kvs f) {v x : Int} (e : f v = some x) : (Sum.inl v, V.int x) ∈ kvs := by
  have := (h.mem v).mpr (by rw [e]; rfl)
  obtain ⟨pp, hpp, ep⟩ := List.mem_map.mp this
  obtain ⟨j, z, rfl, ej⟩ := h.at_ hpp
  cases ep
  rw [e] at ej
  cases ej
  exact hpp
theorem rnd_take {S : IF → IF} {rs : List R4} {g : IF} {j : Nat} {r : R4} (h : rs[j]? = some r) : rnd S (rs.take (j + 1)) g = rlx (S (rnd S (rs.take j) g)) (rnd S (rs.take j) g) r := by
  have : rs.take (j + 1) = rs.take j ++ [r] := by rw [List.take_add_one, h]; rfl
  rw [this]
  unfold rnd
  rw [List.foldl_append]
  rfl
/-! ### a good net is one -/
def pr (r : R4) : List Int := [r.s, r.e]
theorem pairs_map (rs : List R4) : (rs.map R4.d).map pairD = rs.map pr := by rw [List.map_map]; rfl
abbrev nt (m : PyData) (ds : List PyData) : PyData := .tuple [m, .tuple ds]
theorem lex_fore {a b : R4} (h : a.lt b) : HT.lexLt (pr a) (pr b) = true := by
  have h : a.s < b.s ∨ (a.s = b.s ∧ a.e < b.e) := h
  simp only [pr, HT.lexLt]
  rcases h with h | ⟨h, h2⟩
  · rw [if_neg (by omega)]
    exact decide_eq_true (by omega)
  · rw [if_pos h, if_neg (by omega)]
    exact decide_eq_true (by omega)
/-- a good net is one -/
theorem road_yes {n : Int} {r : R4} (h : RoadOk n r) : isRoadD n r.d = true := by
  obtain ⟨h1, h2, h3, h4, h5, h6, h7, h8, h9⟩ := h
  have a1 : r.s ≤ n - 1 := by omega
  have a2 : r.e ≤ n - 1 := by omega
  simp [R4.d, isRoadD, withinD, neD, h1, a1, h3, a2, h5, h6, h7, h8, h9]
theorem net_yes {n : Int} {rs : List R4} (G : Good n rs) : isNetD (nt (.int n) (rs.map R4.d)) = true := by
  show ((decide (1 ≤ n) && decide (n ≤ 12)) && (((rs.map R4.d).all (isRoadD n)) && risesB ((rs.map R4.d).map pairD))) = true
  rw [decide_eq_true G.n1, decide_eq_true G.n2, pairs_map]
  have h1 : (rs.map R4.d).all (isRoadD n) = true := by
    rw [List.all_map, List.all_eq_true]
    exact fun r hr => road_yes (G.ok r hr)
  have h2 : risesB (rs.map pr) = true := risesB_yes fun j hj => by
    rw [List.length_map] at hj
    have hp := List.pairwise_iff_getElem.mp G.up j (j + 1) (by omega) (by omega) (by omega)
    have e1 : (rs.map pr).getD j [] = pr rs[j] := by simp [List.getD_eq_getElem?_getD, List.getElem?_eq_getElem (show j < rs.length by omega)]
    have e2 : (rs.map pr).getD (j + 1) [] = pr rs[j + 1] := by simp [List.getD_eq_getElem?_getD, List.getElem?_eq_getElem (show j + 1 < rs.length by omega)]
    rw [e1, e2]
    exact lex_fore hp
  rw [h1, h2]
  rfl
theorem NetAt.k0 {K : PySem.W.Frag} {H H' : Hp} {a : Addr} {n : Int} {rs : List R4} (h : NetAt K H a n rs) (k : K0 H H') : NetAt K H' a n rs := h.kt (k.kt (t := 0))
theorem NetAt.ans {K : PySem.W.Frag} {H : Hp} {a : Addr} {n : Int} {rs : List R4} (h : NetAt K H a n rs) (G : Good n rs) (hl : rs.length ≤ 156) : NetAns K H (.ref a) true := by
  obtain ⟨r, xs, o, h1, h2, hc, hd, h3⟩ := h
  refine .inl ⟨nt (.int n) (rs.map R4.d), .tup h1 (.cons (.int _) (.cons (.tup (.inl (.inr ⟨o, h2⟩)) h3) .nil)), fun m rs' e => ?_, (net_yes G).symm⟩
  cases e
  rw [List.length_map]; omega
end HK

set_option Elab.async false
set_option linter.all false
set_option maxRecDepth 100000
set_option maxHeartbeats 2000000
namespace HK
open PySem PySem.Spec PyProof.Rows L2 GAl GxR
abbrev sIsPlace : Stmt := topS 15
abbrev sNeedNet : Stmt := topS 17
abbrev sNeedPlace : Stmt := topS 18
theorem scIsPlace : FnScope ["net", "thing"] ["net", "thing"] (defScope sIsPlace) := ⟨rfl, rfl, rfl, by decide +kernel, rfl, by decide +kernel, by decide +kernel⟩
theorem scNeedNet : FnScope ["net"] ["net"] (defScope sNeedNet) := ⟨rfl, rfl, rfl, by decide +kernel, rfl, by decide +kernel, by decide +kernel⟩
theorem scNeedPlace : FnScope ["net", "place"] ["net", "place"] (defScope sNeedPlace) := ⟨rfl, rfl, rfl, by decide +kernel, rfl, by decide +kernel, by decide +kernel⟩
theorem K0.lock {H H' : Hp} {p : Addr} {u : HO} {od : Obj} (h : H p = some u) (nt : ∀ ps, u ≠ .tbl ps) (k : K0 (upd H p (.frz od u)) H') : K0 H (upd H' p u) := by
  refine ⟨fun b o e m => ?_, fun P hP => ?_, fun b e => ?_⟩
  · by_cases hb : b = p
    · subst hb
      rw [h] at e
      cases e
      exact upd_same
    · rw [upd_ne hb]
      exact k.oth b o (by rw [upd_ne hb]; exact e) m
  · obtain ⟨ps, e, ht⟩ := hP
    have hb : P ≠ p := fun z => by
      rw [z, h] at e
      exact nt ps (Option.some.inj e)
    obtain ⟨ps', e', ht'⟩ := k.tab P ⟨ps, by rw [upd_ne hb]; exact e, ht⟩
    exact ⟨ps', by rw [upd_ne hb]; exact e', ht'⟩
  · by_cases hb : b = p
    · rw [hb, upd_same] at e; cases e
    · rw [upd_ne hb] at e
      have := k.dom b e
      rwa [upd_ne hb] at this
section
variable {P : Program} {w : World} {K : PySem.W.Frag} {mg : Str → Option Value} {base : Heap}
def spIsPlace (K : PySem.W.Frag) : Sp := fun vs H Q _ => ∃ (a : Addr) (n : Int) (rs : List R4) (v : Int), vs = [.ref a, .int v] ∧ NetAt K H a n rs ∧ Q (.bl (decide (0 ≤ v) && decide (v ≤ n - 1))) H
theorem ok_isplace {f fW : Addr} {fd fdW : FuncData} (F : Fun K "is_place" "is_place" sIsPlace f fd)
    (kW : PySem.W.keepIn K (.ref fW) = true) (bW : Binds K fdW ["thing", "least", "greatest"] []) (gW : mg "is_within" = some (.ref fW)) (GW : FnOk P w K mg base CX0 2 fW fdW ["thing", "least", "greatest"] (spWithin K)) :
    FnOk P w K mg base CX0 3 f fd ["net", "thing"] (spIsPlace K) := by
  refine F.ok scIsPlace (fun vs H Q E h => ?_) (fun cdv A outer s H vs Q E hr h => ?_)
  · obtain ⟨a, n, rs, v, rfl, _⟩ := h
    rfl
  · obtain ⟨a, n, rs, v, rfl, hN, q⟩ := h
    obtain ⟨r, xs, o, h1, h2, hc, hd, h3⟩ := hN
    refine ⟨_, pss_one (ps_ret (pe_call GW hr (by rfl) gW kW bW .nil pass0 (pa_cons (pv 1) (pa_cons pe_int (pa_cons (pe_op op_sub (pe_ix ix_tup (pv 0) pe_int (fun _ _ => rfl)) pe_int) pa_nil))))), ?_⟩
    exact ⟨_, rfl, _, rfl, a, _, _, _, rfl, rfl, h1, atI_nat (j := 0) rfl, _, _, rfl, rfl, .int v, .int v, 0, n - 1, rfl, .int _, q⟩
def spNeedNet (K : PySem.W.Frag) (Pn Pr : Addr) : Sp := fun vs H Q _ => ∃ (a : Addr) (n : Int) (rs : List R4), vs = [.ref a] ∧ NetAt K H a n rs ∧ Good n rs ∧ rs.length ≤ 156 ∧ TabG H Pn ∧ TabG H Pr ∧ ∀ H', K0 H H' → Q .non H'
theorem ok_neednet {f fN Pn Pr : Addr} {fd fdN : FuncData} (F : Fun K "need_net" "need_net" sNeedNet f fd)
    (kN : PySem.W.keepIn K (.ref fN) = true) (bN : Binds K fdN ["thing"] []) (gN : mg "is_net" = some (.ref fN)) (GN : FnOk P w K mg base CX0 5 fN fdN ["thing"] (spIsNet K Pn Pr)) :
    FnOk P w K mg base CX0 6 f fd ["net"] (spNeedNet K Pn Pr) := by
  refine F.ok scNeedNet (fun vs H Q E h => ?_) (fun cdv A outer s H vs Q E hr h => ?_)
  · obtain ⟨a, n, rs, rfl, _⟩ := h
    rfl
  · obtain ⟨a, n, rs, rfl, hN, hG, hl, tn, tr, q⟩ := h
    refine ⟨_, pss_one (ps_if (pt_not (pt_val (pe_call GN hr (by rfl) gN kN bN .nil pass0 (pa_cons (pv 0) pa_nil)))) pss_never pss_nil), ?_⟩
    exact ⟨_, rfl, .ref a, true, rfl, hN.ans hG hl, tn, tr, fun H' k => ⟨_, rfl, iteF (q H' k)⟩⟩
def spNeedPlace (K : PySem.W.Frag) : Sp := fun vs H Q _ => ∃ (a : Addr) (n : Int) (rs : List R4) (v : Int), vs = [.ref a, .int v] ∧ NetAt K H a n rs ∧ 0 ≤ v ∧ v < n ∧ Q .non H
theorem ok_needplace {f fN : Addr} {fd fdN : FuncData} (F : Fun K "need_place" "need_place" sNeedPlace f fd)
    (kN : PySem.W.keepIn K (.ref fN) = true) (bN : Binds K fdN ["net", "thing"] []) (gN : mg "is_place" = some (.ref fN)) (GN : FnOk P w K mg base CX0 3 fN fdN ["net", "thing"] (spIsPlace K)) :
    FnOk P w K mg base CX0 4 f fd ["net", "place"] (spNeedPlace K) := by
  refine F.ok scNeedPlace (fun vs H Q E h => ?_) (fun cdv A outer s H vs Q E hr h => ?_)
  · obtain ⟨a, n, rs, v, rfl, _⟩ := h
    rfl
  · obtain ⟨a, n, rs, v, rfl, hN, h0, h1, q⟩ := h
    refine ⟨_, pss_one (ps_if (pt_not (pt_val (pe_call GN hr (by rfl) gN kN bN .nil pass0 (pa_cons (pv 0) (pa_cons (pv 1) pa_nil))))) pss_never pss_nil), ?_⟩
    refine ⟨_, rfl, _, rfl, a, n, rs, v, rfl, hN, _, rfl, ?_⟩
    rw [decide_eq_true h0, decide_eq_true (show v ≤ n - 1 by omega)]
    exact iteF q
theorem road_at {H : Hp} {xs : List V} {rs : List R4} {j : Nat} {x : V} (h3 : Roads K H xs rs) (hx : xs[j]? = some x) : ∃ (t : R4) (q1 : Addr), rs[j]? = some t ∧ x = .ref q1 ∧ SqT K H q1 t.vs := by
  obtain ⟨d, e1, e2⟩ := dpAll_get h3 hx
  obtain ⟨t, rfl, hrd⟩ : ∃ t : R4, d = t.d ∧ rs[j]? = some t := by
    rw [List.getElem?_map] at e1
    cases e3 : rs[j]? with
    | none => rw [e3] at e1; cases e1
    | some t => rw [e3] at e1; cases e1; exact ⟨t, rfl, rfl⟩
  obtain ⟨q1, rfl, hs⟩ := dp_r4 e2
  exact ⟨t, q1, hrd, rfl, hs⟩
theorem dget {H : Hp} {p : Addr} {kvs : List (Key × V)} {g : IF} {v x : Int} (hk : H p = some (.dK kvs)) (hD : DI kvs g) (e : g v = some x) : DGet H p (.int v) (some (.int x)) := by
  have := DGet.k (k := Sum.inl v) hk
  rw [hD.val, e] at this
  exact this
theorem inV_mem {i : Int} {js : List Int} (h : i ∈ js) : inV (.int i) (js.map V.int) = true := by
  unfold inV
  rw [List.any_map, List.any_eq_true]
  exact ⟨i, h, by simp [eqV]⟩
theorem upd_back {H : Hp} {p : Addr} {o : HO} (h : H p = some o) : upd H p o = H := by
  funext b
  by_cases e : b = p
  · rw [e, upd_same, h]
  · rw [upd_ne e]
theorem sqT_lock {H : Hp} {a p : Addr} {xs : List V} {kvs : List (Key × V)} {o : HO} (h : SqT K H a xs) (hp : H p = some (.dK kvs)) : SqT K (upd H p o) a xs := by
  rcases h with (h | ⟨o', h⟩) | h
  · exact .inl (.inl (by rw [upd_ne (ne_of h hp (fun z => by cases z))]; exact h))
  · exact .inl (.inr ⟨o', by rw [upd_ne (ne_of h hp (fun z => by cases z))]; exact h⟩)
  · exact .inr h
end
end HK

set_option Elab.async false
set_option linter.all false
set_option maxRecDepth 100000
set_option maxHeartbeats 4000000
namespace HK
open PySem PySem.Spec PyProof.Rows L2 GAl GxR
open Evl (pss_cut)
theorem dgetR {H : Hp} {p : Addr} {kvs : List (Key × V)} {g : IF} (hk : Rd H p (.dK kvs)) (hD : DI kvs g) (v : Int) : DGet H p (.int v) ((g v).map V.int) := .inl ⟨kvs, Sum.inl v, hk, rfl, by rw [hD.val]⟩
theorem K0.rd {H H' : Hp} {p : Addr} {kvs : List (Key × V)} (k : K0 H H') (h : Rd H p (.dK kvs)) : Rd H' p (.dK kvs) := by
  rcases h with h | ⟨o, h⟩
  · exact .inl (k.oth p _ h (fun _ z => by cases z))
  · exact .inr ⟨o, k.oth p _ h (fun _ z => by cases z)⟩
section
variable {P : Program} {w : World} {K : PySem.W.Frag} {mg : Str → Option Value} {base : Heap}
theorem tabG_lock {H : Hp} {p : Addr} {u o : HO} {Pp : Addr} (h : H p = some u) (nt : ∀ ps, u ≠ .tbl ps) (hT : TabG H Pp) : TabG (upd H p o) Pp := by
  obtain ⟨ps, e, ht⟩ := hT
  exact ⟨ps, by rw [upd_ne (fun z => by rw [z, h] at e; exact nt ps (Option.some.inj e))]; exact e, ht⟩
theorem netAt_lock {H : Hp} {a p : Addr} {n : Int} {rs : List R4} {kvs : List (Key × V)} {od : Obj} (h : NetAt K H a n rs) (hp : H p = some (.dK kvs)) : NetAt K (upd H p (.frz od (.dK kvs))) a n rs := by
  obtain ⟨r, xs, o, h1, h2, hc, hd, h3⟩ := h
  refine ⟨r, xs, o, sqT_lock h1 hp, by rw [upd_ne (ne_of h2 hp (fun z => by cases z))]; exact h2, hc, hd, ?_⟩
  clear h1 h2
  unfold Roads at h3 ⊢
  induction rs generalizing xs with
  | nil => cases h3; exact .nil
  | cons r rs ih =>
    cases h3 with
    | cons a b =>
      refine .cons ?_ (ih _ b)
      obtain ⟨q, rfl, h⟩ := dp_r4 (r := r) a
      exact r4_dp (r := r) (sqT_lock h hp)
end
end HK

set_option Elab.async false
set_option linter.all false
set_option maxRecDepth 100000
set_option maxHeartbeats 4000000
namespace HK
open PySem PySem.Spec PyProof.Rows L2 GAl GxR
theorem sub_len {l ks : List Int} (nl : l.Nodup) (nk : ks.Nodup) (h : ∀ x ∈ l, x ∈ ks) : l.length ≤ ks.length := by
  have pm : (ks.filter fun x => decide (x ∈ l)).Perm l := (List.perm_ext_iff_of_nodup (List.Nodup.sublist List.filter_sublist nk) nl).mpr fun x => by
    rw [List.mem_filter]
    exact ⟨fun z => of_decide_eq_true z.2, fun z => ⟨h x z, decide_eq_true z⟩⟩
  rw [← pm.length_eq]
  exact List.length_filter_le _ _
/-- the tables of generator expressions -/
def TbL (H : Hp) (l : List Addr) : Prop := ∀ P ∈ l, TabG H P
theorem TbL.kt {t : Addr} {H H' : Hp} {l : List Addr} (h : TbL H l) (k : Kt t H H') : TbL H' l := fun P hP => k.tab P (h P hP)
theorem TbL.k0 {H H' : Hp} {l : List Addr} (h : TbL H l) (k : K0 H H') : TbL H' l := fun P hP => k.tab P (h P hP)
end HK

set_option Elab.async false
set_option linter.all false
set_option maxRecDepth 100000
set_option maxHeartbeats 2000000
/-! list(d.values()); set(t) of a tuple of whole numbers -/
namespace HkL
open PySem PySem.Spec PyProof.Rows L2
section
variable {X : Cx} {e : Expr} {te : TE} {p apos cpos pos : Pos}
def tListVals (te : TE) : TE := fun σ H Q => te σ H fun x H1 => ∃ (d : Addr) (kvs : List (Key × V)), x = .ref d ∧ Rd H1 d (.dK kvs) ∧ kvs.length ≤ sizeLine ∧ ∀ q, H1 q = none → Q (.ref q) (upd H1 q (.lst (kvs.map (·.2))))
theorem dict_at {pins : List (Addr × Obj)} {σ : L2.St} {H : Hp} {s : Shared} {d : Addr} {kvs : List (Key × V)} (I : Inv X pins σ H s) (h : Rd H d (.dK kvs)) : ∃ vs ep, KV kvs vs ∧ s.heap.DictAt (mixKind X.prog X.w) d vs ep ∧ (d == sysModules) = false := by
  rcases h with h | ⟨o, h⟩
  · obtain ⟨z, lo, vs, rk, hd⟩ := (show ObjOk X.prog X.w H s.heap d (.dK kvs) from I.hok d _ h)
    obtain ⟨ep, hat⟩ := hd.dictAt
    exact ⟨vs, ep, rk, hat, lo⟩
  · obtain ⟨hs, hgd, hx, es, ep, vs, hdt, hsz, kv, hm⟩ := I.frzK h
    exact ⟨vs, ep, kv, hm, hs⟩
theorem pe_listVals (hc : X.calm = true) (he : PE X e te) (hg : Gl X "list") (hm : X.mg "list" = none) (hv : bootBuiltins "list" = some (.type "list")) (hbase : attributeBase e "values" X.env (eval e X.env) = eval e X.env := by rfl) (hline : (apos.endLine == cpos.line) = true := by rfl)
    (hs : starEach [.Call (.Attribute e "values" apos) [] [] cpos] X.env = (false, eval (.Call (.Attribute e "values" apos) [] [] cpos) X.env) :: starEach [] X.env := by rfl) :
    PE X (.Call (.Name "list" p) [.Call (.Attribute e "values" apos) [] [] cpos] [] pos) (tListVals te) := by
  refine ⟨fun pins s σ H Q I hq => ?_⟩
  refine wpAny_Call_Name_kw (ld_blt I hg hm hv ?_)
  refine PyProof.Rows.callWith_type1 ?_ hs rfl
  rw [hs]
  show wpAny _ _ (spliced ((false, eval (.Call (.Attribute e "values" apos) [] [] cpos) X.env) :: backTo pos (starEach [] X.env))) _ _ s
  refine Calls.spliced_cons ?_
  refine wpAny_Call_method (T := "dict") (id := "dict.values") hbase rfl hline F.plainAttrs_dict F.slot_dict_values F.type_dict_values (thn (he.run pins s σ H _ I hq) fun u s1 ⟨x, H1, I1, rx, d, kvs, ex, hd, hz, q⟩ => ?_)
  subst ex
  obtain rfl : u = Value.ref d := rx
  obtain ⟨vs, ep, kv, hat, hs0⟩ := dict_at I1 hd
  have hdo := hat.dictOf
  have lk : kvs.length = vs.length := Paired.length kv
  have I2 : Inv X pins σ H1 { s1 with heap := s1.heap.push { cls := .type "dict_values", data := .fields #[.ref d] } } := I1.kept (t' := s1.toks) fun b ob q => Heap.get?_push_of_some _ q
  refine ⟨hdo.typeIs, hdo.mapOf.noDict, ?_⟩
  show wpAny _ _ (callWith cpos (.builtin "dict.values") [.ref d] [] []) _ X.xe s1
  refine method_meetsIn F.slot_dict_values F.entry_dict_values rfl (PySem.evalArgs_none ⟨rfl, hdo.typeIs, F.args_dict_values_1 _, _, meets_dict_values (mixKind X.prog X.w) d hs0, ⟨vs, hdo⟩, ?_⟩)
  refine Calls.spliced_nil ?_
  refine PySem.W.kdl_call (PySem.W.kdl_values (knd := mixKind X.prog X.w) (kvs := vs) (ep := ep) (r := s1.heap.objs.size) (d := d)) (I1.ok.hd hc) ⟨⟨_, Heap.get?_push_size _ rfl, rfl, rfl⟩, hat.push _⟩ (by rw [← lk]; exact hz) fun h' tk acc' c' hkeep hS hacc => ?_
  refine ⟨.ref _, upd H1 _ (.lst (kvs.map (·.2))), I2.laid hkeep (Nat.le_refl _) (show ObjOk X.prog X.w _ _ _ (.lst (kvs.map (·.2))) from ⟨?_, acc'.toList, c', ?_, ?_⟩), rfl, q _ (I2.hok.fresh (Nat.le_refl _))⟩
  · rw [List.length_map]; exact hz
  · have el : acc'.toList.length = acc'.size := by simp
    refine vals_of_at (by rw [List.length_map, el, hacc.1, lk]) fun j x w h1 h2 => ?_
    obtain ⟨k, hky⟩ := hacc.2 j w (by rw [← Array.getElem?_toList]; exact h2)
    rw [List.getElem?_map] at h1
    cases e2 : kvs[j]? with
    | none => rw [e2] at h1; cases h1
    | some pk =>
      rw [e2] at h1
      cases h1
      obtain ⟨qv, g1, g2, g3⟩ := LiI.paired_get kv e2
      rw [hky] at g1
      cases g1
      exact g3
  · rw [Array.toArray_toList]; exact hS
/-- tuple(l), tuple(t) -/
def rTup (K : PySem.W.Frag) : List V → Hp → VK → Prop := fun xs H Q => ∃ p ys, xs = [.ref p] ∧ ((SqL K H p ys ∧ ∀ l, H l = none → Q (.ref l) (upd H l (.tup ys))) ∨ (SqT K H p ys ∧ Q (.ref p) H))
theorem call_tupR : CallR X (.type "tuple") (rTup X.K) := call_tuple_of
/-- set(t) -/
def rSetT (K : PySem.W.Frag) (w : World) : List V → Hp → VK → Prop := fun vs H Q => ∃ (l : Addr) (ns : List Int), vs = [.ref l] ∧ SqT K H l (ns.map V.int) ∧ ns.length ≤ 1000 ∧ ∀ (p : Addr) (c : Nat), H p = none → c ≤ ns.length → Q (.ref p) (upd H p (SetO w p (fun j => decide (j ∈ ns)) c))
theorem cr_setT (hc : X.calm = true) : CallR X (.type "set") (rSetT X.K X.w) := by
  intro pins s σ H vs us Q I r h
  obtain ⟨l, ns, rfl, hl, hb, q⟩ := h
  cases r with
  | cons r rr =>
    cases rr
    cases r
    obtain ⟨its, rv, pt, hz⟩ := I.tuple hl
    have hi : IntsAre its.toArray.toList ns := ints_of_vals rv
    refine call_set_tupI ns (I.ok.hd hc) (show s.heap.IsTuple l its.toArray from pt) hi (by unfold scanBound; omega) fun h' tk c R1 hcn k => ?_
    exact ⟨.ref _, upd H s.heap.objs.size (SetO X.w s.heap.objs.size (fun j => decide (j ∈ ns)) c), I.laid k (Nat.le_refl _) (setO_new R1), rfl, q _ c (I.hok.fresh (Nat.le_refl _)) hcn⟩
end
end HkL

set_option Elab.async false
set_option linter.all false
set_option maxRecDepth 100000
set_option maxHeartbeats 4000000
namespace HK
open PySem PySem.Spec PyProof.Rows L2 GAl GxR
open Evl (pss_cut)
abbrev sAreP : Stmt := topS 16
abbrev N_scAreP : List Str := ["net", "thing", "place"]
theorem scAreP : FnScope N_scAreP ["net", "thing"] (defScope sAreP) := ⟨rfl, rfl, rfl, by decide +kernel, rfl, by decide +kernel, by decide +kernel⟩
abbrev N_scRises : List Str := ["row", "low", "high"]
/-! ### rising tuples of places -/
def risI (l : List Int) : Bool := (List.range (l.length - 1)).all fun i => decide (l.getD i 0 < l.getD (i + 1) 0)
theorem risI_yes {l : List Int} (h : ∀ j, j < l.length - 1 → l.getD j 0 < l.getD (j + 1) 0) : risI l = true := by
  unfold risI
  rw [List.all_eq_true]
  exact fun j hj => decide_eq_true (h j (List.mem_range.mp hj))
theorem risI_no {l : List Int} {j : Nat} (hj : j < l.length - 1) (h : ¬ l.getD j 0 < l.getD (j + 1) 0) : risI l = false := by
  unfold risI
  rw [Bool.eq_false_iff]
  intro z
  exact h (of_decide_eq_true (List.all_eq_true.mp z j (List.mem_range.mpr hj)))
theorem risI_iff {l : List Int} : risI l = true ↔ l.Pairwise (· < ·) := by
  constructor
  · intro h
    have step : ∀ j, j < l.length - 1 → l.getD j 0 < l.getD (j + 1) 0 := fun j hj => by
      unfold risI at h
      exact of_decide_eq_true (List.all_eq_true.mp h j (List.mem_range.mpr hj))
    have far : ∀ d i, i + d + 1 < l.length → l.getD i 0 < l.getD (i + d + 1) 0 := fun d => by
      induction d with
      | zero => exact fun i hi => step i (by omega)
      | succ d ih =>
        intro i hi
        have h1 := ih i (by omega)
        have h2 := step (i + d + 1) (by omega)
        rw [show i + (d + 1) + 1 = i + d + 1 + 1 by omega]
        omega
    rw [List.pairwise_iff_getElem]
    intro i j hi hj hij
    have := far (j - i - 1) i (by omega)
    rw [show i + (j - i - 1) + 1 = j by omega] at this
    simpa [List.getD_eq_getElem?_getD, List.getElem?_eq_getElem hi, List.getElem?_eq_getElem hj] using this
  · intro h
    refine risI_yes fun j hj => ?_
    have := List.pairwise_iff_getElem.mp h j (j + 1) (by omega) (by omega) (by omega)
    simpa [List.getD_eq_getElem?_getD, List.getElem?_eq_getElem (show j < l.length by omega), List.getElem?_eq_getElem (show j + 1 < l.length by omega)] using this
def AreP (n : Int) (l : List Int) : Prop := (∀ v ∈ l, 0 ≤ v ∧ v < n) ∧ l.Pairwise (· < ·)
theorem AreP.len {n : Int} {l : List Int} (h : AreP n l) : l.length ≤ n.toNat := by
  have nd : l.Nodup := h.2.imp fun a => Int.ne_of_lt a
  have := sub_len (ks := (List.range n.toNat).map fun (i : Nat) => (i : Int)) nd (List.pairwise_map.mpr (List.pairwise_lt_range.imp fun a z => by omega)) fun x hx => by
    obtain ⟨h0, h1⟩ := h.1 x hx
    exact List.mem_map.mpr ⟨x.toNat, List.mem_range.mpr (by omega), by omega⟩
  simpa using this
theorem cut1' (xs : List V) : cutV xs (some 1) none = xs.drop 1 := cut1 xs
theorem getI {ns : List Int} {i : Nat} {x : V} (h : (ns.map V.int)[i]? = some x) : x = .int (ns.getD i 0) := by
  rw [List.getElem?_map] at h
  cases e : ns[i]? with
  | none => rw [e] at h; cases h
  | some v => rw [e] at h; cases h; rw [List.getD_eq_getElem?_getD, e]; rfl
section
variable {P : Program} {w : World} {K : PySem.W.Frag} {mg : Str → Option Value} {base : Heap}
def spRisesI (K : PySem.W.Frag) (Pr : Addr) : Sp := fun vs H Q _ => ∃ (a : Addr) (ns : List Int), vs = [.ref a] ∧ SqT K H a (ns.map V.int) ∧ TabG H Pr ∧ ∀ H', K0 H H' → Q (.bl (risI ns)) H'
theorem ok_risesI {f c Pr : Addr} {fd : FuncData} (F : FunC K "rises" "rises" sRises f fd c) (TB : TabB base mg c Pr) (m_zip : mg "zip" = none) (m_all : mg "all" = none) : FnOk P w K mg base CX0 2 f fd ["row"] (spRisesI K Pr) := by
  refine F.ok scRises (fun vs H Q E h => ?_) (fun A outer s H vs Q E hr h => ?_)
  · obtain ⟨a, ns, rfl, _⟩ := h
    rfl
  · obtain ⟨a, ns, rfl, hS, hP, q⟩ := h
    refine ⟨_, (pss_one (ps_ret (pe_allG (own := [("low", 1), ("high", 2)]) (k := 0) (g := (gTup K 2 (gCons (gName 1) (gCons (gName 2) gNil)))) (tt := tYes) (te := (tOp (rI0 fun i j => .bl (decide (i < j))) (tVar 1) (tVar 2))) (hr.mono (by decide)) (by rfl) m_all rfl scRises.nd TB rfl (gsc_by (N := N_scRises) (sc := defScope sRises) (by decide +kernel)) (RZ.pi_zipA (by rfl) m_zip (pa_cons (pv 0) (pa_cons (pe_slice sl_tupA (pv 0) (po_some pe_int) po_none) pa_nil))) (fun A' hr' _ _ _ _ _ _ => (pg_tup rfl (pgs_cons (pg_name (i := 1) scRises.nd rfl (.inl rfl)) (pgs_cons (pg_name (i := 2) scRises.nd rfl (.inl rfl)) pgs_nil)))) (fun A' hr' _ _ _ _ _ _ => pts_nil) (fun A' hr' _ _ _ _ _ _ => (pe_cmpR op_lt (pv 1) (pv 2) (nomark _)))))), ?_⟩
    have go : ∀ (c : Addr) (H1 : Hp), K0 H H1 → SqT K H1 c ((ns.map V.int).drop 1) → ∃ xs ys, xs = ns.map V.int ∧ SqT K H1 a xs ∧ SqT K H1 c ys ∧ TabG H1 Pr ∧ ∀ H2, Tabbed Pr H1 H2 → ∃ W : Nat → Nat → Hp → Prop, (∃ m, W 0 m H2) ∧
        GTurn (RZ.ItzT K a c) (gTup K 2 (gCons (gName 1) (gCons (gName 2) gNil))) tYes (tOp (rI0 fun i j => .bl (decide (i < j))) (tVar 1) (tVar 2)) [1, 2] [some (.ref a), none, none] (Q (.bl true)) (stpAll (Q (.bl false))) W := fun c H1 k1 hC1 => by
      refine ⟨_, _, rfl, k1.sqT hS, hC1, k1.tab _ hP, fun H2 hT2 => ?_⟩
      have kt := K0.tbd (k1.tab _ hP) hT2
      have k2 : K0 H H2 := k1.trans kt
      refine ⟨fun i m H3 => i + m = ns.length - 1 ∧ K0 H2 H3 ∧ ∀ j, j < i → ns.getD j 0 < ns.getD (j + 1) 0, ⟨ns.length - 1, by omega, K0.refl _, fun j hj => absurd hj (Nat.not_lt_zero _)⟩, fun i m H3 hW => ?_⟩
      obtain ⟨em, k3, hlt⟩ := hW
      have k13 := k2.trans k3
      have hA : SqT K H3 a (ns.map V.int) := k13.sqT hS
      have hC : SqT K H3 c ((ns.map V.int).drop 1) := (kt.trans k3).sqT hC1
      by_cases hi : i < ns.length - 1
      · have h1 : i < (ns.map V.int).length := by rw [List.length_map]; omega
        have h2 : i + 1 < (ns.map V.int).length := by rw [List.length_map]; omega
        have g1 : (ns.map V.int)[i]? = some (ns.map V.int)[i] := List.getElem?_eq_getElem h1
        have g2 : ((ns.map V.int).drop 1)[i]? = some (ns.map V.int)[i + 1] := by rw [List.getElem?_drop, Nat.add_comm 1 i]; exact List.getElem?_eq_getElem h2
        refine .inr ⟨⟨_, _, _, _, hA, hC, g1, g2⟩, fun H' => K0 H2 H' ∧ ns.getD i 0 < ns.getD (i + 1) 0, fun H' hN => ?_, fun x H' hy => ?_⟩
        · obtain ⟨k', hl'⟩ := hN
          refine ⟨m - 1, by omega, by omega, k', fun j hj => ?_⟩
          by_cases e : j = i
          · rw [e]; exact hl'
          · exact hlt j (by omega)
        · obtain ⟨T, x1, x2, rfl, nT, rfl, f1, f2⟩ := hy
          have ex1 : x1 = .int (ns.getD i 0) := getI (f1 _ hA)
          have ex2 : x2 = .int (ns.getD (i + 1) 0) := getI (by
            have := f2 _ hC
            rwa [List.getElem?_drop, Nat.add_comm 1 i] at this)
          subst ex1 ex2
          have kT : K0 H3 (upd H3 T (.tup [.int (ns.getD i 0), .int (ns.getD (i + 1) 0)])) := K0.new nT
          refine ⟨T, _, rfl, .inl (.inl upd_same), rfl, _, _, rfl, _, _, rfl, rfl, rfl, tyes ?_⟩
          refine ⟨_, rfl, _, rfl, _, _, rfl, rfl, _, rfl, ?_⟩
          by_cases hb : ns.getD i 0 < ns.getD (i + 1) 0
          · rw [decide_eq_true hb]
            exact iteT ⟨k3.trans kT, hb⟩
          · rw [decide_eq_false hb]
            exact iteF (qeq (q _ (k13.trans kT)) (risI_no hi hb))
      · refine .inl ⟨⟨_, _, hA, hC, .inr (by rw [List.length_drop, List.length_map]; omega)⟩, ?_⟩
        exact qeq (q _ k13) (risI_yes fun j hj => hlt j (by omega))
    refine ⟨.ref a, rfl, .ref a, rfl, 1, rfl, a, _, rfl, hS, fun z => ?_, fun _ c nc => ?_⟩
    · have e0 : (ns.map V.int).drop 1 = ns.map V.int := by
        cases ns with
        | nil => rfl
        | cons v r =>
          have := z.1
          rw [show HT.sIx ((v :: r).map V.int).length 0 (some 1) = min 1 ((v :: r).map V.int).length from HT.sIx_nat _ 0 1, List.length_map, List.length_cons] at this
          omega
      obtain ⟨xs, ys, e, h1, h2, h3⟩ := go a H (K0.refl H) (by rw [e0]; exact hS)
      exact ⟨a, a, xs, ys, rfl, .inr ⟨h1, h2, h3⟩⟩
    · obtain ⟨xs, ys, e, h1, h2, h3⟩ := go c _ (K0.new nc) (by rw [← cut1]; exact .inl (.inl upd_same))
      exact ⟨a, c, xs, ys, rfl, .inr ⟨h1, h2, h3⟩⟩
def spAreP (K : PySem.W.Frag) (Pr Pa : Addr) : Sp := fun vs H Q _ => ∃ (a : Addr) (n : Int) (rs : List R4) (p : Addr) (ns : List Int), vs = [.ref a, .ref p] ∧ NetAt K H a n rs ∧ SqT K H p (ns.map V.int) ∧ TabG H Pr ∧ TabG H Pa ∧ ∀ (H' : Hp) (b : Bool), K0 H H' → (b = true ↔ AreP n ns) → Q (.bl b) H'
theorem ok_arep {f c Pr Pa : Addr} {fd : FuncData} {f_isplace f_rises : Addr} {fd_isplace fd_rises : FuncData} (F : FunC K "are_places" "are_places" sAreP f fd c) (TB : TabB base mg c Pa)
    (k_isplace : PySem.W.keepIn K (.ref f_isplace) = true) (b_isplace : Binds K fd_isplace ["net", "thing"] []) (g_isplace : mg "is_place" = some (.ref f_isplace)) (G_isplace : FnOk P w K mg base CX0 3 f_isplace fd_isplace ["net", "thing"] (spIsPlace K))
    (k_rises : PySem.W.keepIn K (.ref f_rises) = true) (b_rises : Binds K fd_rises ["row"] []) (g_rises : mg "rises" = some (.ref f_rises)) (G_rises : FnOk P w K mg base CX0 2 f_rises fd_rises ["row"] (spRisesI K Pr))
    (m_isinstance : mg "isinstance" = none) (m_tuple : mg "tuple" = none) (m_all : mg "all" = none) : FnOk P w K mg base CX0 5 f fd ["net", "thing"] (spAreP K Pr Pa) := by
  refine F.ok scAreP (fun vs H Q E h => ?_) (fun A outer s H vs Q E hr h => ?_)
  · obtain ⟨a, n, rs, p, ns, rfl, _⟩ := h
    rfl
  · obtain ⟨a, n, rs, p, ns, rfl, hN, hS, tr, ta, q⟩ := h
    refine ⟨_, (pss_cons (ps_if (pt_not (pt_val (pe_callB call_isi (by rfl) m_isinstance boot_isinstance (pa_cons (pv 1) (pa_cons (pe_bltn (v := .ty "tuple") (by rfl) m_tuple (by decide +kernel) rfl) pa_nil))))) (pss_one (ps_ret pe_bl)) pss_nil)
      (pss_one (ps_ret (pe_and (pe_allG (own := [("place", 2)]) (k := 3) (g := (gName 2)) (tt := tYes) (te := (tCall (spIsPlace K) [] E0 (tCons (tVar 0) (tCons (tVar 2) tNil)))) (hr.mono (by decide)) (by rfl) m_all rfl scAreP.nd TB rfl (gsc_by (N := N_scAreP) (sc := defScope sAreP) (by decide +kernel)) (pi_tup (pv 1)) (fun A' hr' _ _ _ _ _ _ => (pg_name (i := 2) scAreP.nd rfl (.inl rfl))) (fun A' hr' _ _ _ _ _ _ => pts_nil) (fun A' hr' _ _ _ _ _ _ => (pe_call G_isplace (hr'.mono (by decide)) (by rfl) g_isplace k_isplace b_isplace .nil pass0 (pa_cons (pv 0) (pa_cons (pv 2) pa_nil))))) (pe_one (pe_call G_rises (hr.mono (by decide)) (by rfl) g_rises k_rises b_rises .nil pass0 (pa_cons (pv 1) pa_nil))))))), ?_⟩
    refine ⟨_, rfl, .ref p, .ty "tuple", .type "tuple", _, true, rfl, .ty "tuple", sqT_ty hS, kit_ty (tys_tuple (by decide)), _, rfl, iteF ?_⟩
    refine ⟨_, rfl, p, rfl, ⟨_, hS⟩, ta, fun H2 hT2 => ?_⟩
    have k2 : K0 H H2 := K0.tbd ta hT2
    refine ⟨fun i m H3 => i + m = ns.length ∧ K0 H H3 ∧ ∀ v ∈ ns.take i, 0 ≤ v ∧ v < n, ⟨ns.length, by omega, k2, fun v hv => by rw [List.take_zero] at hv; cases hv⟩, fun i m H3 hW => ?_⟩
    obtain ⟨em, k3, hall⟩ := hW
    have hA : SqT K H3 p (ns.map V.int) := k3.sqT hS
    by_cases hi : i < ns.length
    · have h1 : i < (ns.map V.int).length := by rw [List.length_map]; omega
      have g1 : (ns.map V.int)[i]? = some (ns.map V.int)[i] := List.getElem?_eq_getElem h1
      have g0 : ns[i]? = some ns[i] := List.getElem?_eq_getElem hi
      refine .inr ⟨⟨_, _, hA, g1⟩, fun H' => K0 H H' ∧ (0 ≤ ns[i] ∧ ns[i] < n), fun H' hN => ⟨m - 1, by omega, by omega, hN.1, fun v hv => ?_⟩, fun x H' hy => ?_⟩
      · rw [List.take_add_one, g0] at hv
        rcases List.mem_append.mp hv with hv | hv
        · exact hall v hv
        · have := List.mem_singleton.mp hv
          subst this
          exact hN.2
      · obtain ⟨rfl, fx⟩ := hy
        have ex : x = .int ns[i] := by
          have := fx _ hA
          rw [List.getElem?_map, g0] at this
          exact (Option.some.inj this).symm
        subst ex
        refine ⟨rfl, tyes ⟨_, rfl, _, rfl, a, n, rs, ns[i], rfl, hN.k0 k3, _, rfl, ?_⟩⟩
        by_cases hb : 0 ≤ ns[i] ∧ ns[i] < n
        · rw [decide_eq_true hb.1, decide_eq_true (show ns[i] ≤ n - 1 by omega)]
          exact iteT ⟨k3, hb⟩
        · have : (decide (0 ≤ ns[i]) && decide (ns[i] ≤ n - 1)) = false := by
            rw [Bool.eq_false_iff]
            intro z
            rw [Bool.and_eq_true, decide_eq_true_iff, decide_eq_true_iff] at z
            exact hb ⟨z.1, by omega⟩
          rw [this]
          exact iteF ⟨_, rfl, iteF (q _ false k3 ⟨fun z => by (cases z), fun z => absurd (z.1 _ (List.getElem_mem hi)) hb⟩)⟩
    · rw [List.take_of_length_le (by omega)] at hall
      refine .inl ⟨⟨_, hA, by rw [List.length_map]; omega⟩, _, rfl, iteT ?_⟩
      refine ⟨_, rfl, p, ns, rfl, hA, k3.tab _ tr, fun H4 k4 => ?_⟩
      exact q _ _ (k3.trans k4) ⟨fun z => ⟨hall, risI_iff.mp z⟩, fun z => risI_iff.mpr z.2⟩
end
end HK

set_option Elab.async false
set_option linter.all false
set_option maxRecDepth 100000
set_option maxHeartbeats 4000000
namespace HK
open PySem PySem.Spec PyProof.Rows L2 GAl GxR
open Evl (pss_cut)
abbrev sIsClosed : Stmt := topS 22
abbrev N_scIsClosed : List Str := ["net", "root", "places", "start", "end", "cost", "late"]
theorem scIsClosed : FnScope N_scIsClosed ["net", "root", "places"] (defScope sIsClosed) := ⟨rfl, rfl, rfl, by decide +kernel, rfl, by decide +kernel, by decide +kernel⟩
/-- places out of which no road leads -/
def ClosedP (n : Int) (rs : List R4) (root : Int) (ns : List Int) : Prop := AreP n ns ∧ root ∈ ns ∧ ∀ r ∈ rs, r.s ∈ ns → r.e ∈ ns
theorem flatI (ns : List Int) : (ns.map V.int).all flatV = true := by
  rw [List.all_map, List.all_eq_true]
  exact fun _ _ => rfl
theorem inI_iff {i : Int} {js : List Int} : inV (.int i) (js.map V.int) = true ↔ i ∈ js := by
  unfold inV
  rw [List.any_map, List.any_eq_true]
  constructor
  · rintro ⟨x, hx, e⟩
    have e : (x == i) = true := e
    rw [← beq_iff_eq.mp e]; exact hx
  · intro h
    exact ⟨i, h, by simp [eqV]⟩
theorem inI {k : Int} {ns : List Int} : inV (V.int k) (ns.map V.int) = decide (k ∈ ns) := by
  rw [Bool.eq_iff_iff, inI_iff, decide_eq_true_iff]
section
variable {P : Program} {w : World} {K : PySem.W.Frag} {mg : Str → Option Value} {base : Heap}
def spIsClosed (K : PySem.W.Frag) (Pn Pr Pa Pc : Addr) : Sp := fun vs H Q _ => ∃ (a : Addr) (n : Int) (rs : List R4) (root : Int) (p : Addr) (ns : List Int), vs = [.ref a, .int root, .ref p] ∧ NetAt K H a n rs ∧ Good n rs ∧ rs.length ≤ 156 ∧ 0 ≤ root ∧ root < n ∧ SqT K H p (ns.map V.int) ∧ ns.length ≤ 1000 ∧
  TbL H [Pn, Pr, Pa, Pc] ∧ ∀ (H' : Hp) (b : Bool), K0 H H' → (b = true ↔ ClosedP n rs root ns) → Q (.bl b) H'
theorem ok_isclosed {f c Pn Pr Pa Pc : Addr} {fd : FuncData} {f_neednet f_needplace f_areplaces : Addr} {fd_neednet fd_needplace fd_areplaces : FuncData} (F : FunC K "is_closed" "is_closed" sIsClosed f fd c) (TB : TabB base mg c Pc)
    (k_neednet : PySem.W.keepIn K (.ref f_neednet) = true) (b_neednet : Binds K fd_neednet ["net"] []) (g_neednet : mg "need_net" = some (.ref f_neednet)) (G_neednet : FnOk P w K mg base CX0 6 f_neednet fd_neednet ["net"] (spNeedNet K Pn Pr))
    (k_needplace : PySem.W.keepIn K (.ref f_needplace) = true) (b_needplace : Binds K fd_needplace ["net", "place"] []) (g_needplace : mg "need_place" = some (.ref f_needplace)) (G_needplace : FnOk P w K mg base CX0 4 f_needplace fd_needplace ["net", "place"] (spNeedPlace K))
    (k_areplaces : PySem.W.keepIn K (.ref f_areplaces) = true) (b_areplaces : Binds K fd_areplaces ["net", "thing"] []) (g_areplaces : mg "are_places" = some (.ref f_areplaces)) (G_areplaces : FnOk P w K mg base CX0 5 f_areplaces fd_areplaces ["net", "thing"] (spAreP K Pr Pa))
    (m_all : mg "all" = none) : FnOk P w K mg base CX0 7 f fd ["net", "root", "places"] (spIsClosed K Pn Pr Pa Pc) := by
  refine F.ok scIsClosed (fun vs H Q E h => ?_) (fun A outer s H vs Q E hr h => ?_)
  · obtain ⟨a, n, rs, root, p, ns, rfl, _⟩ := h
    rfl
  · obtain ⟨a, n, rs, root, p, ns, rfl, hN, hG, hl, r0, r1, hp, hnl, tb, q⟩ := h
    have hu := hu_of hr
    refine ⟨_, (pss_cons (ps_expr (pe_call G_neednet (hr.mono (by decide)) (by rfl) g_neednet k_neednet b_neednet .nil pass0 (pa_cons (pv 0) pa_nil)))
      (pss_cons (ps_expr (pe_call G_needplace (hr.mono (by decide)) (by rfl) g_needplace k_needplace b_needplace .nil pass0 (pa_cons (pv 0) (pa_cons (pv 1) pa_nil))))
      (pss_cons (ps_if (PW.pt (pw_or (pt_not (pt_val (pe_call G_areplaces (hr.mono (by decide)) (by rfl) g_areplaces k_areplaces b_areplaces .nil pass0 (pa_cons (pv 0) (pa_cons (pv 2) pa_nil))))) (pw_or1 (pt_cmpR op_notIn_seq (pv 1) (pv 2) rfl)))) (pss_one (ps_ret pe_bl)) pss_nil)
      (pss_one (ps_ret (pe_allG (own := [("start", 3), ("end", 4), ("cost", 5), ("late", 6)]) (k := 0) (g := (gTup K 4 (gCons (gName 3) (gCons (gName 4) (gCons (gName 5) (gCons (gName 6) gNil)))))) (tt := (tTest (tOp (rIn K false) (tVar 3) (tVar 2)))) (te := (tOp (rIn K false) (tVar 4) (tVar 2))) (hr.mono (by decide)) (by rfl) m_all rfl scIsClosed.nd TB rfl (gsc_by (N := N_scIsClosed) (sc := defScope sIsClosed) (by decide +kernel)) (pi_tup (pe_ix ix_tup (pv 0) pe_int (fun _ _ => rfl))) (fun A' hr' _ _ _ _ _ _ => (pg_tup rfl (pgs_cons (pg_name (i := 3) scIsClosed.nd rfl (.inl rfl)) (pgs_cons (pg_name (i := 4) scIsClosed.nd rfl (.inl rfl)) (pgs_cons (pg_name (i := 5) scIsClosed.nd rfl (.inl rfl)) (pgs_cons (pg_name (i := 6) scIsClosed.nd rfl (.inl rfl)) pgs_nil)))))) (fun A' hr' _ _ _ _ _ _ => (pts_one (pt_cmpR op_in_seq (pv 3) (pv 2) rfl))) (fun A' hr' _ _ _ _ _ _ => (pe_cmpR op_in_seq (pv 4) (pv 2) rfl)))))))), ?_⟩
    refine ⟨_, rfl, a, n, rs, rfl, hN, hG, hl, tb Pn (by simp), tb Pr (by simp), fun H1 k1 => ?_⟩
    refine ⟨_, rfl, _, rfl, a, n, rs, root, rfl, hN.k0 k1, r0, r1, ?_⟩
    refine ⟨_, rfl, _, rfl, a, n, rs, p, ns, rfl, hN.k0 k1, k1.sqT hp, k1.tab _ (tb Pr (by simp)), k1.tab _ (tb Pa (by simp)), fun H2 b k2 hb => ⟨_, rfl, ?_⟩⟩
    have k12 := k1.trans k2
    cases b with
    | false => exact iteT (iteT (q _ false k12 ⟨fun z => (by cases z), fun z => absurd (hb.mpr z.1) (by decide)⟩))
    | true =>
      have hA := hb.mp rfl
      refine iteF ⟨_, rfl, _, rfl, p, _, rfl, .inr (k12.sqT hp), rfl, flatI ns, _, rfl, ?_⟩
      show if (!inV (V.int root) (ns.map V.int)) = true then _ else _
      rw [inI]
      by_cases hm : root ∈ ns
      · rw [decide_eq_true hm]
        refine iteF ?_
        have hN2 := hN.k0 k12
        obtain ⟨r, xs, o, h1, h2, hc, hdd, h3⟩ := hN2
        have hxs : SqT K H2 r xs := .inl (.inr ⟨o, h2⟩)
        have hrl : xs.length = rs.length := h3.len
        have tq : TabG H2 Pc := k12.tab _ (tb Pc (by simp))
        refine ⟨_, rfl, a, _, 1, .ref r, rfl, rfl, h1, atI_nat (j := 1) rfl, r, rfl, ⟨xs, hxs⟩, tq, fun H3 hT3 => ?_⟩
        have k3 : K0 H2 H3 := K0.tbd tq hT3
        refine ⟨fun i m H4 => i + m = xs.length ∧ K0 H2 H4 ∧ ∀ rd ∈ rs.take i, rd.s ∈ ns → rd.e ∈ ns, ⟨xs.length, by omega, k3, fun rd hrd => (by rw [List.take_zero] at hrd; cases hrd)⟩, fun i m H4 hW => ?_⟩
        obtain ⟨em, k4, hall⟩ := hW
        have hY : SqT K H4 r xs := k4.sqT hxs
        have k14 := k12.trans k4
        by_cases hi : i < xs.length
        · have g1 : xs[i]? = some xs[i] := List.getElem?_eq_getElem hi
          obtain ⟨rd, q1, hrd, hx, hs⟩ := road_at h3 g1
          have htk : rs.take (i + 1) = rs.take i ++ [rd] := by rw [List.take_add_one, hrd]; rfl
          refine .inr ⟨⟨_, _, hY, g1⟩, fun H' => K0 H2 H' ∧ (rd.s ∈ ns → rd.e ∈ ns), fun H' hN' => ⟨m - 1, by omega, by omega, hN'.1, fun u hu => ?_⟩, fun x' H' hy => ?_⟩
          · rw [htk] at hu
            rcases List.mem_append.mp hu with hu | hu
            · exact hall u hu
            · rw [List.mem_singleton.mp hu]; exact hN'.2
          · obtain ⟨rfl, fx⟩ := hy
            have ex : x' = xs[i] := Option.some.inj ((fx _ hY).symm.trans g1)
            rw [hx] at ex
            subst ex
            refine ⟨q1, _, rfl, k4.sqT hs, rfl, _, _, rfl, _, _, rfl, _, _, rfl, _, _, rfl, rfl, rfl, ?_⟩
            refine ⟨_, rfl, _, rfl, p, _, rfl, .inr (k14.sqT hp), rfl, flatI ns, _, rfl, ?_⟩
            show if (inV (V.int rd.s) (ns.map V.int)) = true then _ else _
            rw [inI]
            by_cases hs' : rd.s ∈ ns
            · rw [decide_eq_true hs']
              refine iteT ⟨_, rfl, _, rfl, p, _, rfl, .inr (k14.sqT hp), rfl, flatI ns, _, rfl, ?_⟩
              show if (inV (V.int rd.e) (ns.map V.int)) = true then _ else _
              rw [inI]
              by_cases he : rd.e ∈ ns
              · rw [decide_eq_true he]
                exact iteT ⟨k4, fun _ => he⟩
              · rw [decide_eq_false he]
                exact iteF (q _ false k14 ⟨fun z => (by cases z), fun z => absurd (z.2.2 rd (List.mem_of_getElem? hrd) hs') he⟩)
            · rw [decide_eq_false hs']
              exact iteF ⟨k4, fun z => absurd z hs'⟩
        · rw [List.take_of_length_le (by omega)] at hall
          exact .inl ⟨⟨_, hY, by omega⟩, q _ true k14 ⟨fun _ => ⟨hA, hm, hall⟩, fun _ => rfl⟩⟩
      · rw [decide_eq_false hm]
        exact iteT (q _ false k12 ⟨fun z => (by cases z), fun z => absurd z.2.1 hm⟩)
end
end HK

set_option Elab.async false
set_option linter.all false
set_option maxRecDepth 100000
set_option maxHeartbeats 3200000
/-! set(l) of a list of whole numbers (along the library's proofs for tuples of whole numbers and for lists of texts) -/
namespace HkL
open PySem PySem.Spec PyProof.Rows L2
section
variable {P : Program} {w : World} {A : Around} {E : Value → Shared → Prop} {s : Shared}
theorem call_setLi {l : Addr} {items : Array Value} (ns : List Int) {Q : Value → Shared → Prop} (hh : A.handled = none) (hl : s.heap.IsList l items) (hit : IntsAre items.toList ns) (hb : ns.length + 1 < scanBound)
    (h : ∀ (h' : Heap) (tk c : Nat), SetR w h' s.heap.objs.size (fun j => decide (j ∈ ns)) c → (∀ b o, s.heap.get? b = some o → h'.get? b = some o) → Q (.ref s.heap.objs.size) { s with heap := h', toks := tk }) :
    wpAny (model P w) A (call (.type "set") [.ref l]) Q E s := by
  have hisz : items.size = ns.length := by
    have q := IntsAre.length hit
    rwa [Array.length_toList] at q
  obtain ⟨c, tl, hmro⟩ := F.called_set.mro
  have hmade := F.called_set.made
  have hsub := F.called_set.sub
  refine wpAny_call (codeAny_of_tree ?_)
  show wpAny _ _ (callAny (.type "set") _) _ _ _
  refine wpAny_pure ⟨Code.quiet_builtin _ (by decide +kernel), codeAny_builtin F.entry_type_call ?_⟩
  rw [Around.under_plain (weight_type_call_type "set" [.ref l] []) rfl]
  have h1 := F.called_set.notType
  have h2 := F.called_set.canCreate
  have hct := F.typeCall_set_1 (.ref l)
  repeat (any_goals (first | assumption | wp_step))
  generalize hO : ({ cls := .type "set", dict := none, data := .set #[] 0 (.fresh 0 0 (!w.params.followText "set-order")) } : Obj) = O
  refine codeAny_mono (code_set_led1 (.ref l) (E := E) (Q₁ := fun obj s₁ => obj = .ref s.heap.objs.size ∧ s₁ = { s with heap := s.heap.push O }) ⟨rfl, by rw [hO]⟩) fun r s₁ hr => ?_
  cases r with
  | error e => exact hr
  | ok fl =>
    cases fl with
    | ret obj =>
      obtain ⟨rfl, rfl⟩ := hr
      have hS : (s.heap.push O).get? s.heap.objs.size = some O := by rw [← hO]; exact Heap.get?_push_size _ rfl
      have hT : Shared.TypeIs { s with heap := s.heap.push O } (.ref s.heap.objs.size) "set" := ⟨_, hS, by rw [← hO]⟩
      have hli := F.called_set.init.lookup
      have hbi := F.called_set.init.bind (.ref s.heap.objs.size)
      repeat (any_goals (first | assumption | wp_step))
      refine codeAny_mono (codeAny_call_builtin (R := wants (fun r s₂ => r = .none ∧ ∃ h' tk c, s₂ = { s with heap := h', toks := tk } ∧ SetR w h' s.heap.objs.size (fun j => decide (j ∈ ns)) c ∧ (∀ b o, s.heap.get? b = some o → h'.get? b = some o)) E) F.called_set.init.plain F.entry_set_init (check_set_init_1 hT ?_)) fun r₂ s₂ hr₂ => ?_
      · subst hO
        obtain ⟨ol, hol, hcl, nl, hdl⟩ := hl
        obtain ⟨ocls, odict, odata, oslots⟩ := ol
        simp only at hcl hdl
        subst hcl; subst hdl
        have hol' := Heap.get?_push_of_some { cls := .type "set", dict := none, data := .set #[] 0 (.fresh 0 0 (!w.params.followText "set-order")) } hol
        have hsls := F.sub_list_set
        have hslf := F.sub_list_frozenset
        have hne : (Value.type "list" == Value.type "dict") = false := by decide
        have hl1 : (s.heap.push { cls := .type "set", dict := none, data := .set #[] 0 (.fresh 0 0 (!w.params.followText "set-order")) }).IsList l items := ⟨_, hol', rfl, nl, rfl⟩
        unfold Builtin.«set.__init__» noKeywords Builtin.Frozenset.updateFrom
        generalize hPI : pyIter = PI
        wp_walk
        subst hPI
        refine wpAny_pyIter_list hl1 ?_
        refine wpAny_bind (wpAny_runValue ?_)
        have hlS : l < s.heap.objs.size := Heap.lt_size hol
        have hh3 : A.in1.in1.in1.handled = none := by simp [hh]
        have hneI : l ≠ (s.heap.push { cls := .type "set", dict := none, data := .set #[] 0 (.fresh 0 0 (!w.params.followText "set-order")) }).objs.size := by
          rw [Heap.size_push]; exact Nat.ne_of_lt (Nat.lt_succ_of_lt hlS)
        have hSf : s.heap.objs.size ∉ [(s.heap.push { cls := .type "set", dict := none, data := .set #[] 0 (.fresh 0 0 (!w.params.followText "set-order")) }).objs.size, l] := by
          rw [Heap.size_push]
          intro z
          rcases List.mem_cons.mp z with z | z
          · exact absurd z (Nat.ne_of_lt (Nat.lt_succ_self _))
          · exact absurd (List.mem_singleton.mp z) (Nat.ne_of_gt hlS)
        have hval : ∀ (i : Nat) (v : Value), items[i]? = some v → ∃ k t, ns[i]? = some k ∧ v = .int k t := fun i v hv => by
          have hi : i < ns.length := by rw [← hisz]; exact (Array.getElem?_eq_some_iff.mp hv).1
          obtain ⟨t, e⟩ := IntsAre.int_at hit i v (by rw [Array.getElem?_toList]; exact hv)
          refine ⟨ns[i], t, List.getElem?_eq_getElem hi, ?_⟩
          rw [e, List.getD_eq_getElem?_getD, List.getElem?_eq_getElem hi] <;> rfl
        refine set_update_ints ((Walks.list hh3 _ l hneI items).toS) s.heap.objs.size hSf ns hisz hb hval (items.size - 0) 0 _ (by omega) (Nat.zero_le _) ⟨⟨_, Heap.get?_push_size _ rfl, rfl, rfl⟩, (hl1.push _)⟩ ⟨0, Nat.le_refl 0, setR_new_at (Heap.get?_push_of_some _ hS)⟩ fun s' c' hm _ hS' => ?_
        obtain ⟨h', g2, d', tk', os'⟩ := s'
        obtain rfl : g2 = s.gens := hm.gens
        obtain rfl : d' = s.drawn := hm.drawn
        obtain rfl : os' = s.os := hm.os
        refine wpAny_pure ?_
        show wpAny _ _ (ret Value.none) _ _ _
        refine wpAny_pure ⟨rfl, h', tk', c', rfl, hS', fun b o e => hm.heap b o (fun z => ?_) (Heap.get?_push_of_some _ (Heap.get?_push_of_some _ e))⟩
        have hb0 : b < s.heap.objs.size := Heap.lt_size e
        rcases List.mem_cons.mp z with z | z
        · exact absurd z (Nat.ne_of_lt hb0)
        · have := List.mem_singleton.mp z
          rw [Heap.size_push] at this
          exact absurd this (Nat.ne_of_lt (Nat.lt_succ_of_lt hb0))
      · cases r₂ with
        | error e => exact hr₂
        | ok fl₂ =>
          cases fl₂ with
          | ret r =>
            obtain ⟨rfl, h', tk, c', rfl, hS', hk'⟩ := hr₂
            repeat (any_goals (first | assumption | wp_step))
            exact h _ _ _ hS' hk'
          | _ => exact hr₂.elim
    | _ => exact hr.elim
theorem sub_le {ks ds : List Int} (nd : ks.Nodup) (h : ∀ x ∈ ks, x ∈ ds) : ks.length ≤ ds.length := by
  induction ks generalizing ds with
  | nil => exact Nat.zero_le _
  | cons a t ih =>
    obtain ⟨h1, h2⟩ := List.nodup_cons.mp nd
    have hm := h a (List.mem_cons_self ..)
    have := ih (ds := ds.erase a) h2 fun x hx => (List.mem_erase_of_ne (fun e => h1 (by rw [← e]; exact hx))).mpr (h x (List.mem_cons_of_mem _ hx))
    rw [List.length_erase_of_mem hm] at this
    have := List.length_pos_of_mem hm
    rw [List.length_cons]
    omega
theorem setR_few {h : Heap} {a : Addr} {ns : List Int} {c : Nat} (R : SetR w h a (fun j => decide (j ∈ ns)) c) {ds : List Int} (hd : ∀ x ∈ ns, x ∈ ds) : c ≤ ds.length := by
  obtain ⟨o, es, ep, t, _, _, _, _, nd, hk, _, _, hn, _⟩ := R
  rw [← hn, ← Array.length_toList, ← List.length_map (f := keyOf)]
  exact sub_le nd fun x hx => hd x (of_decide_eq_true ((hk x).mpr hx))
end
section
variable {X : Cx}
/-- set(l) -/
def rSetLi (K : PySem.W.Frag) (w : World) : List V → Hp → VK → Prop := fun vs H Q => ∃ (l : Addr) (ns : List Int), vs = [.ref l] ∧ SqL K H l (ns.map V.int) ∧ ns.length ≤ 1000 ∧ ∀ (p : Addr) (c : Nat), H p = none → (∀ ds : List Int, (∀ x ∈ ns, x ∈ ds) → c ≤ ds.length) → Q (.ref p) (upd H p (SetO w p (fun j => decide (j ∈ ns)) c))
theorem cr_setLi (hc : X.calm = true) : CallR X (.type "set") (rSetLi X.K X.w) := by
  intro pins s σ H vs us Q I r h
  obtain ⟨l, ns, rfl, hl, hb, q⟩ := h
  cases r with
  | cons r rr =>
    cases rr
    cases r
    obtain ⟨its, rv, ⟨o, n, ho, hcl, hdn, hd⟩, hz⟩ := I.list hl
    have hi : IntsAre its.toArray.toList ns := ints_of_vals rv
    refine call_setLi ns (I.ok.hd hc) ⟨o, ho, hcl, n, hd⟩ hi (by unfold scanBound; omega) fun h' tk c R1 k => ?_
    exact ⟨.ref _, upd H s.heap.objs.size (SetO X.w s.heap.objs.size (fun j => decide (j ∈ ns)) c), I.laid k (Nat.le_refl _) (setO_new R1), rfl, q _ c (I.hok.fresh (Nat.le_refl _)) fun ds hd => setR_few R1 hd⟩
end
end HkL

set_option Elab.async false
set_option linter.all false
set_option maxRecDepth 100000
set_option maxHeartbeats 4000000
namespace HK
open PySem PySem.Spec PyProof.Rows L2 GAl GxR
open Evl (pss_cut)
abbrev sReached : Stmt := topS 28
abbrev N_scReached : List Str := ["net", "root", "there", "turn", "i", "j", "pay", "late"]
theorem scReached : FnScope N_scReached ["net", "root"] (defScope sReached) := ⟨rfl, rfl, rfl, by decide +kernel, rfl, by decide +kernel, by decide +kernel⟩
/-- the places within so many roads -/
def Rk (rs : List R4) (root : Int) : Nat → Int → Prop
  | 0, v => v = root
  | k + 1, v => Rk rs root k v ∨ ∃ r ∈ rs, r.e = v ∧ Rk rs root k r.s
section
variable {P : Program} {w : World} {K : PySem.W.Frag} {mg : Str → Option Value} {base : Heap}
def spReached (K : PySem.W.Frag) : Sp := fun vs H Q _ => ∃ (a : Addr) (n : Int) (rs : List R4) (root : Int), vs = [.ref a, .int root] ∧ NetAt K H a n rs ∧ Good n rs ∧ rs.length ≤ 156 ∧ 0 ≤ root ∧ root < n ∧
  ∀ (p : Addr) (ns : List Int) (H' : Hp), K0 H H' → H p = none → H' p = some (.tup (ns.map V.int)) → AreP n ns → (∀ v, v ∈ ns ↔ Rk rs root n.toNat v) → Q (.ref p) H'
theorem ok_reached {f : Addr} {fd : FuncData} (F : Fun K "_law_b_reached" "_law_b_reached" sReached f fd) (m_range : mg "range" = none) (m_sorted : mg "sorted" = none) (m_set : mg "set" = none) (m_tuple : mg "tuple" = none) : FnOk P w K mg base CX0 1 f fd ["net", "root"] (spReached K) := by
  refine F.ok scReached (fun vs H Q E h => ?_) (fun cdv A outer s H vs Q E hr h => ?_)
  · obtain ⟨a, n, rs, root, rfl, _⟩ := h
    rfl
  · obtain ⟨a, n, rs, root, rfl, hN, hG, hl, r0, r1, q⟩ := h
    have hu := hu_of hr
    refine ⟨_, (pss_cons (ps_set (i := 2) scReached.nd rfl (.inr rfl) (pe_lst (pa_cons (pv 1) pa_nil)))
      (pss_cons (ps_for PassesOwn.never rfl (pi_range1 (by rfl) m_range (pa_cons (pe_ix ix_tup (pv 0) pe_int (fun _ _ => rfl)) pa_nil)) (pg_name (i := 3) scReached.nd rfl (.inl rfl))
      (pss_one (ps_set (i := 2) scReached.nd rfl (.inr rfl) (pe_callB (cr_sortedSet rfl) (by rfl) m_sorted boot_sorted (pa_cons (pe_callTy (HkL.cr_setLi rfl) (by rfl) m_set (by decide +kernel) (pa_cons (pe_op op_cat (pv 2) (pe_lc (own := [("i", 4), ("j", 5), ("pay", 6), ("late", 7)]) (g := (gTup K 4 (gCons (gName 4) (gCons (gName 5) (gCons (gName 6) (gCons (gName 7) gNil)))))) (tt := (tTest (tOp (rIn K false) (tVar 4) (tVar 2)))) (te := (tVar 5)) rfl scReached.nd (pi_tup (pe_ix ix_tup (pv 0) pe_int (fun _ _ => rfl))) (blkOk_by (N := N_scReached) (sc := defScope sReached) (by decide +kernel)) (fun _ _ _ _ _ => (pg_tup rfl (pgs_cons (pg_name (i := 4) scReached.nd rfl (.inl rfl)) (pgs_cons (pg_name (i := 5) scReached.nd rfl (.inl rfl)) (pgs_cons (pg_name (i := 6) scReached.nd rfl (.inl rfl)) (pgs_cons (pg_name (i := 7) scReached.nd rfl (.inl rfl)) pgs_nil)))))) (fun _ _ _ _ _ => (pts_one (pt_cmpR op_in_seq (pv 4) (pv 2) rfl))) (fun _ _ _ _ _ => (pv 5)))) pa_nil)) pa_nil)))))
      (pss_one (ps_ret (pe_callTy HkL.call_tupR (by rfl) m_tuple (by decide +kernel) (pa_cons (pv 2) pa_nil)))))), ?_⟩
    have n2 := hG.n2
    refine ⟨_, rfl, by show 1 ≤ sizeLine; decide, fun l0 nl0 => ?_⟩
    have k0 : K0 H (upd H l0 (.lst [.int root])) := K0.new nl0
    have hl0 : upd H l0 (.lst [.int root]) l0 = some (.lst ([root].map V.int)) := upd_same
    generalize upd H l0 (.lst [.int root]) = H0 at k0 hl0
    obtain ⟨r, xs, o, h1, h2, hc, hdd, h3⟩ := hN
    have hxs : SqT K H r xs := .inl (.inr ⟨o, h2⟩)
    have hrl : xs.length = rs.length := h3.len
    refine ⟨_, rfl, a, _, 0, .int n, rfl, rfl, k0.sqT h1, atI_nat (j := 0) rfl, n, rfl, by omega, by omega, for_range (lo := 0) (n := n.toNat) (fun i σ' H' => ∃ y3 l ns, σ' = [some (.ref a), some (.int root), some (.ref l), y3, none, none, none, none] ∧ K0 H H' ∧ H' l = some (.lst (ns.map V.int)) ∧ AreP n ns ∧ ∀ v, v ∈ ns ↔ Rk rs root i v)
      ⟨none, l0, [root], rfl, k0, hl0, ⟨fun v hv => (by rw [List.mem_singleton.mp hv]; exact ⟨r0, r1⟩), List.pairwise_singleton ..⟩, fun v => List.mem_singleton⟩ (fun i σ' H' hi h => ?_) (fun σ' H' h => ?_)⟩
    · obtain ⟨y3, l, ns, rfl, k1, hl1, hA, hR⟩ := h
      have hnl := hA.len
      refine ⟨_, rfl, _, rfl, a, _, 1, .ref r, rfl, rfl, k1.sqT h1, atI_nat (j := 1) rfl, r, rfl, ⟨xs, k1.sqT hxs⟩, fun D nD => ?_⟩
      refine lc_tup (K := K) (a := r) (xs := xs) (fun j H2 => K0 H' H2 ∧ ∃ js : List Int, H2 D = some (.lst (js.map V.int)) ∧ js.length ≤ j ∧ ∀ v, v ∈ js ↔ ∃ rd ∈ rs.take j, rd.e = v ∧ rd.s ∈ ns) ⟨K0.new nD, [], upd_same, Nat.le_refl _, fun v => ⟨fun z => (by cases z), fun ⟨rd, hrd, _⟩ => (by rw [List.take_zero] at hrd; cases hrd)⟩⟩ (fun j H2 _ h => h.1.sqT (k1.sqT hxs)) (fun j x H2 hx h => ?_) (fun H2 h => ?_)
      · obtain ⟨k3, js, hacc, hal, hall⟩ := h
        obtain ⟨rd, q1, hrd, rfl, hs⟩ := road_at h3 hx
        have hs2 := k3.sqT (k1.sqT hs)
        have hl3 := k3.oth l _ hl1 (fun _ z => by cases z)
        have hjl : j < rs.length := (List.getElem?_eq_some_iff.mp hrd).1
        have htk : rs.take (j + 1) = rs.take j ++ [rd] := by rw [List.take_add_one, hrd]; rfl
        refine ⟨q1, _, rfl, hs2, rfl, _, _, rfl, _, _, rfl, _, _, rfl, _, _, rfl, rfl, rfl, ?_⟩
        refine ⟨_, rfl, _, rfl, l, _, rfl, .inl (.inl (.inl hl3)), rfl, flatI ns, _, rfl, ?_⟩
        show if (inV (V.int rd.s) (ns.map V.int)) = true then _ else _
        rw [inI]
        by_cases hsn : rd.s ∈ ns
        · rw [decide_eq_true hsn]
          refine iteT ⟨_, rfl, _, hacc, Nat.lt_of_le_of_lt (m := 5000) (by rw [List.length_map]; omega) (by decide), k3.mut nD, js ++ [rd.e], by rw [List.map_append]; exact upd_same, by rw [List.length_append, List.length_singleton]; omega, fun v => ?_⟩
          rw [htk, List.mem_append, hall v]
          constructor
          · rintro (⟨u, hu, h⟩ | h)
            · exact ⟨u, List.mem_append_left _ hu, h⟩
            · exact ⟨rd, List.mem_append_right _ (List.mem_singleton.mpr rfl), (List.mem_singleton.mp h).symm, hsn⟩
          · rintro ⟨u, hu, e, h⟩
            rcases List.mem_append.mp hu with hu | hu
            · exact .inl ⟨u, hu, e, h⟩
            · exact .inr (by rw [List.mem_singleton.mp hu] at e; rw [e]; exact List.mem_singleton.mpr rfl)
        · rw [decide_eq_false hsn]
          refine iteF ⟨k3, js, hacc, by omega, fun v => ?_⟩
          rw [htk, hall v]
          constructor
          · rintro ⟨u, hu, h⟩
            exact ⟨u, List.mem_append_left _ hu, h⟩
          · rintro ⟨u, hu, e, h⟩
            rcases List.mem_append.mp hu with hu | hu
            · exact ⟨u, hu, e, h⟩
            · exact absurd (by rw [← List.mem_singleton.mp hu]; exact h) hsn
      · obtain ⟨k3, js, hacc, hal, hall⟩ := h
        rw [hrl, List.take_of_length_le (Nat.le_refl _)] at hall
        have hl3 := k3.oth l _ hl1 (fun _ z => by cases z)
        have k13 := k1.trans k3
        refine ⟨l, D, ns.map V.int, js.map V.int, rfl, rfl, hl3, hacc, Nat.le_trans (m := 5000) (by rw [List.length_map, List.length_map]; omega) (by decide), fun l3 nl3 => ?_⟩
        have k4 := k13.mut (o := .lst (ns.map V.int ++ js.map V.int)) (k13.dom l3 nl3)
        have hl4 : upd H2 l3 (.lst (ns.map V.int ++ js.map V.int)) l3 = some (.lst ((ns ++ js).map V.int)) := by rw [List.map_append]; exact upd_same
        generalize upd H2 l3 (.lst (ns.map V.int ++ js.map V.int)) = H4 at k4 hl4
        refine ⟨l3, ns ++ js, rfl, .inl (.inl hl4), by rw [List.length_append]; omega, fun p c np hcnt => ?_⟩
        have k5 := k4.mut (o := SetO w p (fun j => decide (j ∈ ns ++ js)) c) (k4.dom p np)
        have mem : ∀ v, v ∈ ns ++ js ↔ Rk rs root (i + 1) v := fun v => by
          rw [List.mem_append, hR v, hall v]
          constructor
          · rintro (h | ⟨rd, hrd, e, h⟩)
            · exact .inl h
            · exact .inr ⟨rd, hrd, e, (hR _).mp h⟩
          · rintro (h | ⟨rd, hrd, e, h⟩)
            · exact .inl h
            · exact .inr ⟨rd, hrd, e, (hR _).mpr h⟩
        have rng : ∀ v ∈ ns ++ js, 0 ≤ v ∧ v < n := fun v hv => by
          rcases List.mem_append.mp hv with hv | hv
          · exact hA.1 v hv
          · obtain ⟨rd, hrd, e, _⟩ := (hall v).mp hv
            have := hG.ok rd hrd
            exact ⟨e ▸ this.e0, e ▸ this.e1⟩
        have c12 : c ≤ 12 := by
          have := hcnt ((List.range n.toNat).map fun (i : Nat) => (i : Int)) fun x hx => by
            obtain ⟨h0, h1⟩ := rng x hx
            exact List.mem_map.mpr ⟨x.toNat, List.mem_range.mpr (by omega), by omega⟩
          rw [List.length_map, List.length_range] at this
          omega
        refine ⟨p, _, c, rfl, upd_same, by omega, fun ms p2 hrise hmem hlen np2 => ?_⟩
        refine ⟨_, p2, ms, rfl, k5.mut (k5.dom p2 np2), upd_same, ⟨fun v hv => rng v (of_decide_eq_true ((hmem v).mp hv)), hrise⟩, fun v => ?_⟩
        rw [hmem v, decide_eq_true_iff, mem v]
    · obtain ⟨y3, l, ns, rfl, k1, hl1, hA, hR⟩ := h
      refine ⟨_, rfl, l, ns.map V.int, rfl, .inl ⟨.inl (.inl hl1), fun p np => ?_⟩⟩
      exact q p ns _ (k1.mut (k1.dom p np)) (k1.dom p np) upd_same hA hR
end
end HK

set_option Elab.async false
set_option linter.all false
set_option maxRecDepth 100000
set_option maxHeartbeats 4000000
namespace HK
open PySem PySem.Spec PyProof.Rows L2 GAl GxR
open Evl (pss_cut)
abbrev sDueR : Stmt := topS 29
abbrev N_scDueR : List Str := ["net", "root", "some", "i", "j", "pay", "late"]
theorem scDueR : FnScope N_scDueR ["net", "root", "some"] (defScope sDueR) := ⟨rfl, rfl, rfl, by decide +kernel, rfl, by decide +kernel, by decide +kernel⟩
theorem eqvAll_ints : ∀ (a b : List Int), PyData.eqvAll (a.map PyData.int) (b.map PyData.int) = decide (a = b)
  | [], [] => rfl
  | [], _ :: _ => rfl
  | _ :: _, [] => rfl
  | x :: a, y :: b => by
    show (PyData.eqv (.int x) (.int y) && PyData.eqvAll (a.map PyData.int) (b.map PyData.int)) = _
    rw [eqvAll_ints a b, show PyData.eqv (.int x) (.int y) = (x == y) from rfl, Bool.eq_iff_iff]
    simp
theorem eqv_ints (a b : List Int) : PyData.eqv (.list (a.map PyData.int)) (.list (b.map PyData.int)) = decide (a = b) := eqvAll_ints a b
theorem eqv_intsT (a b : List Int) : PyData.eqv (.tuple (a.map PyData.int)) (.tuple (b.map PyData.int)) = decide (a = b) := eqvAll_ints a b
theorem rise_eq : ∀ {a b : List Int}, a.Pairwise (· < ·) → b.Pairwise (· < ·) → (∀ v, v ∈ a ↔ v ∈ b) → a = b
  | [], [], _, _, _ => rfl
  | [], y :: b, _, _, h => by have := (h y).mpr List.mem_cons_self; cases this
  | x :: a, [], _, _, h => by have := (h x).mp List.mem_cons_self; cases this
  | x :: a, y :: b, ha, hb, h => by
    obtain ⟨a1, a2⟩ := List.pairwise_cons.mp ha
    obtain ⟨b1, b2⟩ := List.pairwise_cons.mp hb
    have e : x = y := by
      have h1 := (h x).mp List.mem_cons_self
      have h2 := (h y).mpr List.mem_cons_self
      rcases List.mem_cons.mp h1 with e | h1
      · exact e
      · rcases List.mem_cons.mp h2 with e | h2
        · exact e.symm
        · have := b1 x h1
          have := a1 y h2
          omega
    subst e
    rw [rise_eq a2 b2 fun v => ?_]
    constructor
    · intro hv
      rcases List.mem_cons.mp ((h v).mp (List.mem_cons_of_mem _ hv)) with e | h'
      · subst e; have := a1 v hv; omega
      · exact h'
    · intro hv
      rcases List.mem_cons.mp ((h v).mpr (List.mem_cons_of_mem _ hv)) with e | h'
      · subst e; have := b1 v hv; omega
      · exact h'
theorem rise_ends {l : List Int} (hl : l.Pairwise (· < ·)) {n : Int} (ne : l ≠ []) : (∀ v ∈ l, 0 ≤ v ∧ v < n) ↔ (¬ l.getD 0 0 < 0 ∧ ¬ n ≤ l.getD (l.length - 1) 0) := by
  have hlen : 0 < l.length := List.length_pos_iff.mpr ne
  have at_ : ∀ j (hj : j < l.length), l.getD j 0 = l[j] := fun j hj => by simp [List.getD_eq_getElem?_getD, List.getElem?_eq_getElem hj]
  constructor
  · intro h
    have h1 := h (l.getD 0 0) (by rw [at_ 0 hlen]; exact List.getElem_mem _)
    have h2 := h (l.getD (l.length - 1) 0) (by rw [at_ _ (by omega)]; exact List.getElem_mem _)
    omega
  · rintro ⟨h1, h2⟩ v hv
    obtain ⟨j, hj, rfl⟩ := List.getElem_of_mem hv
    rw [at_ 0 hlen] at h1
    rw [at_ _ (by omega)] at h2
    have lo : l[0] ≤ l[j] := by
      by_cases e : j = 0
      · subst e; exact Int.le_refl _
      · exact Int.le_of_lt (List.pairwise_iff_getElem.mp hl 0 j hlen hj (by omega))
    have hi : l[j] ≤ l[l.length - 1] := by
      by_cases e : j = l.length - 1
      · subst e; exact Int.le_refl _
      · exact Int.le_of_lt (List.pairwise_iff_getElem.mp hl j (l.length - 1) hj (by omega) (by omega))
    omega
theorem atI_last {ns : List Int} (ne : ns ≠ []) : atI (ns.map V.int) (-1) = some (.int (ns.getD (ns.length - 1) 0)) := by
  have hlen : 0 < ns.length := List.length_pos_iff.mpr ne
  have e1 : ixN (ns.map V.int).length (-1) = some (ns.length - 1) := by
    unfold ixN
    rw [List.length_map, if_neg (by decide), if_pos (by omega)]
    congr 1
    omega
  unfold atI
  rw [e1]
  show (ns.map V.int)[ns.length - 1]? = _
  rw [List.getElem?_map, List.getElem?_eq_getElem (show ns.length - 1 < ns.length by omega)]
  simp [List.getD_eq_getElem?_getD, List.getElem?_eq_getElem (show ns.length - 1 < ns.length by omega)]
section
variable {P : Program} {w : World} {K : PySem.W.Frag} {mg : Str → Option Value} {base : Heap}
theorem dpT {H : Hp} {a : Addr} {ns : List Int} (h : SqT K H a (ns.map V.int)) : Dp K H (.ref a) (.tuple (ns.map PyData.int)) := .tup h (dpInts ns)
theorem dpL {H : Hp} {a : Addr} {ns : List Int} (h : SqL K H a (ns.map V.int)) : Dp K H (.ref a) (.list (ns.map PyData.int)) := .lst h (dpInts ns)
def spDueR (K : PySem.W.Frag) : Sp := fun vs H Q _ => ∃ (a : Addr) (n : Int) (rs : List R4) (root : Int) (p : Addr) (ns : List Int), vs = [.ref a, .int root, .ref p] ∧ NetAt K H a n rs ∧ SqT K H p (ns.map V.int) ∧ ns.length ≤ 60 ∧
  ∀ (H' : Hp) (b : Bool), K0 H H' → (b = true ↔ ClosedP n rs root ns) → Q (.bl b) H'
theorem ok_dueR {f : Addr} {fd : FuncData} (F : Fun K "_law_b_due" "_law_b_due" sDueR f fd) (m_list : mg "list" = none) (m_sorted : mg "sorted" = none) (m_set : mg "set" = none) : FnOk P w K mg base CX0 1 f fd ["net", "root", "some"] (spDueR K) := by
  refine F.ok scDueR (fun vs H Q E h => ?_) (fun cdv A outer s H vs Q E hr h => ?_)
  · obtain ⟨a, n, rs, root, p, ns, rfl, _⟩ := h
    rfl
  · obtain ⟨a, n, rs, root, p, ns, rfl, hN, hp, hnl, q⟩ := h
    have hu := hu_of hr
    refine ⟨_, (pss_cons (ps_if (PW.pt (pw_or (pt_cmpR op_notIn_seq (pv 1) (pv 2) rfl) (pw_or1 (pt_cmpR (op_neD hr.units) (pe_callTy call_list_of (by rfl) m_list (by decide +kernel) (pa_cons (pv 2) pa_nil)) (pe_callB (cr_sortedSet rfl) (by rfl) m_sorted boot_sorted (pa_cons (pe_callTy (HkL.cr_setT rfl) (by rfl) m_set (by decide +kernel) (pa_cons (pv 2) pa_nil)) pa_nil)) (nomark _))))) (pss_one (ps_ret pe_bl)) pss_nil)
      (pss_cons (ps_if (PW.pt (pw_or (pt_cmpR op_lt (pe_ix ix_tup (pv 2) pe_int (fun _ _ => rfl)) pe_int (nomark _)) (pw_or1 (pt_cmpR op_ge (pe_ix ix_tup (pv 2) (pe_un un_neg pe_int) (fun _ _ => rfl)) (pe_ix ix_tup (pv 0) pe_int (fun _ _ => rfl)) (nomark _))))) (pss_one (ps_ret pe_bl)) pss_nil)
      (pss_cons (ps_for PassesOwn.never rfl (pi_tup (pe_ix ix_tup (pv 0) pe_int (fun _ _ => rfl))) (pg_tup rfl (pgs_cons (pg_name (i := 3) scDueR.nd rfl (.inl rfl)) (pgs_cons (pg_name (i := 4) scDueR.nd rfl (.inl rfl)) (pgs_cons (pg_name (i := 5) scDueR.nd rfl (.inl rfl)) (pgs_cons (pg_name (i := 6) scDueR.nd rfl (.inl rfl)) pgs_nil)))))
      (pss_one (ps_if (PW.pt (pw_and (pt_cmpR op_in_seq (pv 3) (pv 2) rfl) (pw_and1 (pt_cmpR op_notIn_seq (pv 4) (pv 2) rfl)))) (pss_one (ps_ret pe_bl)) pss_nil)))
      (pss_one (ps_ret pe_bl))))), ?_⟩
    have no : ∀ {H' : Hp}, K0 H H' → ¬ ClosedP n rs root ns → Q (.bl false) H' := fun k h => q _ false k ⟨fun z => (by cases z), fun z => absurd z h⟩
    refine ⟨_, rfl, _, rfl, p, _, rfl, .inr hp, rfl, flatI ns, _, rfl, ?_⟩
    show if (!inV (V.int root) (ns.map V.int)) = true then _ else _
    rw [inI]
    by_cases hm : root ∈ ns
    · rw [decide_eq_true hm]
      have ne : ns ≠ [] := List.ne_nil_of_mem hm
      refine iteF ⟨_, rfl, p, _, rfl, .inr hp, fun l nl => ?_⟩
      have k1 : K0 H (upd H l (.lst (ns.map V.int))) := K0.new nl
      have hl1 : upd H l (.lst (ns.map V.int)) l = some (.lst (ns.map V.int)) := upd_same
      generalize upd H l (.lst (ns.map V.int)) = H1 at k1 hl1
      refine ⟨_, rfl, p, ns, rfl, k1.sqT hp, by omega, fun sp c nsp hc => ?_⟩
      have k2 := k1.mut (o := SetO w sp (fun j => decide (j ∈ ns)) c) (k1.dom sp nsp)
      have hl2 : upd H1 sp (SetO w sp (fun j => decide (j ∈ ns)) c) l = some (.lst (ns.map V.int)) := by rw [upd_ne (ne_of_none hl1 nsp)]; exact hl1
      refine ⟨sp, _, c, rfl, upd_same, by omega, fun ms p2 hrise hmem hlen np2 => ?_⟩
      have k3 := k2.mut (o := .lst (ms.map V.int)) (k2.dom p2 np2)
      have hl3 : upd (upd H1 sp (SetO w sp (fun j => decide (j ∈ ns)) c)) p2 (.lst (ms.map V.int)) l = some (.lst (ns.map V.int)) := by rw [upd_ne (ne_of_none hl2 np2)]; exact hl2
      have hp3 : upd (upd H1 sp (SetO w sp (fun j => decide (j ∈ ns)) c)) p2 (.lst (ms.map V.int)) p2 = some (.lst (ms.map V.int)) := upd_same
      refine ⟨.list (ns.map PyData.int), .list (ms.map PyData.int), dpL (.inl (.inl hl3)), dpL (.inl (.inl hp3)), canLay_ints ns, canLay_ints ms, _, rfl, ?_⟩
      rw [eqv_ints]
      have hmem' : ∀ v, v ∈ ms ↔ v ∈ ns := fun v => by rw [hmem v, decide_eq_true_iff]
      by_cases he : ns = ms
      · rw [decide_eq_true he]
        have hns : ns.Pairwise (· < ·) := by rw [he]; exact hrise
        refine iteF ?_
        have hlen0 : 0 < ns.length := List.length_pos_iff.mpr ne
        have g0 : (ns.map V.int)[0]? = some (.int (ns.getD 0 0)) := by
          rw [List.getElem?_map, List.getElem?_eq_getElem hlen0]
          simp [List.getD_eq_getElem?_getD, List.getElem?_eq_getElem hlen0]
        have hE := rise_ends hns (n := n) ne
        refine ⟨_, rfl, p, _, 0, _, rfl, rfl, k3.sqT hp, atI_nat (j := 0) g0, _, 0, rfl, rfl, _, rfl, ?_⟩
        obtain ⟨r, xs, o, h1, h2, hc', hdd, h3⟩ := hN
        by_cases e0 : ns.getD 0 0 < 0
        · rw [decide_eq_true e0]
          exact iteT (iteT (no k3 fun z => (hE.mp z.1.1).1 e0))
        rw [decide_eq_false e0]
        refine iteF ⟨_, rfl, 1, rfl, p, _, -1, _, rfl, rfl, k3.sqT hp, atI_last ne, _, rfl, a, _, 0, .int n, rfl, rfl, k3.sqT h1, atI_nat (j := 0) rfl, _, n, rfl, rfl, _, rfl, ?_⟩
        by_cases e1 : n ≤ ns.getD (ns.length - 1) 0
        · rw [decide_eq_true e1]
          exact iteT (no k3 fun z => (hE.mp z.1.1).2 e1)
        rw [decide_eq_false e1]
        refine iteF ?_
        have hA : AreP n ns := ⟨hE.mpr ⟨e0, e1⟩, hns⟩
        have hxs : SqT K H r xs := .inl (.inr ⟨o, h2⟩)
        have hrl : xs.length = rs.length := h3.len
        refine ⟨_, rfl, a, _, 1, .ref r, rfl, rfl, k3.sqT h1, atI_nat (j := 1) rfl, r, rfl, ⟨xs, k3.sqT hxs⟩, for_tup (xs := xs) (fun j σ' H' => ∃ y3 y4 y5 y6, σ' = [some (.ref a), some (.int root), some (.ref p), y3, y4, y5, y6] ∧ K0 H H' ∧ ∀ rd ∈ rs.take j, rd.s ∈ ns → rd.e ∈ ns)
          ⟨_, _, _, _, rfl, k3, fun rd hrd => (by rw [List.take_zero] at hrd; cases hrd)⟩ (fun j σ' H' hj h => ?_) (fun j x σ' H' hx h => ?_) (fun σ' H' h => ?_)⟩
        · obtain ⟨_, _, _, _, _, k4, _⟩ := h
          exact k4.sqT hxs
        · obtain ⟨y3, y4, y5, y6, rfl, k4, hall⟩ := h
          obtain ⟨rd, q1, hrd, rfl, hs⟩ := road_at h3 hx
          have htk : rs.take (j + 1) = rs.take j ++ [rd] := by rw [List.take_add_one, hrd]; rfl
          have nx : (rd.s ∈ ns → rd.e ∈ ns) → ∀ u ∈ rs.take (j + 1), u.s ∈ ns → u.e ∈ ns := fun hn u hu => by
            rw [htk] at hu
            rcases List.mem_append.mp hu with hu | hu
            · exact hall u hu
            · rw [List.mem_singleton.mp hu]; exact hn
          refine ⟨q1, _, rfl, k4.sqT hs, rfl, _, _, rfl, _, _, rfl, _, _, rfl, _, _, rfl, rfl, ?_⟩
          refine ⟨_, rfl, _, rfl, p, _, rfl, .inr (k4.sqT hp), rfl, flatI ns, _, rfl, ?_⟩
          show if (inV (V.int rd.s) (ns.map V.int)) = true then _ else _
          rw [inI]
          by_cases hs' : rd.s ∈ ns
          · rw [decide_eq_true hs']
            refine iteT ⟨_, rfl, _, rfl, p, _, rfl, .inr (k4.sqT hp), rfl, flatI ns, _, rfl, ?_⟩
            show if (!inV (V.int rd.e) (ns.map V.int)) = true then _ else _
            rw [inI]
            by_cases he' : rd.e ∈ ns
            · rw [decide_eq_true he']
              exact iteF ⟨_, _, _, _, rfl, k4, nx fun _ => he'⟩
            · rw [decide_eq_false he']
              exact iteT (no k4 fun z => he' (z.2.2 rd (List.mem_of_getElem? hrd) hs'))
          · rw [decide_eq_false hs']
            exact iteF ⟨_, _, _, _, rfl, k4, nx fun z => absurd z hs'⟩
        · obtain ⟨_, _, _, _, rfl, k4, hall⟩ := h
          rw [hrl, List.take_of_length_le (Nat.le_refl _)] at hall
          exact q _ true k4 ⟨fun _ => ⟨hA, hm, hall⟩, fun _ => rfl⟩
      · rw [decide_eq_false he]
        exact iteT (no k3 fun z => he (rise_eq z.1.2 hrise fun v => (hmem' v).symm))
    · rw [decide_eq_false hm]
      exact iteT (iteT (no (K0.refl _) fun z => hm z.2.1))
end
end HK

set_option Elab.async false
set_option linter.all false
set_option maxRecDepth 100000
set_option maxHeartbeats 4000000
namespace HK
open PySem PySem.Spec PyProof.Rows L2 GAl GxR
theorem valV_drop {κ : Type} [DecidableEq κ] (k j : κ) : ∀ kvs : List (κ × V), valV (dropK kvs k) j = if j = k then none else valV kvs j
  | [] => by split <;> rfl
  | p :: r => by
    by_cases e : p.1 = k
    · rw [dropK_pos e, valV_drop k j r]
      by_cases ej : j = k
      · rw [if_pos ej, if_pos ej]
      · rw [if_neg ej, if_neg ej, valV_neg (fun z => ej (by rw [← z, e]))]
    · rw [dropK_neg e]
      by_cases ep : p.1 = j
      · rw [valV_pos ep, valV_pos ep, if_neg (fun z => e (by rw [ep, z]))]
      · rw [valV_neg ep, valV_neg ep, valV_drop k j r]
def drp (f : IF) (i : Int) : IF := fun j => if j = i then none else f j
theorem DI.drop {kvs : List (Key × V)} {f : IF} (h : DI kvs f) (i : Int) : DI (dropK kvs (Sum.inl i)) (drp f i) := by
  refine ⟨?_, fun p hp => h.ks p (dropK_mem hp), fun j => ?_⟩
  · exact List.Nodup.sublist (List.Sublist.map _ List.filter_sublist) h.nd
  · rw [valV_drop, h.val]
    unfold drp
    by_cases e : j = i
    · subst e; simp
    · simp [e]
theorem ints_of : ∀ {kvs : List (Key × V)}, (∀ p ∈ kvs, ∃ i x : Int, p = (Sum.inl i, V.int x)) → ∃ ks : List Int, kvs.map (·.1) = ks.map Sum.inl
  | [], _ => ⟨[], rfl⟩
  | p :: r, h => by
    obtain ⟨ks, e⟩ := ints_of (kvs := r) (fun q hq => h q (List.mem_cons_of_mem _ hq))
    obtain ⟨i, x, rfl⟩ := h p (List.mem_cons_self ..)
    exact ⟨i :: ks, by rw [List.map_cons, List.map_cons, e]⟩
theorem DI.ints {kvs : List (Key × V)} {f : IF} (h : DI kvs f) : ∃ ks : List Int, kvs.map (·.1) = ks.map Sum.inl ∧ ks.Nodup ∧ ∀ i, i ∈ ks ↔ (f i).isSome = true := by
  obtain ⟨ks, e⟩ := ints_of h.ks
  refine ⟨ks, e, ?_, fun i => ?_⟩
  · have := h.nd
    rw [e] at this
    have this : (ks.map (Sum.inl : Int → Key)).Pairwise (· ≠ ·) := this
    rw [List.pairwise_map] at this
    exact this.imp fun h z => h (by rw [z])
  · rw [← h.mem, e]
    constructor
    · exact fun hi => List.mem_map.mpr ⟨i, hi, rfl⟩
    · intro hi
      obtain ⟨j, hj, z⟩ := List.mem_map.mp hi
      cases z; exact hj
theorem DI.small {kvs : List (Key × V)} {f : IF} (h : DI kvs f) (hr : ∀ v x, f v = some x → 0 ≤ v ∧ v < 12) : kvs.length ≤ 12 := by
  obtain ⟨ks, e, nd, hm⟩ := h.ints
  have hl : kvs.length = ks.length := by
    have := congrArg List.length e
    rwa [List.length_map, List.length_map] at this
  have L : ([0, 1, 2, 3, 4, 5, 6, 7, 8, 9, 10, 11] : List Int).Nodup := by decide
  have pm : (([0, 1, 2, 3, 4, 5, 6, 7, 8, 9, 10, 11] : List Int).filter fun i => (f i).isSome).Perm ks := (List.perm_ext_iff_of_nodup (List.Nodup.sublist List.filter_sublist L) nd).mpr fun i => by
    rw [List.mem_filter, hm i]
    constructor
    · exact fun h => h.2
    · intro hi
      refine ⟨?_, hi⟩
      obtain ⟨x, ex⟩ := Option.isSome_iff_exists.mp hi
      have := hr i x ex
      have : i = 0 ∨ i = 1 ∨ i = 2 ∨ i = 3 ∨ i = 4 ∨ i = 5 ∨ i = 6 ∨ i = 7 ∨ i = 8 ∨ i = 9 ∨ i = 10 ∨ i = 11 := by omega
      rcases this with rfl | rfl | rfl | rfl | rfl | rfl | rfl | rfl | rfl | rfl | rfl | rfl <;> decide
  rw [hl, ← pm.length_eq]
  exact Nat.le_trans (List.length_filter_le _ _) (by decide)
theorem Kt.over {t q : Addr} {H H' H'' : Hp} (k : Kt t H H') (k' : Kt q H' H'') (n : H q = none) : Kt t H H'' := ⟨fun b u e => k'.tup b u (k.tup b u e), fun b o u e => k'.frz b o u (k.frz b o u e), fun b o e m m' => k'.oth b o (k.oth b o e m m') (ne_of_none e n) m', fun P h => k'.tab P (k.tab P h), fun b e => k.dom b (k'.dom b e)⟩
theorem Kt.setD {q : Addr} {X Y : Hp} {ls ms : List (Key × V)} (k : Kt q X Y) (h : Y q = some (.dK ls)) : Kt q X (upd Y q (.dK ms)) := by
  refine ⟨fun b u e => ?_, fun b o u e => ?_, fun b o e m m' => ?_, fun P hP => ?_, fun b e => k.dom b (upd_none e)⟩
  · have e' := k.tup b u e
    rw [upd_ne (ne_of e' h (fun z => by cases z))]; exact e'
  · have e' := k.frz b o u e
    rw [upd_ne (ne_of e' h (fun z => by cases z))]; exact e'
  · rw [upd_ne m]; exact k.oth b o e m m'
  · obtain ⟨ps, e, ht⟩ := k.tab P hP
    exact ⟨ps, by rw [upd_ne (ne_of e h (fun z => by cases z))]; exact e, ht⟩
theorem Kt.lock {q p : Addr} {H H' : Hp} {kvs : List (Key × V)} {od : Obj} (h : H p = some (.dK kvs)) (k : Kt q (upd H p (.frz od (.dK kvs))) H') : Kt q H (upd H' p (.dK kvs)) := by
  refine ⟨fun b u e => ?_, fun b o u e => ?_, fun b o e m m' => ?_, fun P hP => ?_, fun b e => ?_⟩
  · have hb := ne_of e h (fun z => by cases z)
    rw [upd_ne hb]
    exact k.tup b u (by rw [upd_ne hb]; exact e)
  · have hb := ne_of e h (fun z => by cases z)
    rw [upd_ne hb]
    exact k.frz b o u (by rw [upd_ne hb]; exact e)
  · by_cases hb : b = p
    · subst hb
      rw [h] at e
      cases e
      exact upd_same
    · rw [upd_ne hb]
      exact k.oth b o (by rw [upd_ne hb]; exact e) m m'
  · obtain ⟨ps, e, ht⟩ := hP
    have hb := ne_of e h (fun z => by cases z)
    obtain ⟨ps', e', ht'⟩ := k.tab P ⟨ps, by rw [upd_ne hb]; exact e, ht⟩
    exact ⟨ps', by rw [upd_ne hb]; exact e', ht'⟩
  · by_cases hb : b = p
    · rw [hb, upd_same] at e; cases e
    · rw [upd_ne hb] at e
      have := k.dom b e
      rwa [upd_ne hb] at this
theorem pick2 {d : Int} (h0 : 0 ≤ d) (h1 : d < 2) (a b : Int) : ∃ y : Int, atI [V.int a, .int b] d = some (.int y) := by
  obtain ⟨k, rfl⟩ := Int.eq_ofNat_of_zero_le h0
  match k, h1 with
  | 0, _ => exact ⟨a, atI_nat rfl⟩
  | 1, _ => exact ⟨b, atI_nat rfl⟩
  | k + 2, h => exact absurd h (by omega)
theorem pick4 {d : Int} (h0 : 0 ≤ d) (h1 : d < 4) (a b c e : Int) : ∃ y : Int, atI [V.int a, .int b, .int c, .int e] d = some (.int y) := by
  obtain ⟨k, rfl⟩ := Int.eq_ofNat_of_zero_le h0
  match k, h1 with
  | 0, _ => exact ⟨a, atI_nat rfl⟩
  | 1, _ => exact ⟨b, atI_nat rfl⟩
  | 2, _ => exact ⟨c, atI_nat rfl⟩
  | 3, _ => exact ⟨e, atI_nat rfl⟩
  | k + 4, h => exact absurd h (by omega)
section
variable {P : Program} {w : World} {K : PySem.W.Frag} {mg : Str → Option Value} {base : Heap}
/-- between the statements: all but the tape as it was, the tape a tape -/
structure Sf (K : PySem.W.Frag) (H : Hp) (t sc : Addr) (ns : List Int) (H' : Hp) : Prop where
  kt : Kt t H H'
  tp : Tape K H' t sc ns
theorem Sf.k0 {H H' H2 : Hp} {t sc : Addr} {ns : List Int} (h : Sf K H t sc ns H') (k : K0 H' H2) : Sf K H t sc ns H2 := ⟨h.kt.trans k.kt, h.tp.k0 k⟩
theorem Sf.go {H H' H2 : Hp} {t sc : Addr} {ns : List Int} (h : Sf K H t sc ns H') (k : Kt t H' H2) (tp : Tape K H2 t sc ns) : Sf K H t sc ns H2 := ⟨h.kt.trans k, tp⟩
theorem Sf.over {H H' H2 : Hp} {t sc q : Addr} {ns : List Int} (h : Sf K H t sc ns H') (h0 : Tape K H t sc ns) (k : Kt q H' H2) (n : H q = none) : Sf K H t sc ns H2 := by
  have kk := h.kt.over k n
  obtain ⟨⟨p, v, e, r⟩, _⟩ := h.tp
  have ht : t ≠ q := fun z => by
    obtain ⟨_, _, e, _⟩ := h0.v
    rw [z, n] at e; cases e
  exact ⟨kk, ⟨p, v, k.oth t _ e ht (fun _ z => by cases z), r⟩, h0.scr.kt kk⟩
theorem Sf.put {H H' : Hp} {t sc q : Addr} {ns : List Int} {ls ms : List (Key × V)} (h : Sf K H t sc ns H') (h0 : Tape K H t sc ns) (n : H q = none) (hk : H' q = some (.dK ls)) : Sf K H t sc ns (upd H' q (.dK ms)) := h.over h0 ((Kt.refl q H').setD hk) n
theorem or_eq {σ : L2.St} {H : Hp} {Q' : Bool → Hp → Prop} {d c c' : Int} {i : Nat} (h : σ[i]? = some (some (.int d))) (q : Q' (decide (d = c ∨ d = c')) H) : tOr (tTest (tOp rEq (tVar i) (tC (.int c)))) (tTest (tOp rEq (tVar i) (tC (.int c')))) σ H Q' := by
  refine ⟨_, h, rfl, _, rfl, ?_⟩
  by_cases e : d = c
  · rw [decide_eq_true (show V.int d = V.int c by rw [e])]
    rw [decide_eq_true (Or.inl e)] at q
    exact q
  · rw [decide_eq_false (show ¬ V.int d = V.int c from fun z => e (by cases z; rfl))]
    refine ⟨_, h, rfl, _, rfl, ?_⟩
    by_cases e' : d = c'
    · rw [decide_eq_true (Or.inr e')] at q
      rw [decide_eq_true (show V.int d = V.int c' by rw [e'])]
      exact q
    · rw [decide_eq_false (show ¬ (d = c ∨ d = c') from fun z => z.elim e e')] at q
      rw [decide_eq_false (show ¬ V.int d = V.int c' from fun z => e' (by cases z; rfl))]
      exact q
/-- dicts of whole numbers -/
def DsAt (H : Hp) (xs : List V) : Prop := ∀ x ∈ xs, ∃ q ls f, x = .ref q ∧ H q = some (.dK ls) ∧ DI ls f ∧ ls.length ≤ 3000
theorem DsAt.kt {t sc : Addr} {ns : List Int} {H H' : Hp} {xs : List V} (h : DsAt H xs) (tp : Tape K H t sc ns) (k : Kt t H H') : DsAt H' xs := fun x hx => by
  obtain ⟨q, ls, f, e, hq, r⟩ := h x hx
  refine ⟨q, ls, f, e, k.oth q _ hq (fun z => ?_) (fun _ z => by cases z), r⟩
  obtain ⟨_, _, e, _⟩ := tp.v
  rw [← z, hq] at e; cases e
theorem DsAt.k0 {H H' : Hp} {xs : List V} (h : DsAt H xs) (k : K0 H H') : DsAt H' xs := fun x hx => by
  obtain ⟨q, ls, f, e, hq, r⟩ := h x hx
  exact ⟨q, ls, f, e, k.oth q _ hq (fun _ z => by cases z), r⟩
theorem DsAt.lst {H : Hp} {xs ys zs : List V} {l : Addr} (h : DsAt H xs) (hl : H l = some (.lst ys)) : DsAt (upd H l (.lst zs)) xs := fun x hx => by
  obtain ⟨q, ls, f, e, hq, r⟩ := h x hx
  exact ⟨q, ls, f, e, by rw [upd_ne (ne_of hq hl (fun z => by cases z))]; exact hq, r⟩
theorem DsAt.cons {H : Hp} {xs : List V} {q : Addr} {ls : List (Key × V)} {f : IF} (hq : H q = some (.dK ls)) (hD : DI ls f) (hl : ls.length ≤ 3000) (h : DsAt H xs) : DsAt H (.ref q :: xs) := fun x hx => by
  rcases List.mem_cons.mp hx with rfl | hx
  · exact ⟨q, ls, f, rfl, hq, hD, hl⟩
  · exact h x hx
theorem DsAt.snoc {H : Hp} {xs : List V} {q : Addr} {ls : List (Key × V)} {f : IF} (h : DsAt H xs) (hq : H q = some (.dK ls)) (hD : DI ls f) (hl : ls.length ≤ 3000) : DsAt H (xs ++ [.ref q]) := fun x hx => by
  rcases List.mem_append.mp hx with hx | hx
  · exact h x hx
  · exact ⟨q, ls, f, List.mem_singleton.mp hx, hq, hD, hl⟩
theorem Sf.lst {H H' : Hp} {t sc l : Addr} {ns : List Int} {zs : List V} (h : Sf K H t sc ns H') (h0 : Tape K H t sc ns) (n : H l = none) : Sf K H t sc ns (upd H' l (.lst zs)) := ⟨h.kt.mut n, h.tp.mut h0.scr h.kt n (h0.ne n)⟩
end
end HK

set_option Elab.async false
set_option linter.all false
set_option maxRecDepth 100000
set_option maxHeartbeats 2000000
namespace HK
open PySem PySem.Spec PyProof.Rows L2 GAl GxR
/-! ### t[::-1], a tuple -/
theorem adjust_back (n : Nat) : Builtin.Slice.sliceAdjust none none (-1) (n : Int) = ((n : Int) - 1, -1) := by
  unfold Builtin.Slice.sliceAdjust
  rfl
theorem places_back (n : Nat) : Builtin.Slice.slicePlaces ((n : Int) - 1) (-1) (-1) = n := by
  unfold Builtin.Slice.slicePlaces
  have h1 : ¬ ((-1 : Int) > 0) := by omega
  simp only [h1, if_false, Int.neg_neg, Int.ediv_one]
  split <;> omega
theorem fm_congr {α β : Type} {f g : α → Option β} : ∀ {l : List α}, (∀ x ∈ l, f x = g x) → l.filterMap f = l.filterMap g
  | [], _ => rfl
  | a :: l, h => by
    rw [List.filterMap_cons, List.filterMap_cons, h a List.mem_cons_self, fm_congr fun x hx => h x (List.mem_cons_of_mem _ hx)]
theorem pick_back (xs : Array Value) : ((List.range xs.size).filterMap fun (m : Nat) => xs[(((xs.size : Int) - 1) + (m : Int) * (-1)).toNat]?).toArray = xs.toList.reverse.toArray := by
  have e : (List.range xs.size).filterMap (fun (m : Nat) => xs[(((xs.size : Int) - 1) + (m : Int) * (-1)).toNat]?) = ((List.range xs.size).map fun k => xs.size - 1 - k).filterMap (xs[·]?) := by
    rw [List.filterMap_map]
    refine fm_congr fun m hm => ?_
    have hm := List.mem_range.mp hm
    have z : (((xs.size : Int) - 1) + (m : Int) * (-1)).toNat = xs.size - 1 - m := by omega
    show xs[(((xs.size : Int) - 1) + (m : Int) * (-1)).toNat]? = xs[xs.size - 1 - m]?
    rw [z]
  rw [e, PySem.W.krv_range, List.filterMap_reverse, PySem.W.krv_all]
section
variable {prog : Program} {w : World} {A : Around} {E : Value → Shared → Prop} {s : Shared}
theorem applied_back {sl : Addr} {vs : Value} {n : Nat} {Q : Int × Int × Nat → Shared → Prop} (hs : s.heap.IsSliceOf sl .none .none vs) (ps : IsPart vs (some (-1)))
    (h : Q ((n : Int) - 1, -1, n) s) : wpAny (model prog w) A (Builtin.Slice.sliceApplied (.ref sl) (pure (n : Int))) Q E s := by
  obtain ⟨os, hos, hcs, hds⟩ := id hs
  unfold Builtin.Slice.sliceApplied Builtin.Slice.sliceFields
  refine wpAny_bind (wpAny_bind (wpAny_field hos hds (x := .none) rfl (wpAny_bind (wpAny_field hos hds (x := .none) rfl (wpAny_bind (wpAny_field hos hds (x := vs) rfl (wpAny_pure ?_)))))))
  refine wpAny_bind (HT.slicePart_ ps ?_)
  show wpAny _ _ (if ((-1 : Int) == 0) = true then _ else _) _ _ s
  rw [if_neg (by decide)]
  refine wpAny_bind (slicePart_none (wpAny_bind (slicePart_none (wpAny_bind (wpAny_pure ?_)))))
  show wpAny _ _ (match Builtin.Slice.sliceAdjust none none (-1) (n : Int) with | (lo, hi) => pure (lo, (-1 : Int), Builtin.Slice.slicePlaces lo hi (-1))) _ _ s
  rw [adjust_back n]
  show wpAny _ _ (pure ((n : Int) - 1, (-1 : Int), Builtin.Slice.slicePlaces ((n : Int) - 1) (-1) (-1))) _ _ s
  rw [places_back]
  exact wpAny_pure h
theorem item_back {t sl : Addr} {items : Array Value} {vs : Value} {Q : Value → Shared → Prop} (ht : IsTup s.heap t items) (hs : s.heap.IsSliceOf sl .none .none vs) (ps : IsPart vs (some (-1)))
    (h : Q (.ref s.heap.objs.size) { s with heap := s.heap.push { cls := .type "tuple", data := .seq items.toList.reverse.toArray } }) (hsz : items.size ≤ sizeLine) : wpAny (model prog w) A (getItem (.ref t) (.ref sl)) Q E s := by
  have htake : sizeOk (.seq items.toList.reverse.toArray) := by
    show items.toList.reverse.toArray.size ≤ sizeLine
    rw [List.size_toArray, List.length_reverse, Array.length_toList]
    exact hsz
  obtain ⟨os, hos, hcs, hds⟩ := id hs
  have hTs : s.TypeIs (.ref sl) "slice" := ⟨os, hos, hcs⟩
  unfold getItem
  try with_reducible refine wpAny_holding ?_
  first | refine wpAny_bind (wpAny_pure ?_) | skip
  refine wpAny_bind (wpAny_sequenceKey ht.typeIs (by decide) ?_)
  refine wpAny_bind (wpAny_callSpecial?_slot (name := Str.ofString "__getitem__") ht.typeIs PyProof.Rows.slot_tuple_getitem
    (wpAny_call_entry PyProof.Rows.slot_tuple_getitem ht.typeIs entry_tuple_getitem ?_ (args_tuple_getitem _ _)))
  show wpAny _ _ (Builtin.Tuple.tupleItemsOf (.ref t) >>= _) _ _ s
  refine wpAny_bind (tupleItemsOf_ ht ?_)
  refine wpAny_bind (wpAny_typeOf hTs ?_)
  rw [if_pos (by decide)]
  refine wpAny_bind (applied_back hs ps ?_)
  have hno : ¬ ((((items.size : Int) - 1) == 0 && (-1 : Int) == 1 && items.size == items.size) = true) := by
    intro q
    rw [Bool.and_eq_true, Bool.and_eq_true] at q
    exact absurd q.1.2 (by decide)
  show wpAny _ _ (if (((items.size : Int) - 1) == 0 && (-1 : Int) == 1 && items.size == items.size) = true then _ else _) _ _ s
  rw [if_neg hno, pick_back]
  first
    | exact wpAny_bind (m := Builtin.Tuple.tupleExact _) (wpAny_newObj_type (wpAny_pure ⟨_, rfl, wpAny_pure h⟩) htake)
    | exact wpAny_bind (m := Builtin.Tuple.tupleExact _) (wpAny_newObj_type (wpAny_bind (wpAny_pure (wpAny_pure ⟨_, rfl, wpAny_pure h⟩))) htake)
    | exact wpAny_bind (wpAny_bind (m := Builtin.Tuple.tupleExact _) (wpAny_newObj_type (wpAny_pure (wpAny_pure ⟨_, rfl, wpAny_pure h⟩)) htake))
    | exact wpAny_bind (wpAny_bind (m := Builtin.Tuple.tupleExact _) (wpAny_newObj_type (wpAny_pure ⟨_, rfl, wpAny_pure h⟩) htake))
end
section
variable {X : Cx}
def tRevT (K : PySem.W.Frag) (te : TE) : TE := fun σ H Q => te σ H fun x H1 => ∃ a xs, x = .ref a ∧ SqT K H1 a xs ∧ ∀ p, H1 p = none → Q (.ref p) (upd H1 p (.tup xs.reverse))
theorem isPart_none {v : Value} (p : IsPart v none) : v = .none := by cases p; rfl
theorem pe_revT {e : Expr} {te : TE} {k : Nat} {p1 p2 p3 pos : Pos} (he : PE X e te) : PE X (.Subscript e (.Slice none none (some (.UnaryOp .USub (.Constant (.int 1) k p1) p2)) p3) pos) (tRevT X.K te) := by
  refine ⟨fun pins s σ H Q I h => ?_⟩
  refine Subscript_ (thn (he.run pins s σ H _ I h) fun v s1 ⟨x, H1, I1, r1, q1⟩ => ?_)
  obtain ⟨a, xs, ex, hx, q⟩ := q1
  subst ex
  cases r1
  have hst : PO X (some (.UnaryOp .USub (.Constant (.int 1) k p1) p2)) (tPart (tUn (rU fun i => .int (-i)) (tC (.int 1)))) := po_some (pe_un un_neg pe_int)
  refine wpAny_Slice (thn (po_none.run pins s1 σ H1 (fun o H2 => o = none ∧ H2 = H1) I1 ⟨rfl, rfl⟩) fun vl s2 ⟨l, H2, I2, pl, el, e2⟩ => ?_)
  subst el e2
  refine thn (po_none.run pins s2 σ H2 (fun o H3 => o = none ∧ H3 = H2) I2 ⟨rfl, rfl⟩) fun vu s3 ⟨u, H3, I3, pu, eu, e3⟩ => ?_
  subst eu e3
  refine thn (hst.run pins s3 σ H3 (fun o H4 => o = some (-1) ∧ H4 = H3) I3 ⟨1, rfl, -1, rfl, rfl, rfl⟩) fun vs s4 ⟨o, H4, I4, ps, eo, e4⟩ => ?_
  subst eo e4
  have hl0 := isPart_none pl
  have hu0 := isPart_none pu
  subst hl0 hu0
  have I5 : Inv X pins σ H4 { s4 with heap := s4.heap.push { cls := .type "slice", data := .fields #[.none, .none, vs] } } := I4.kept (t' := s4.toks) fun b ob q => Heap.get?_push_of_some _ q
  obtain ⟨its, r, ht, hz⟩ := I5.tuple hx
  have hlen := r.length
  show wpAny (model X.prog X.w) X.A (subscriptTail e (.Slice none none (some (.UnaryOp .USub (.Constant (.int 1) k p1) p2)) p3) (.ref a) (.ref s4.heap.objs.size)) (EP X pins σ Q) X.xe { s4 with heap := s4.heap.push { cls := .type "slice", data := .fields #[.none, .none, vs] } }
  refine tail_any (ops := [.ref a, .ref s4.heap.objs.size]) ht.typeIs (PyProof.Rows.slot_tuple_getitem.lookup) ?_ (by with_unfolding_all rfl)
  refine item_back ht (Heap.IsSliceOf.new _ .none .none vs) ps ?_ (by rw [List.size_toArray]; omega)
  refine ⟨.ref _, _, I5.laid (t' := s4.toks) (o := .tup xs.reverse) (fun b ob q => Heap.get?_push_of_some _ q) (Nat.le_refl _) ?_, rfl, q _ (I5.hok.fresh (Nat.le_refl _))⟩
  exact ⟨by rw [List.length_reverse]; exact hz, _, r.reverse, ⟨_, Heap.get?_push_size _ rfl, rfl, _, rfl⟩⟩
end
end HK

set_option Elab.async false
set_option linter.all false
set_option maxRecDepth 100000
set_option maxHeartbeats 4000000
namespace HK
open PySem PySem.Spec PyProof.Rows L2 GAl GxR
open Evl (pss_cut)
abbrev sBentR : Stmt := topS 30
abbrev N_scBentR : List Str := ["tape", "net", "some", "at", "far", "odd", "way"]
theorem scBentR : FnScope N_scBentR ["tape", "net", "some"] (defScope sBentR) := ⟨rfl, rfl, rfl, by decide +kernel, rfl, by decide +kernel, by decide +kernel⟩
theorem pick5 {d : Int} (h0 : 0 ≤ d) (h1 : d < 5) (a b c e f : Int) : ∃ y : Int, atI [V.int a, .int b, .int c, .int e, .int f] d = some (.int y) := by
  obtain ⟨k, rfl⟩ := Int.eq_ofNat_of_zero_le h0
  match k, h1 with
  | 0, _ => exact ⟨a, atI_nat rfl⟩
  | 1, _ => exact ⟨b, atI_nat rfl⟩
  | 2, _ => exact ⟨c, atI_nat rfl⟩
  | 3, _ => exact ⟨e, atI_nat rfl⟩
  | 4, _ => exact ⟨f, atI_nat rfl⟩
  | k + 5, h => exact absurd h (by omega)
theorem cutV_ints (l : List Int) (lo hi : Option Int) : ∃ m : List Int, cutV (l.map V.int) lo hi = m.map V.int ∧ m.length ≤ l.length := by
  unfold cutV
  refine ⟨(l.drop (HT.sIx (l.map V.int).length 0 lo)).take (HT.sIx (l.map V.int).length (l.map V.int).length hi - HT.sIx (l.map V.int).length 0 lo), ?_, ?_⟩
  · rw [← List.map_drop, ← List.map_take]
  · rw [List.length_take, List.length_drop]; omega
section
variable {P : Program} {w : World} {K : PySem.W.Frag} {mg : Str → Option Value} {base : Heap}
theorem slA {H : Hp} {q : Addr} {l : List Int} {lo hi : Option Int} {Q : VK} (h : SqT K H q (l.map V.int)) (hq : ∀ (p : Addr) (m : List Int) (H' : Hp), K0 H H' → SqT K H' p (m.map V.int) → m.length ≤ l.length → Q (.ref p) H') : rSlA K (.ref q) lo hi H Q := by
  obtain ⟨m, e, hl⟩ := cutV_ints l lo hi
  exact ⟨q, _, rfl, h, fun _ => hq q l H (K0.refl _) h (Nat.le_refl _), fun _ p np => hq p m _ (K0.new np) (by rw [e]; exact .inl (.inl upd_same)) hl⟩
theorem catA {H : Hp} {p q : Addr} {l m : List Int} {Q : VK} (h : SqT K H p (l.map V.int)) (g : SqT K H q (m.map V.int)) (hz : l.length + m.length ≤ 5000) (hq : ∀ (b : Addr) (H' : Hp), K0 H H' → SqT K H' b ((l ++ m).map V.int) → Q (.ref b) H') : rCatA K (.ref p) (.ref q) H Q := by
  refine ⟨p, q, _, _, rfl, rfl, h, g, Nat.le_trans (m := 5000) (by rw [List.length_map, List.length_map]; exact hz) (by decide), fun e => ?_, fun _ e => ?_, fun _ _ b nb => ?_⟩
  · have e' : l = [] := by cases l with | nil => rfl | cons => cases e
    subst e'
    exact hq q H (K0.refl _) g
  · have e' : m = [] := by cases m with | nil => rfl | cons => cases e
    subst e'
    exact hq p H (K0.refl _) (by rw [List.append_nil]; exact h)
  · exact hq b _ (K0.new nb) (by rw [List.map_append]; exact .inl (.inl upd_same))
def spBentR (K : PySem.W.Frag) : Sp := fun vs H Q _ => ∃ (t sc a : Addr) (n : Int) (rs : List R4) (p : Addr) (l : List Int) (ns : List Int), vs = [.ref t, .ref a, .ref p] ∧ Tape K H t sc ns ∧ NetAt K H a n rs ∧ 1 ≤ n ∧ n ≤ 12 ∧ SqT K H p (l.map V.int) ∧ l.length ≤ 12 ∧
  ∀ (q : Addr) (m : List Int) (H' : Hp), Sf K H t sc ns H' → SqT K H' q (m.map V.int) → m.length ≤ 30 → Q (.ref q) H'
theorem ok_bentR {f : Addr} {fd : FuncData} {f_digit : Addr} {fd_digit : FuncData} (F : Fun K "_law_b_bent" "_law_b_bent" sBentR f fd)
    (k_digit : PySem.W.keepIn K (.ref f_digit) = true) (b_digit : Binds K fd_digit ["tape", "many"] []) (g_digit : mg "_law_b_digit" = some (.ref f_digit)) (G_digit : FnOk P w K mg base CX0 2 f_digit fd_digit ["tape", "many"] (spDigit K))
    (m_len : mg "len" = none) (m_sorted : mg "sorted" = none) (m_set : mg "set" = none) (m_tuple : mg "tuple" = none) : FnOk P w K mg base CX0 3 f fd ["tape", "net", "some"] (spBentR K) := by
  refine F.ok scBentR (fun vs H Q E h => ?_) (fun cdv A outer s H vs Q E hr h => ?_)
  · obtain ⟨t, sc, a, n, rs, p, l, ns, rfl, _⟩ := h
    rfl
  · obtain ⟨t, sc, a, n, rs, p, l, ns, rfl, htp, hN, n1, n2, hp, hll, q⟩ := h
    have hu := hu_of hr
    refine ⟨_, (pss_cons (ps_set (i := 3) scBentR.nd rfl (.inl rfl) (pe_call G_digit (hr.mono (by decide)) (by rfl) g_digit k_digit b_digit .nil pass0 (pa_cons (pv 0) (pa_cons (pe_op op_add (pe_callB call_len_seq (by rfl) m_len PySem.boot_len (pa_cons (pv 2) pa_nil)) pe_int) pa_nil))))
      (pss_cons (ps_set (i := 4) scBentR.nd rfl (.inl rfl) (pe_call G_digit (hr.mono (by decide)) (by rfl) g_digit k_digit b_digit .nil pass0 (pa_cons (pv 0) (pa_cons (pe_op op_pow pe_int pe_int) pa_nil))))
      (pss_cons (ps_set (i := 5) scBentR.nd rfl (.inl rfl) (pe_ix ix_list (pe_lst (pa_cons (pe_call G_digit (hr.mono (by decide)) (by rfl) g_digit k_digit b_digit .nil pass0 (pa_cons (pv 0) (pa_cons (pe_ix ix_tup (pv 1) pe_int (fun _ _ => rfl)) pa_nil))) (pa_cons (pe_un un_neg pe_int) (pa_cons (pe_ix ix_tup (pv 1) pe_int (fun _ _ => rfl)) (pa_cons (pe_op op_add (pe_ix ix_tup (pv 1) pe_int (fun _ _ => rfl)) (pv 4)) (pa_cons (pe_op op_sub (pe_un un_neg pe_int) (pv 4)) pa_nil)))))) (pe_call G_digit (hr.mono (by decide)) (by rfl) g_digit k_digit b_digit .nil pass0 (pa_cons (pv 0) (pa_cons pe_int pa_nil))) (fun _ _ => rfl)))
      (pss_cons (ps_set (i := 6) scBentR.nd rfl (.inl rfl) (pe_call G_digit (hr.mono (by decide)) (by rfl) g_digit k_digit b_digit .nil pass0 (pa_cons (pv 0) (pa_cons pe_int pa_nil))))
      (pss_cons (ps_if (pt_cmpR op_eq (pv 6) pe_int (nomark _)) (pss_one (ps_ret (pe_op op_catA (pe_slice sl_tupA (pv 2) po_none (po_some (pv 3))) (pe_slice sl_tupA (pv 2) (po_some (pe_op op_add (pv 3) pe_int)) po_none)))) pss_nil)
      (pss_cons (ps_if (pt_cmpR op_eq (pv 6) pe_int (nomark _)) (pss_one (ps_ret (pe_op op_catA (pe_op op_catA (pe_slice sl_tupA (pv 2) po_none (po_some (pv 3))) (pe_tup (pa_cons (pv 5) pa_nil))) (pe_slice sl_tupA (pv 2) (po_some (pv 3)) po_none)))) pss_nil)
      (pss_cons (ps_if (pt_cmpR op_eq (pv 6) pe_int (nomark _)) (pss_one (ps_ret (pe_callTy HkL.call_tupR (by rfl) m_tuple (by decide +kernel) (pa_cons (pe_callB (cr_sortedSet rfl) (by rfl) m_sorted boot_sorted (pa_cons (pe_callTy (HkL.cr_setT rfl) (by rfl) m_set (by decide +kernel) (pa_cons (pe_op op_catA (pv 2) (pe_tup (pa_cons (pv 5) pa_nil))) pa_nil)) pa_nil)) pa_nil)))) pss_nil)
      (pss_cons (ps_if (pt_cmpR op_eq (pv 6) pe_int (nomark _)) (pss_one (ps_ret (pe_revT (pv 2)))) pss_nil)
      (pss_cons (ps_if (pt_cmpR op_eq (pv 6) pe_int (nomark _)) (pss_one (ps_ret (pe_op op_catA (pe_slice sl_tupA (pv 2) po_none (po_some pe_int)) (pv 2)))) pss_nil)
      (pss_cons (ps_if (pt_cmpR op_eq (pv 6) pe_int (nomark _)) (pss_one (ps_ret (pe_op op_catA (pe_slice sl_tupA (pv 2) (po_some pe_int) po_none) (pe_slice sl_tupA (pv 2) po_none (po_some pe_int))))) pss_nil)
      (pss_one (ps_ret (pe_slice sl_tupA (pv 2) po_none (po_some (pv 3))))))))))))))), ?_⟩
    -- at
    refine ⟨_, rfl, _, rfl, p, _, rfl, .inr hp, (l.length : Int), 1, by rw [List.length_map], rfl, t, sc, _, ns, rfl, htp, by omega, by omega, fun at_ H1 a0 a1 k1 tp1 => ?_⟩
    have s1 : Sf K H t sc ns H1 := ⟨k1, tp1⟩
    -- far
    refine ⟨_, rfl, 10, 20, rfl, rfl, ⟨by decide, by decide, by decide⟩, t, sc, _, ns, rfl, tp1, by decide, by decide, fun far H2 f0 f1 k2 tp2 => ?_⟩
    have s2 := s1.go k2 tp2
    -- odd
    have hN2 := hN.kt s2.kt
    obtain ⟨r, xs, o, z1, z2, z3, z4, z5⟩ := hN2
    refine ⟨_, rfl, _, rfl, a, _, 0, .int n, rfl, rfl, z1, atI_nat (j := 0) rfl, t, sc, n, ns, rfl, tp2, by omega, by omega, fun d H3 d0 d1 k3 tp3 => ?_⟩
    have s3 := s2.go k3 tp3
    have z1' : SqT K H3 a [.int n, .ref r] := k3.sqT z1
    refine ⟨1, rfl, _, rfl, a, _, 0, .int n, rfl, rfl, z1', atI_nat (j := 0) rfl, _, rfl, a, _, 0, .int n, rfl, rfl, z1', atI_nat (j := 0) rfl, _, rfl, n, far, rfl, rfl, 1, rfl, _, rfl, -1, far, rfl, rfl, by show 5 ≤ sizeLine; decide, fun b nb => ?_⟩
    have k4 : K0 H3 (upd H3 b (.lst [.int d, .int (-1), .int n, .int (n + far), .int (-1 - far)])) := K0.new nb
    have s4 := s3.k0 k4
    have hbt : b ≠ t := tp3.ne nb
    refine ⟨_, rfl, t, sc, 5, ns, rfl, s4.tp, by omega, by omega, fun e H5 e0 e1 k5 tp5 => ?_⟩
    obtain ⟨odd, ey⟩ := pick5 e0 e1 d (-1) n (n + far) (-1 - far)
    refine ⟨b, _, e, _, rfl, rfl, .inl (.inl (k5.oth b _ upd_same hbt (fun _ z => by cases z))), ey, ?_⟩
    have s5 := s4.go k5 tp5
    -- way
    refine ⟨_, rfl, t, sc, 7, ns, rfl, tp5, by omega, by omega, fun way H6 w0 w1 k6 tp6 => ?_⟩
    have s6 := s5.go k6 tp6
    have hp6 : SqT K H6 p (l.map V.int) := s6.kt.sqT hp
    have eqD : ∀ {c : Int}, ¬ way = c → decide (V.int way = V.int c) = false := fun h => decide_eq_false (fun z => h (by cases z; rfl))
    have eqT : ∀ {c : Int}, way = c → decide (V.int way = V.int c) = true := fun h => decide_eq_true (by rw [h])
    have fin : ∀ {q' : Addr} {m : List Int} {H' : Hp}, K0 H6 H' → SqT K H' q' (m.map V.int) → m.length ≤ 30 → Q (.ref q') H' := fun k hs hl => q _ _ _ (s6.k0 k) hs hl
    refine ⟨_, rfl, rfl, _, rfl, ?_⟩
    by_cases hw : way = 0
    · rw [eqT hw]
      refine iteT ⟨_, rfl, _, rfl, at_, rfl, slA hp6 fun p1 m1 H7 k7 hs7 hl7 => ?_⟩
      refine ⟨_, rfl, _, rfl, at_, 1, rfl, rfl, at_ + 1, rfl, ?_⟩
      dsimp only [tNoPart]
      refine slA (k7.sqT hp6) fun p2 m2 H8 k8 hs8 hl8 => ?_
      refine catA (k8.sqT hs7) hs8 (by omega) fun p3 H9 k9 hs9 => ?_
      exact fin ((k7.trans k8).trans k9) hs9 (by rw [List.length_append]; omega)
    rw [eqD hw]
    refine iteF ⟨_, rfl, rfl, _, rfl, ?_⟩
    by_cases hw : way = 1
    · rw [eqT hw]
      refine iteT ⟨_, rfl, _, rfl, at_, rfl, slA hp6 fun p1 m1 H7 k7 hs7 hl7 => ?_⟩
      refine ⟨_, rfl, by show 1 ≤ sizeLine; decide, fun po npo => ?_⟩
      have ko : K0 H7 (upd H7 po (.tup [.int odd])) := K0.new npo
      refine catA (m := [odd]) (ko.sqT hs7) (.inl (.inl upd_same)) (by show _ + 1 ≤ _; omega) fun p3 H9 k9 hs9 => ?_
      have k79 := (k7.trans ko).trans k9
      refine ⟨_, rfl, _, rfl, at_, rfl, ?_⟩
      dsimp only [tNoPart]
      refine slA (k79.sqT hp6) fun p2 m2 H8 k8 hs8 hl8 => ?_
      refine catA (k8.sqT hs9) hs8 (by rw [List.length_append]; show _ + 1 + _ ≤ _; omega) fun p4 H10 k10 hs10 => ?_
      exact fin ((k79.trans k8).trans k10) hs10 (by rw [List.length_append, List.length_append]; show _ + 1 + _ ≤ _; omega)
    rw [eqD hw]
    refine iteF ⟨_, rfl, rfl, _, rfl, ?_⟩
    by_cases hw : way = 2
    · rw [eqT hw]
      refine iteT ⟨_, rfl, _, rfl, by show 1 ≤ sizeLine; decide, fun po npo => ?_⟩
      have ko : K0 H6 (upd H6 po (.tup [.int odd])) := K0.new npo
      refine catA (m := [odd]) (ko.sqT hp6) (.inl (.inl upd_same)) (by show _ + 1 ≤ _; omega) fun p3 H9 k9 hs9 => ?_
      have k69 := ko.trans k9
      have hl3 : (l ++ [odd]).length ≤ 13 := by rw [List.length_append]; show _ + 1 ≤ _; omega
      refine ⟨p3, l ++ [odd], rfl, hs9, by omega, fun sp c nsp hc => ?_⟩
      have k2 := k69.mut (o := SetO w sp (fun j => decide (j ∈ l ++ [odd])) c) (k69.dom sp nsp)
      refine ⟨sp, _, c, rfl, upd_same, by omega, fun ms p2 hrise hmem hlen np2 => ?_⟩
      have k3 := k2.mut (o := .lst (ms.map V.int)) (k2.dom p2 np2)
      refine ⟨p2, _, rfl, .inl ⟨.inl (.inl upd_same), fun p4 np4 => ?_⟩⟩
      exact fin (k3.mut (k3.dom p4 np4)) (.inl (.inl upd_same)) (by omega)
    rw [eqD hw]
    refine iteF ⟨_, rfl, rfl, _, rfl, ?_⟩
    by_cases hw : way = 3
    · rw [eqT hw]
      refine iteT ⟨_, rfl, p, _, rfl, hp6, fun p4 np4 => ?_⟩
      exact fin (m := l.reverse) (K0.new np4) (by rw [← List.map_reverse]; exact .inl (.inl upd_same)) (by rw [List.length_reverse]; omega)
    rw [eqD hw]
    refine iteF ⟨_, rfl, rfl, _, rfl, ?_⟩
    by_cases hw : way = 4
    · rw [eqT hw]
      refine iteT ⟨_, rfl, 1, rfl, slA hp6 fun p1 m1 H7 k7 hs7 hl7 => ?_⟩
      refine ⟨_, rfl, catA hs7 (k7.sqT hp6) (by omega) fun p3 H9 k9 hs9 => ?_⟩
      exact fin (k7.trans k9) hs9 (by rw [List.length_append]; omega)
    rw [eqD hw]
    refine iteF ⟨_, rfl, rfl, _, rfl, ?_⟩
    by_cases hw : way = 5
    · rw [eqT hw]
      refine iteT ⟨_, rfl, 1, rfl, ?_⟩
      dsimp only [tNoPart]
      refine slA hp6 fun p1 m1 H7 k7 hs7 hl7 => ?_
      refine ⟨_, rfl, 1, rfl, slA (k7.sqT hp6) fun p2 m2 H8 k8 hs8 hl8 => ?_⟩
      refine catA (k8.sqT hs7) hs8 (by omega) fun p3 H9 k9 hs9 => ?_
      exact fin ((k7.trans k8).trans k9) hs9 (by rw [List.length_append]; omega)
    rw [eqD hw]
    refine iteF ⟨_, rfl, _, rfl, at_, rfl, slA hp6 fun p1 m1 H7 k7 hs7 hl7 => ?_⟩
    exact fin k7 hs7 (by omega)
end
end HK

set_option Elab.async false
set_option linter.all false
set_option maxRecDepth 100000
set_option maxHeartbeats 4000000
namespace HK
open PySem PySem.Spec PyProof.Rows L2 GAl GxR
/-! ### rows: tuples of whole numbers of which something holds -/
theorem strict_of {ys ks : List Int} (hp : ys.Perm ks) (hs : ys.Pairwise (· ≤ ·)) (nd : ks.Nodup) : ys.Pairwise (· < ·) := by
  have nd' : ys.Pairwise (· ≠ ·) := (hp.nodup_iff).mpr nd
  exact List.Pairwise.imp₂ (fun a b h1 h2 => by omega) hs nd'
theorem areP_nil {n : Int} : AreP n [] := ⟨fun v hv => by (cases hv), List.Pairwise.nil⟩
def RowsP (K : PySem.W.Frag) (H : Hp) (Pd : List Int → Prop) (xs : List V) : Prop := ∀ x ∈ xs, ∃ (q : Addr) (l : List Int), x = .ref q ∧ SqT K H q (l.map V.int) ∧ Pd l
section
variable {K : PySem.W.Frag} {Pd : List Int → Prop}
theorem RowsP.kt {t : Addr} {H H' : Hp} {xs : List V} (h : RowsP K H Pd xs) (k : Kt t H H') : RowsP K H' Pd xs := fun x hx => by
  obtain ⟨q, l, e, hs, r⟩ := h x hx
  exact ⟨q, l, e, k.sqT hs, r⟩
theorem RowsP.k0 {H H' : Hp} {xs : List V} (h : RowsP K H Pd xs) (k : K0 H H') : RowsP K H' Pd xs := h.kt (k.kt (t := 0))
theorem RowsP.nil {H : Hp} : RowsP K H Pd [] := fun x hx => by cases hx
theorem RowsP.cons {H : Hp} {q : Addr} {l : List Int} {xs : List V} (hs : SqT K H q (l.map V.int)) (ha : Pd l) (h : RowsP K H Pd xs) : RowsP K H Pd (.ref q :: xs) := fun x hx => by
  rcases List.mem_cons.mp hx with rfl | hx
  · exact ⟨q, l, rfl, hs, ha⟩
  · exact h x hx
theorem RowsP.app {H : Hp} {xs ys : List V} (h : RowsP K H Pd xs) (h' : RowsP K H Pd ys) : RowsP K H Pd (xs ++ ys) := fun x hx => (List.mem_append.mp hx).elim (h x) (h' x)
theorem RowsP.lst {H : Hp} {xs ys zs : List V} {l : Addr} (h : RowsP K H Pd xs) (hl : H l = some (.lst ys)) : RowsP K (upd H l (.lst zs)) Pd xs := h.kt (Kt.set hl)
theorem shapedI (ns : List Int) : SeqAt.shaped (.list (ns.map PyData.int)) = true := PySem.W.shaped_ints ns
theorem rise_snoc {l : List Int} {i : Int} (h : l.Pairwise (· < ·)) (hl : ∀ v ∈ l, v < i) : (l ++ [i]).Pairwise (· < ·) := by
  rw [List.pairwise_append]
  exact ⟨h, List.pairwise_singleton .., fun a ha b hb => by rw [List.mem_singleton.mp hb]; exact hl a ha⟩
end
end HK

set_option Elab.async false
set_option linter.all false
set_option maxRecDepth 100000
set_option maxHeartbeats 4000000
namespace HK
open PySem PySem.Spec PyProof.Rows L2 GAl GxR
abbrev sUnder : Stmt := topS 21
theorem scUnder : FnScope ["numbers", "start", "end", "more"] ["numbers", "start", "end", "more"] (defScope sUnder) := ⟨rfl, rfl, rfl, by decide +kernel, rfl, by decide +kernel, by decide +kernel⟩
def undB (f : IF) (s e m : Int) : Bool := match f s with
  | none => false
  | some x => match f e with
    | none => true
    | some b => decide (x + m < b)
section
variable {P : Program} {w : World} {K : PySem.W.Frag} {mg : Str → Option Value} {base : Heap}
def spUnder (K : PySem.W.Frag) : Sp := fun vs H Q _ => ∃ (p : Addr) (kvs : List (Key × V)) (g : IF) (a b c : Int), vs = [.ref p, .int a, .int b, .int c] ∧ Rd H p (.dK kvs) ∧ DI kvs g ∧ Q (.bl (undB g a b c)) H
theorem ok_under {f : Addr} {fd : FuncData} (F : Fun K "undercuts" "undercuts" sUnder f fd) : FnOk P w K mg base CX0 1 f fd ["numbers", "start", "end", "more"] (spUnder K) := by
  refine F.ok scUnder (fun vs H Q E h => ?_) (fun cdv A outer s H vs Q E hr h => ?_)
  · obtain ⟨p, kvs, g, a, b, c, rfl, _⟩ := h
    rfl
  · obtain ⟨p, kvs, g, a, b, c, rfl, hp, hD, q⟩ := h
    have hu := hu_of hr
    refine ⟨_, pss_one (ps_ret (pe_and (pe_cmp (pc_din hu (pv 1) (pv 0))) (pe_one (pe_or (pe_cmp (pc_dnotin hu (pv 2) (pv 0))) (pe_one (pe_cmpR op_lt (pe_op op_add (pe_dget hu (pv 0) (pv 1) (fun _ _ => rfl)) (pv 3)) (pe_dget hu (pv 0) (pv 2) (fun _ _ => rfl)) (nomark _))))))), ?_⟩
    unfold undB at q
    have ds := dgetR hp hD a
    have de := dgetR hp hD b
    refine ⟨_, rfl, _, rfl, p, _, rfl, ds, _, rfl, ?_⟩
    cases es : g a with
    | none => rw [es] at q; exact iteF q
    | some x =>
      rw [es] at q ds
      refine iteT ⟨_, rfl, _, rfl, p, _, rfl, de, _, rfl, ?_⟩
      cases ee : g b with
      | none => rw [ee] at q; exact iteT q
      | some y =>
        rw [ee] at q de
        exact iteF ⟨_, rfl, _, rfl, p, _, rfl, ds, _, rfl, x, c, rfl, rfl, _, rfl, _, rfl, p, _, rfl, de, x + c, y, rfl, rfl, q⟩
end
end HK

set_option Elab.async false
set_option linter.all false
set_option maxRecDepth 100000
set_option maxHeartbeats 2000000
namespace HK
open PySem PySem.Spec PyProof.Rows L2 GAl GxR
abbrev sEarly : Stmt := topS 20
theorem scEarly : FnScope ["net", "root", "many", "roads", "least", "turn", "start", "end", "cost", "late"] ["net", "root"] (defScope sEarly) := ⟨rfl, rfl, rfl, by decide +kernel, rfl, by decide +kernel, by decide +kernel⟩
section
variable {P : Program} {w : World} {K : PySem.W.Frag} {mg : Str → Option Value} {base : Heap}
def spEarly (K : PySem.W.Frag) (Pn Pr : Addr) : Sp := fun vs H Q _ => ∃ (a : Addr) (n : Int) (rs : List R4) (root : Int), vs = [.ref a, .int root] ∧ NetAt K H a n rs ∧ Good n rs ∧ rs.length ≤ 156 ∧ 0 ≤ root ∧ root < n ∧ TabG H Pn ∧ TabG H Pr ∧
  ∀ (p : Addr) (kvs : List (Key × V)) (H' : Hp), K0 H H' → H p = none → H' p = some (.dK kvs) → DI kvs (due n rs root) → kvs.length ≤ 2000 → Q (.ref p) H'
theorem ok_early {f fN fP fU Pn Pr : Addr} {fd fdN fdP fdU : FuncData} (F : Fun K "earliest" "earliest" sEarly f fd)
    (kN : PySem.W.keepIn K (.ref fN) = true) (bN : Binds K fdN ["net"] []) (gN : mg "need_net" = some (.ref fN)) (GN : FnOk P w K mg base CX0 6 fN fdN ["net"] (spNeedNet K Pn Pr))
    (kP : PySem.W.keepIn K (.ref fP) = true) (bP : Binds K fdP ["net", "place"] []) (gP : mg "need_place" = some (.ref fP)) (GP : FnOk P w K mg base CX0 4 fP fdP ["net", "place"] (spNeedPlace K))
    (kU : PySem.W.keepIn K (.ref fU) = true) (bU : Binds K fdU ["numbers", "start", "end", "more"] []) (gU : mg "undercuts" = some (.ref fU)) (GU : FnOk P w K mg base CX0 1 fU fdU ["numbers", "start", "end", "more"] (spUnder K)) (mr : mg "range" = none) :
    FnOk P w K mg base CX0 7 f fd ["net", "root"] (spEarly K Pn Pr) := by
  refine F.ok scEarly (fun vs H Q E h => ?_) (fun cdv A outer s H vs Q E hr h => ?_)
  · obtain ⟨a, n, rs, v, rfl, _⟩ := h
    rfl
  · obtain ⟨a, n, rs, root, rfl, hN, hG, hl, r0, r1, tn, tr, q⟩ := h
    have hu := hu_of hr
    refine ⟨_, pss_cons (ps_expr (pe_call GN hr (by rfl) gN kN bN .nil pass0 (pa_cons (pv 0) pa_nil)))
      (pss_cons (ps_expr (pe_call GP (hr.mono (by decide)) (by rfl) gP kP bP .nil pass0 (pa_cons (pv 0) (pa_cons (pv 1) pa_nil))))
      (pss_cons (ps_asg (pv 0) (pg_tup rfl (pgs_cons (pg_name (i := 2) scEarly.nd rfl (.inl rfl)) (pgs_cons (pg_name (i := 3) scEarly.nd rfl (.inl rfl)) pgs_nil))))
      (pss_cons (ps_set (i := 4) scEarly.nd rfl (.inl rfl) (pe_disp (pps_cons (pv 1) pe_int pps_nil) rfl rfl (fun z => by cases z) (by decide)))
      (pss_cons (ps_for PassesOwn.never rfl (pi_range1 (by rfl) mr (pa_cons (pv 2) pa_nil)) (pg_name (i := 5) scEarly.nd rfl (.inl rfl))
        (pss_one (ps_for PassesOwn.never rfl (pi_tup (pv 3)) (pg_tup rfl (pgs_cons (pg_name (i := 6) scEarly.nd rfl (.inl rfl)) (pgs_cons (pg_name (i := 7) scEarly.nd rfl (.inl rfl)) (pgs_cons (pg_name (i := 8) scEarly.nd rfl (.inl rfl)) (pgs_cons (pg_name (i := 9) scEarly.nd rfl (.inl rfl)) pgs_nil)))))
          (pss_one (ps_if (pt_val (pe_call GU (hr.mono (by decide)) (by rfl) gU kU bU .nil pass0 (pa_cons (pv 4) (pa_cons (pv 6) (pa_cons (pv 7) (pa_cons (pv 9) pa_nil))))))
            (pss_one (ps_dput hu (pv 4) (pv 7) (pe_op op_add (pe_dget hu (pv 4) (pv 6) (fun _ _ => rfl)) (pv 9)) rfl)) pss_nil)))))
      (pss_one (ps_ret (pv 4))))))), ?_⟩
    refine ⟨_, rfl, a, n, rs, rfl, hN, hG, hl, tn, tr, fun H1 k1 => ?_⟩
    have hN1 := hN.k0 k1
    refine ⟨_, rfl, _, rfl, a, n, rs, root, rfl, hN1, r0, r1, ?_⟩
    obtain ⟨r, xs, o, h1, h2, hc, hd, h3⟩ := hN1
    have n1 := hG.n1
    have n2 := hG.n2
    refine ⟨_, rfl, a, _, rfl, h1, rfl, _, _, rfl, _, _, rfl, rfl, ?_⟩
    refine fun p np => ⟨_, rfl, ⟨upd_same, [(Sum.inl root, .int 0)], rfl, (by show 1 ≤ 15; decide), ?_⟩⟩
    have nHp := k1.dom p np
    rw [upd_upd]
    have hxs : SqT K H1 r xs := .inl (.inr ⟨o, h2⟩)
    have hrl : xs.length = rs.length := h3.len
    refine ⟨_, rfl, n, rfl, by omega, by omega, for_range (lo := 0) (n := n.toNat) (fun i σ' H' => ∃ y5 y6 y7 y8 y9, σ' = [some (.ref a), some (.int root), some (.int n), some (.ref r), some (.ref p), y5, y6, y7, y8, y9] ∧ K0 H1 H' ∧
        ∃ kvs, H' p = some (.dK kvs) ∧ DI kvs (iter (fun f => rnd id rs f) i (ini root)) ∧ kvs.length ≤ 1 + 156 * i)
      ⟨none, none, none, none, none, rfl, K0.new np, _, upd_same, DI.one root, by show _ ≤ 1 + 156 * 0; exact Nat.le_of_eq rfl⟩ (fun i σ' H' hi h => ?_) (fun σ' H' h => ?_)⟩
    · obtain ⟨y5, y6, y7, y8, y9, rfl, k2, kvs, hk, hD, hlen⟩ := h
      refine ⟨.ref r, rfl, r, rfl, ⟨xs, k2.sqT hxs⟩, for_tup (xs := xs) (fun j σ' H' => ∃ y5 y6 y7 y8 y9, σ' = [some (.ref a), some (.int root), some (.int n), some (.ref r), some (.ref p), y5, y6, y7, y8, y9] ∧ K0 H1 H' ∧
          ∃ kvs, H' p = some (.dK kvs) ∧ DI kvs (rnd id (rs.take j) (iter (fun f => rnd id rs f) i (ini root))) ∧ kvs.length ≤ 1 + 156 * i + j)
        ⟨_, y6, y7, y8, y9, rfl, k2, kvs, hk, hD, hlen⟩ (fun j σ' H' hj h => ?_) (fun j x σ' H' hx h => ?_) (fun σ' H' h => ?_)⟩
      · obtain ⟨_, _, _, _, _, _, k3, _⟩ := h
        exact k3.sqT hxs
      · obtain ⟨y5, y6, y7, y8, y9, rfl, k3, kvs, hk, hD, hlen⟩ := h
        obtain ⟨d, e1, e2⟩ := dpAll_get h3 hx
        obtain ⟨t, rfl, hrd⟩ : ∃ t : R4, d = t.d ∧ rs[j]? = some t := by
          rw [List.getElem?_map] at e1
          cases e3 : rs[j]? with
          | none => rw [e3] at e1; cases e1
          | some t => rw [e3] at e1; cases e1; exact ⟨t, rfl, rfl⟩
        obtain ⟨q1, rfl, hs⟩ := dp_r4 e2
        have hjl : j < xs.length := by
          rw [hrl]; exact (List.getElem?_eq_some_iff.mp hrd).1
        rw [rnd_take hrd]
        generalize hg : rnd id (rs.take j) (iter (fun f => rnd id rs f) i (ini root)) = g at hD ⊢
        refine ⟨q1, _, rfl, k3.sqT hs, rfl, _, _, rfl, _, _, rfl, _, _, rfl, _, _, rfl, rfl, ?_⟩
        refine ⟨_, rfl, _, rfl, _, rfl, _, rfl, p, kvs, g, t.s, t.e, t.l, rfl, .inl hk, hD, _, rfl, ?_⟩
        have hsz : kvs.length < sizeLine := Nat.lt_of_le_of_lt (m := 5000) (by omega) (by decide)
        unfold rlx undB
        cases es : g t.s with
        | none => exact ⟨_, _, _, _, _, rfl, k3, kvs, hk, by rw [show id g t.s = none from es]; exact hD, by omega⟩
        | some x =>
          rw [show id g t.s = some x from es]
          have gets : DGet H' p (.int t.s) (some (.int x)) := by
            have := DGet.k (k := Sum.inl t.s) hk
            rw [hD.val, es] at this
            exact this
          cases ee : g t.e with
          | none =>
            refine iteT ⟨_, rfl, _, rfl, p, _, rfl, gets, _, rfl, x, t.l, rfl, rfl, _, rfl, _, rfl, p, _, rfl, DPut.k (k := Sum.inl t.e) hk hsz, ?_⟩
            refine ⟨_, _, _, _, _, rfl, k3.mut np, _, upd_same, hD.put _ _, Nat.le_trans (length_putK _ _ _) (by omega)⟩
          | some b =>
            by_cases hb : x + t.l < b
            · show if decide (x + t.l < b) = true then _ else _
              rw [decide_eq_true hb]
              simp only [hb, if_true]
              refine ⟨_, rfl, _, rfl, p, _, rfl, gets, _, rfl, x, t.l, rfl, rfl, _, rfl, _, rfl, p, _, rfl, DPut.k (k := Sum.inl t.e) hk hsz, ?_⟩
              refine ⟨_, _, _, _, _, rfl, k3.mut np, _, upd_same, hD.put _ _, Nat.le_trans (length_putK _ _ _) (by omega)⟩
            · show if decide (x + t.l < b) = true then _ else _
              rw [decide_eq_false hb]
              simp only [hb, if_false]
              exact ⟨_, _, _, _, _, rfl, k3, kvs, hk, hD, by omega⟩
      · obtain ⟨y5, y6, y7, y8, y9, rfl, k3, kvs, hk, hD, hlen⟩ := h
        rw [hrl, List.take_length] at hD
        exact ⟨_, _, _, _, _, rfl, k3, kvs, hk, hD, by omega⟩
    · obtain ⟨y5, y6, y7, y8, y9, rfl, k2, kvs, hk, hD, hlen⟩ := h
      exact ⟨_, rfl, q p kvs H' (k1.trans k2) nHp hk hD (by omega)⟩
end
end HK

set_option Elab.async false
set_option linter.all false
set_option maxRecDepth 100000
set_option maxHeartbeats 4000000
namespace HK
open PySem PySem.Spec PyProof.Rows L2 GAl GxR
open Evl (pss_cut)
abbrev sLaw : Stmt := topS 31
abbrev N_scLaw : List Str := ["script", "tape", "k", "net", "root", "there", "every", "other", "rows", "turn", "some", "found", "place", "fewer", "one"]
theorem scLaw : FnScope N_scLaw ["script"] (defScope sLaw) := ⟨rfl, rfl, rfl, by decide +kernel, rfl, by decide +kernel, by decide +kernel⟩
/-! ### what can be reached -/
theorem rlx_some {src g : IF} {r : R4} {v : Int} : (rlx src g r v).isSome = true ↔ (g v).isSome = true ∨ (r.e = v ∧ (src r.s).isSome = true) := by
  unfold rlx
  cases e : src r.s with
  | none => simp
  | some a =>
    cases e2 : g r.e with
    | none =>
      show (HK.put g r.e (a + r.l) v).isSome = true ↔ _
      unfold HK.put
      by_cases hv : v = r.e
      · simp [hv]
      · rw [if_neg hv]; simp [Ne.symm hv]
    | some b =>
      by_cases hb : a + r.l < b
      · simp only [hb, if_true]
        unfold HK.put
        by_cases hv : v = r.e
        · simp [hv]
        · rw [if_neg hv]; simp [Ne.symm hv]
      · simp only [hb, if_false]
        constructor
        · exact .inl
        · rintro (h | ⟨h, _⟩)
          · exact h
          · subst h; rw [e2]; rfl
theorem rnd_some {f : IF} : ∀ (l : List R4) (g : IF) (v : Int), (rnd (fun _ => f) l g v).isSome = true ↔ (g v).isSome = true ∨ ∃ r ∈ l, r.e = v ∧ (f r.s).isSome = true
  | [], g, v => by simp [rnd]
  | r :: l, g, v => by
    show (rnd (fun _ => f) l (rlx f g r) v).isSome = true ↔ _
    rw [rnd_some l, rlx_some]
    constructor
    · rintro ((h | h) | ⟨r', h1, h2⟩)
      · exact .inl h
      · exact .inr ⟨r, List.mem_cons_self, h⟩
      · exact .inr ⟨r', List.mem_cons_of_mem _ h1, h2⟩
    · rintro (h | ⟨r', h1, h2⟩)
      · exact .inl (.inl h)
      · rcases List.mem_cons.mp h1 with rfl | h1
        · exact .inl (.inr h2)
        · exact .inr ⟨r', h1, h2⟩
theorem iter_Rk {rs : List R4} {root : Int} : ∀ (k : Nat) (v : Int), (iter (fun f => rnd (fun _ => f) rs f) k (ini root) v).isSome = true ↔ Rk rs root k v
  | 0, v => by
    show (ini root v).isSome = true ↔ v = root
    unfold ini HK.put
    by_cases h : v = root <;> simp [h]
  | k + 1, v => by
    show (rnd (fun _ => _) rs _ v).isSome = true ↔ Rk rs root k v ∨ _
    rw [rnd_some, iter_Rk k v]
    constructor
    · rintro (h | ⟨r, h1, h2, h3⟩)
      · exact .inl h
      · exact .inr ⟨r, h1, h2, (iter_Rk k _).mp h3⟩
    · rintro (h | ⟨r, h1, h2, h3⟩)
      · exact .inl h
      · exact .inr ⟨r, h1, h2, (iter_Rk k _).mpr h3⟩
theorem Rk_due {n root : Int} {rs : List R4} (hok : ∀ r ∈ rs, RoadOk n r) (h0 : 0 ≤ root) (h1 : root < n) (v : Int) : Rk rs root n.toNat v ↔ (due n rs root v).isSome = true := by
  rw [← due_by hok h0 h1]
  exact (iter_Rk _ _).symm
theorem Rk_root {rs : List R4} {root : Int} : ∀ k, Rk rs root k root
  | 0 => rfl
  | k + 1 => .inl (Rk_root k)
theorem closed_reached {n root : Int} {rs : List R4} {ns : List Int} (hok : ∀ r ∈ rs, RoadOk n r) (h0 : 0 ≤ root) (h1 : root < n) (hA : AreP n ns) (hR : ∀ v, v ∈ ns ↔ Rk rs root n.toNat v) : ClosedP n rs root ns := by
  refine ⟨hA, (hR root).mpr (Rk_root _), fun r hr hs => ?_⟩
  rw [hR, Rk_due hok h0 h1] at hs ⊢
  obtain ⟨x, ex⟩ := Option.isSome_iff_exists.mp hs
  obtain ⟨b, eb, _⟩ := due_closed (root := root) hok h0 h1 r hr x ex
  rw [eb]; rfl
theorem closed_has {n root : Int} {rs : List R4} {ms : List Int} (h : ClosedP n rs root ms) : ∀ k v, Rk rs root k v → v ∈ ms
  | 0, v, e => by rw [show v = root from e]; exact h.2.1
  | k + 1, v, e => by
    rcases e with e | ⟨r, hr, rfl, e⟩
    · exact closed_has h k v e
    · exact h.2.2 r hr (closed_has h k _ e)
theorem shapedT (ns : List Int) : SeqAt.shaped (.tuple (ns.map PyData.int)) = true := by
  have := PySem.W.shaped_ints ns
  exact this
theorem rgV_ints (n : Int) : ∃ l : List Int, rgV 0 n = l.map V.int ∧ l.length = n.toNat := by
  refine ⟨(List.range n.toNat).map fun (i : Nat) => (i : Int), ?_, by rw [List.length_map, List.length_range]⟩
  unfold rgV
  rw [List.map_map, Int.sub_zero]
  exact List.map_congr_left fun i _ => by show V.int (0 + (i : Int)) = V.int i; rw [Int.zero_add]
section
variable {P : Program} {w : World} {K : PySem.W.Frag} {mg : Str → Option Value} {base : Heap}
def spLaw (K : PySem.W.Frag) (Pn Pr Pa Pc : Addr) : Sp := fun vs H Q _ => ∃ (a : Addr) (ns : List Int), vs = [.ref a] ∧ SqL K H a (ns.map V.int) ∧ TabG H Pn ∧ TabG H Pr ∧ TabG H Pa ∧ TabG H Pc ∧ ∀ H', Q (.bl true) H'
theorem ok_law {f : Addr} {fd : FuncData} {f_net f_digit f_reached f_bent f_isclosed f_due f_early : Addr} {fd_net fd_digit fd_reached fd_bent fd_isclosed fd_due fd_early : FuncData} {Pn Pr Pa Pc : Addr} (F : Fun K "law" "law" sLaw f fd)
    (k_net : PySem.W.keepIn K (.ref f_net) = true) (b_net : Binds K fd_net ["tape", "most"] []) (g_net : mg "_law_b_net" = some (.ref f_net)) (G_net : FnOk P w K mg base CX0 3 f_net fd_net ["tape", "most"] (spNet K))
    (k_digit : PySem.W.keepIn K (.ref f_digit) = true) (b_digit : Binds K fd_digit ["tape", "many"] []) (g_digit : mg "_law_b_digit" = some (.ref f_digit)) (G_digit : FnOk P w K mg base CX0 2 f_digit fd_digit ["tape", "many"] (spDigit K))
    (k_reached : PySem.W.keepIn K (.ref f_reached) = true) (b_reached : Binds K fd_reached ["net", "root"] []) (g_reached : mg "_law_b_reached" = some (.ref f_reached)) (G_reached : FnOk P w K mg base CX0 1 f_reached fd_reached ["net", "root"] (spReached K))
    (k_bent : PySem.W.keepIn K (.ref f_bent) = true) (b_bent : Binds K fd_bent ["tape", "net", "some"] []) (g_bent : mg "_law_b_bent" = some (.ref f_bent)) (G_bent : FnOk P w K mg base CX0 3 f_bent fd_bent ["tape", "net", "some"] (spBentR K))
    (k_isclosed : PySem.W.keepIn K (.ref f_isclosed) = true) (b_isclosed : Binds K fd_isclosed ["net", "root", "places"] []) (g_isclosed : mg "is_closed" = some (.ref f_isclosed)) (G_isclosed : FnOk P w K mg base CX0 7 f_isclosed fd_isclosed ["net", "root", "places"] (spIsClosed K Pn Pr Pa Pc))
    (k_due : PySem.W.keepIn K (.ref f_due) = true) (b_due : Binds K fd_due ["net", "root", "some"] []) (g_due : mg "_law_b_due" = some (.ref f_due)) (G_due : FnOk P w K mg base CX0 1 f_due fd_due ["net", "root", "some"] (spDueR K))
    (k_early : PySem.W.keepIn K (.ref f_early) = true) (b_early : Binds K fd_early ["net", "root"] []) (g_early : mg "earliest" = some (.ref f_early)) (G_early : FnOk P w K mg base CX0 7 f_early fd_early ["net", "root"] (spEarly K Pn Pr))
    (m_len : mg "len" = none) (m_range : mg "range" = none) (m_tuple : mg "tuple" = none) (m_sorted : mg "sorted" = none) (m_set : mg "set" = none) (m_isinstance : mg "isinstance" = none) (m_bool : mg "bool" = none) : FnOk P w K mg base CX0 8 f fd ["script"] (spLaw K Pn Pr Pa Pc) := by
  refine F.ok scLaw (fun vs H Q E h => ?_) (fun cdv A outer s H vs Q E hr h => ?_)
  · obtain ⟨a, ns, rfl, _⟩ := h
    rfl
  · obtain ⟨a, ns, rfl, hS, t1, t2, t3, t4, q⟩ := h
    have hu := hu_of hr
    refine ⟨_, (pss_cons (ps_set (i := 1) scLaw.nd rfl (.inl rfl) (pe_lst (pa_cons (pv 0) (pa_cons pe_int (pa_cons pe_int pa_nil)))))
      (pss_cons (ps_for PassesOwn.never rfl (pi_range1 (by rfl) m_range (pa_cons pe_int pa_nil)) (pg_name (i := 2) scLaw.nd rfl (.inl rfl))
      (pss_cut (ps_if (PW.pt (pw_and (pt_cmpR op_gt (pv 2) pe_int (nomark _)) (pw_and1 (pt_cmpR op_ge (pe_ix ix_list (pv 1) pe_int (fun _ _ => rfl)) (pe_callB call_len_seq (by rfl) m_len PySem.boot_len (pa_cons (pv 0) pa_nil)) (nomark _))))) (pss_one ps_break) pss_nil)
      (pss_cons (ps_set (i := 3) scLaw.nd rfl (.inl rfl) (pe_call G_net (hr.mono (by decide)) (by rfl) g_net k_net b_net .nil pass0 (pa_cons (pv 1) (pa_cons pe_int pa_nil))))
      (pss_cons (ps_set (i := 4) scLaw.nd rfl (.inl rfl) (pe_call G_digit (hr.mono (by decide)) (by rfl) g_digit k_digit b_digit .nil pass0 (pa_cons (pv 1) (pa_cons (pe_ix ix_tup (pv 3) pe_int (fun _ _ => rfl)) pa_nil))))
      (pss_cons (ps_set (i := 5) scLaw.nd rfl (.inl rfl) (pe_call G_reached (hr.mono (by decide)) (by rfl) g_reached k_reached b_reached .nil pass0 (pa_cons (pv 3) (pa_cons (pv 4) pa_nil))))
      (pss_cons (ps_set (i := 6) scLaw.nd rfl (.inl rfl) (pe_tupRg rfl (by rfl) m_tuple (prg_1 (by rfl) m_range (pe_ix ix_tup (pv 3) pe_int (fun _ _ => rfl)))))
      (pss_cons (ps_set (i := 7) scLaw.nd rfl (.inl rfl) (pe_call G_reached (hr.mono (by decide)) (by rfl) g_reached k_reached b_reached .nil pass0 (pa_cons (pv 3) (pa_cons (pe_call G_digit (hr.mono (by decide)) (by rfl) g_digit k_digit b_digit .nil pass0 (pa_cons (pv 1) (pa_cons (pe_ix ix_tup (pv 3) pe_int (fun _ _ => rfl)) pa_nil))) pa_nil))))
      (pss_cons (ps_set (i := 8) scLaw.nd rfl (.inl rfl) (pe_lst (pa_cons (pv 5) (pa_cons (pv 6) (pa_cons (pe_tup pa_nil) (pa_cons (pe_tup (pa_cons (pv 4) pa_nil)) (pa_cons (pe_callTy HkL.call_tupR (by rfl) m_tuple (by decide +kernel) (pa_cons (pe_callB (cr_sortedSet rfl) (by rfl) m_sorted boot_sorted (pa_cons (pe_callTy (HkL.cr_setT rfl) (by rfl) m_set (by decide +kernel) (pa_cons (pe_op op_catA (pv 5) (pv 7)) pa_nil)) pa_nil)) pa_nil)) pa_nil)))))))
      (pss_cut (ps_for PassesOwn.never rfl (pi_range1 (by rfl) m_range (pa_cons pe_int pa_nil)) (pg_name (i := 9) scLaw.nd rfl (.inl rfl))
      (pss_one (ps_expr (pe_bm PySem.F.plainAttrs_list PySem.F.slot_list_append PySem.F.type_list_append mt_append (pv 8) (pa_cons (pe_call G_bent (hr.mono (by decide)) (by rfl) g_bent k_bent b_bent .nil pass0 (pa_cons (pv 1) (pa_cons (pv 3) (pa_cons (pe_ix ix_list (pe_lst (pa_cons (pv 5) (pa_cons (pv 6) pa_nil))) (pe_op op_mod (pv 9) pe_int) (fun _ _ => rfl)) pa_nil)))) pa_nil)))))
      (pss_cut (ps_for PassesOwn.never rfl (pi_list (pv 8)) (pg_name (i := 10) scLaw.nd rfl (.inl rfl))
      (pss_cons (ps_set (i := 11) scLaw.nd rfl (.inl rfl) (pe_call G_isclosed (hr.mono (by decide)) (by rfl) g_isclosed k_isclosed b_isclosed .nil pass0 (pa_cons (pv 3) (pa_cons (pv 4) (pa_cons (pv 10) pa_nil)))))
      (pss_one (ps_if (PW.pt (pw_or (pt_not (pt_val (pe_callB call_isi (by rfl) m_isinstance boot_isinstance (pa_cons (pv 11) (pa_cons (pe_bltn (v := .ty "bool") (by rfl) m_bool (by decide +kernel) rfl) pa_nil))))) (pw_or1 (pt_cmpR op_ne (pv 11) (pe_call G_due (hr.mono (by decide)) (by rfl) g_due k_due b_due .nil pass0 (pa_cons (pv 3) (pa_cons (pv 4) (pa_cons (pv 10) pa_nil)))) (nomark _))))) (pss_one (ps_ret pe_bl)) pss_nil))))
      (pss_cut (ps_if (PW.pt (pw_or (pt_cmpR (op_neD hr.units) (pe_callTy HkL.call_tupR (by rfl) m_tuple (by decide +kernel) (pa_cons (pe_callB (call_sortedDI rfl) (by rfl) m_sorted boot_sorted (pa_cons (pe_call G_early (hr.mono (by decide)) (by rfl) g_early k_early b_early .nil pass0 (pa_cons (pv 3) (pa_cons (pv 4) pa_nil))) pa_nil)) pa_nil)) (pv 5) (nomark _)) (pw_or1 (pt_cmpR op_notBl (pe_call G_isclosed (hr.mono (by decide)) (by rfl) g_isclosed k_isclosed b_isclosed .nil pass0 (pa_cons (pv 3) (pa_cons (pv 4) (pa_cons (pv 5) pa_nil)))) pe_bl (nomark _))))) (pss_one (ps_ret pe_bl)) pss_nil)
      (pss_one (ps_for PassesOwn.never rfl (pi_tup (pv 5)) (pg_name (i := 12) scLaw.nd rfl (.inr rfl))
      (pss_cons (ps_set (i := 13) scLaw.nd rfl (.inl rfl) (pe_callTy HkL.call_tupR (by rfl) m_tuple (by decide +kernel) (pa_cons (pe_lc (own := [("one", 14)]) (g := (gName 14)) (tt := (tTest (tOp rNe (tVar 14) (tVar 12)))) (te := (tVar 14)) rfl scLaw.nd (pi_tup (pv 5)) (blkOk_by (N := N_scLaw) (sc := defScope sLaw) (by decide +kernel)) (fun _ _ _ _ _ => (pg_name (i := 14) scLaw.nd rfl (.inl rfl))) (fun _ _ _ _ _ => (pts_one (pt_cmpR op_ne (pv 14) (pv 12) (nomark _)))) (fun _ _ _ _ _ => (pv 14))) pa_nil)))
      (pss_one (ps_if (PW.pt (pw_and (pt_cmpR op_ne (pv 12) (pv 4) (nomark _)) (pw_and1 (pt_cmpR op_notBl (pe_call G_isclosed (hr.mono (by decide)) (by rfl) g_isclosed k_isclosed b_isclosed .nil pass0 (pa_cons (pv 3) (pa_cons (pv 4) (pa_cons (pv 13) pa_nil)))) pe_bl (nomark _))))) (pss_one (ps_ret pe_bl)) pss_nil))))))))))))))))
      (pss_one (ps_ret pe_bl)))), ?_⟩
    -- tape
    refine ⟨.ref a, rfl, by show 3 ≤ sizeLine; decide, fun t hnt => ?_⟩
    have k1 : K0 H (upd H t (.lst [.ref a, .int 0, .int 0])) := K0.new hnt
    have tb0 : TbL H [Pn, Pr, Pa, Pc] := fun P hP => by
      simp only [List.mem_cons, List.not_mem_nil, or_false] at hP
      rcases hP with rfl | rfl | rfl | rfl
      · exact t1
      · exact t2
      · exact t3
      · exact t4
    have tb1 := tb0.k0 k1
    generalize hH1 : upd H t (.lst [.ref a, .int 0, .int 0]) = H1 at k1 tb1
    have htp : Tape K H1 t a ns := by
      rw [← hH1]
      exact ⟨⟨0, 0, upd_same, by omega, by omega⟩, Scr.of hS hnt⟩
    refine ⟨4, rfl, by decide, by decide, for_range (lo := 0) (n := 4) (fun i σ' H' => ∃ y2 y3 y4 y5 y6 y7 y8 y9 y10 y11 y12 y13 y14, σ' = [some (.ref a), some (.ref t), y2, y3, y4, y5, y6, y7, y8, y9, y10, y11, y12, y13, y14] ∧ Kt t H1 H' ∧ Tape K H' t a ns)
        ⟨none, none, none, none, none, none, none, none, none, none, none, none, none, rfl, Kt.refl _ _, htp⟩ (fun i σ' H' hi h => ?_) (fun σ' H' h => q _)⟩
    obtain ⟨y2, y3, y4, y5, y6, y7, y8, y9, y10, y11, y12, y13, y14, rfl, k, htp'⟩ := h
    refine ⟨fun σ' H' => σ' = [some (.ref a), some (.ref t), some (.int (0 + (i : Int))), y3, y4, y5, y6, y7, y8, y9, y10, y11, y12, y13, y14] ∧ Kt t H1 H' ∧ Tape K H' t a ns, ?_, ?_⟩
    · refine ⟨_, rfl, _, 1, rfl, rfl, _, rfl, ite2 (fun e => ?_) (fun e => iteF ⟨rfl, k, htp'⟩)⟩
      have htp'' := htp'
      obtain ⟨⟨p, v, et, _⟩, hscr⟩ := htp'
      refine ⟨.ref t, rfl, t, _, 1, .int p, rfl, rfl, .inl (.inl et), atI_nat (j := 1) rfl, .ref a, rfl, a, _, rfl, .inl hscr.sq, p, _, rfl, rfl, _, rfl, ite2 (fun e2 => ?_) (fun e2 => ⟨rfl, k, htp''⟩)⟩
      exact q _
    rintro σ' H2 ⟨rfl, k2, tp2⟩
    -- net
    refine ⟨.ref t, rfl, t, a, 12, ns, rfl, tp2, by omega, by omega, fun na n rs H3 kt3 tp3 hN hle G hlen => ?_⟩
    have n1 := G.n1
    have n2 := G.n2
    have hN' := hN
    obtain ⟨r, xs, o, h1, h2, hc, hd, h3⟩ := hN'
    -- root
    refine ⟨.ref t, rfl, _, rfl, na, _, 0, .int n, rfl, rfl, h1, atI_nat (j := 0) rfl, t, a, n, ns, rfl, tp3, by omega, by omega, fun root H4 r0 r1 k4 tp4 => ?_⟩
    have hN4 := hN.kt k4
    -- there
    refine ⟨_, rfl, _, rfl, na, n, rs, root, rfl, hN4, G, hlen, r0, r1, fun pt th H5 k5 npt hpt hA hR => ?_⟩
    have hAl := hA.len
    have s5 : Sf K H4 t a ns H5 := (⟨Kt.refl _ _, tp4⟩ : Sf K H4 t a ns H4).k0 k5
    have h1' : SqT K H4 na [.int n, .ref r] := k4.sqT h1
    -- every
    refine ⟨_, rfl, na, _, 0, .int n, rfl, rfl, k5.sqT h1', atI_nat (j := 0) rfl, n, rfl, RgOk.of_le (by omega) (by omega) (by omega) (by omega), fun pe npe => ?_⟩
    obtain ⟨ev, eev, evl⟩ := rgV_ints n
    have k6 : K0 H5 (upd H5 pe (.tup (rgV 0 n))) := K0.new npe
    have hpe : SqT K (upd H5 pe (.tup (rgV 0 n))) pe (ev.map V.int) := by rw [eev]; exact .inl (.inl upd_same)
    generalize upd H5 pe (.tup (rgV 0 n)) = H6 at k6 hpe
    have s6 := s5.k0 k6
    -- other
    refine ⟨_, rfl, _, rfl, _, rfl, na, _, 0, .int n, rfl, rfl, s6.kt.sqT h1', atI_nat (j := 0) rfl, t, a, n, ns, rfl, s6.tp, by omega, by omega, fun ro H7 o0 o1 k7 tp7 => ?_⟩
    have s7 := s6.go k7 tp7
    refine ⟨na, n, rs, ro, rfl, hN4.kt s7.kt, G, hlen, o0, o1, fun po ot H8 k8 npo hpo hA2 hR2 => ?_⟩
    have s8 := s7.k0 k8
    have hA2l := hA2.len
    have hpt8 : SqT K H8 pt (th.map V.int) := (k6.kt.trans (k7.trans k8.kt)).sqT (.inl (.inl hpt))
    have hpe8 : SqT K H8 pe (ev.map V.int) := (k7.trans k8.kt).sqT hpe
    have hpo8 : SqT K H8 po (ot.map V.int) := .inl (.inl hpo)
    -- rows
    refine ⟨_, rfl, _, rfl, Nat.zero_le _, fun q0 nq0 => ?_⟩
    have k9 : K0 H8 (upd H8 q0 (.tup [])) := K0.new nq0
    have hq0 : SqT K (upd H8 q0 (.tup [])) q0 (([] : List Int).map V.int) := .inl (.inl upd_same)
    generalize upd H8 q0 (.tup []) = H9 at k9 hq0
    refine ⟨_, rfl, by show 1 ≤ sizeLine; decide, fun q1 nq1 => ?_⟩
    have k10 : K0 H9 (upd H9 q1 (.tup [.int root])) := K0.new nq1
    have hq1 : SqT K (upd H9 q1 (.tup [.int root])) q1 (([root] : List Int).map V.int) := .inl (.inl upd_same)
    generalize upd H9 q1 (.tup [.int root]) = H10 at k10 hq1
    have k810 := k9.trans k10
    refine ⟨_, rfl, _, rfl, catA (k810.sqT hpt8) (k810.sqT hpo8) (by omega) fun q2 H11 k11 hq2 => ?_⟩
    have k811 := k810.trans k11
    have h24 : (th ++ ot).length ≤ 24 := by rw [List.length_append]; omega
    refine ⟨q2, th ++ ot, rfl, hq2, by omega, fun sp c nsp hcn => ?_⟩
    have k12 := k811.mut (o := SetO w sp (fun j => decide (j ∈ th ++ ot)) c) (k811.dom sp nsp)
    refine ⟨sp, _, c, rfl, upd_same, by omega, fun ms q3 hrise hmem hmsl nq3 => ?_⟩
    have k13 := k12.mut (o := .lst (ms.map V.int)) (k12.dom q3 nq3)
    refine ⟨q3, _, rfl, .inl ⟨.inl (.inl upd_same), fun q4 nq4 => ?_⟩⟩
    have k14 := k13.mut (o := .tup (ms.map V.int)) (k13.dom q4 nq4)
    refine ⟨by show 5 ≤ sizeLine; decide, fun lr nlr => ?_⟩
    have k15 := k14.mut (o := .lst [.ref pt, .ref pe, .ref q0, .ref q1, .ref q4]) (k14.dom lr nlr)
    have nlr8 : H8 lr = none := k14.dom lr nlr
    have hq4 : SqT K (upd (upd (upd (upd H11 sp (SetO w sp (fun j => decide (j ∈ th ++ ot)) c)) q3 (.lst (ms.map V.int))) q4 (.tup (ms.map V.int))) lr (.lst [.ref pt, .ref pe, .ref q0, .ref q1, .ref q4])) q4 (ms.map V.int) := (K0.new nlr).sqT (.inl (.inl upd_same))
    have k1115 : K0 H11 (upd (upd (upd (upd H11 sp (SetO w sp (fun j => decide (j ∈ th ++ ot)) c)) q3 (.lst (ms.map V.int))) q4 (.tup (ms.map V.int))) lr (.lst [.ref pt, .ref pe, .ref q0, .ref q1, .ref q4])) := (((K0.new nsp).trans (K0.new nq3)).trans (K0.new nq4)).trans (K0.new nlr)
    let Pd : List Int → Prop := fun l => l.length ≤ 30
    have rows0 : RowsP K (upd (upd (upd (upd H11 sp (SetO w sp (fun j => decide (j ∈ th ++ ot)) c)) q3 (.lst (ms.map V.int))) q4 (.tup (ms.map V.int))) lr (.lst [.ref pt, .ref pe, .ref q0, .ref q1, .ref q4])) Pd [.ref pt, .ref pe, .ref q0, .ref q1, .ref q4] :=
      .cons (k15.sqT hpt8) (by show _ ≤ 30; omega) (.cons (k15.sqT hpe8) (by show _ ≤ 30; omega) (.cons (k1115.sqT (k11.sqT (k10.sqT hq0))) (by show 0 ≤ 30; omega) (.cons (k1115.sqT (k11.sqT hq1)) (by show 1 ≤ 30; omega) (.cons hq4 (by show _ ≤ 30; omega) .nil))))
    have hlrt : lr ≠ t := s8.tp.ne nlr8
    have tp8 := s8.tp
    refine ⟨fun σ' H' => ∃ y9, σ' = [some (.ref a), some (.ref t), some (.int (0 + (i : Int))), some (.ref na), some (.int root), some (.ref pt), some (.ref pe), some (.ref po), some (.ref lr), y9, y10, y11, y12, y13, y14] ∧ Sf K H8 t a ns H' ∧ ∃ xs, H' lr = some (.lst xs) ∧ RowsP K H' Pd xs, ?_, ?_⟩
    · refine ⟨6, rfl, by decide, by decide, for_range (lo := 0) (n := 6) (fun j σ' H' => ∃ y9, σ' = [some (.ref a), some (.ref t), some (.int (0 + (i : Int))), some (.ref na), some (.int root), some (.ref pt), some (.ref pe), some (.ref po), some (.ref lr), y9, y10, y11, y12, y13, y14] ∧ Sf K H8 t a ns H' ∧ ∃ xs, H' lr = some (.lst xs) ∧ xs.length ≤ 5 + j ∧ RowsP K H' Pd xs)
        ⟨_, rfl, (⟨Kt.refl _ _, tp8⟩ : Sf K H8 t a ns H8).k0 k15, _, upd_same, Nat.le_refl _, rows0⟩ (fun j σ' H' hj h => ?_) (fun σ' H' h => ?_)⟩
      · obtain ⟨y9, rfl, s', xs, hlr', hxl, hrows⟩ := h
        refine ⟨_, rfl, .inl ⟨rfl, _, .inl (.inl hlr')⟩, _, rfl, _, rfl, _, rfl, _, rfl, by show 2 ≤ sizeLine; decide, fun lb nlb => ?_⟩
        have kb : K0 H' (upd H' lb (.lst [.ref pt, .ref pe])) := K0.new nlb
        have hlb : upd H' lb (.lst [.ref pt, .ref pe]) lb = some (.lst [.ref pt, .ref pe]) := upd_same
        generalize upd H' lb (.lst [.ref pt, .ref pe]) = Hb at kb hlb
        have sb := s'.k0 kb
        obtain ⟨pp, l, ep, hpp, hpl⟩ : ∃ (pp : Addr) (l : List Int), atI [V.ref pt, V.ref pe] ((0 + (j : Int)) % 2) = some (.ref pp) ∧ SqT K Hb pp (l.map V.int) ∧ l.length ≤ 12 := by
          have hm : (0 + (j : Int)) % 2 = 0 ∨ (0 + (j : Int)) % 2 = 1 := by omega
          rcases hm with e | e
          · exact ⟨pt, th, by rw [e]; exact atI_nat (j := 0) rfl, sb.kt.sqT hpt8, by omega⟩
          · exact ⟨pe, ev, by rw [e]; exact atI_nat (j := 1) rfl, sb.kt.sqT hpe8, by omega⟩
        refine ⟨_, rfl, _, 2, rfl, rfl, (by show (0 : Int) < 2; decide), lb, _, _, _, rfl, rfl, .inl (.inl hlb), ep, ?_⟩
        refine ⟨t, a, na, n, rs, pp, l, ns, rfl, sb.tp, (hN4.kt s8.kt).kt sb.kt, n1, n2, hpp, hpl, fun qn m Hc sc hqn hm => ?_⟩
        have hlrb := kb.oth lr _ hlr' (fun _ z => by cases z)
        have hlrc := sc.kt.oth lr _ hlrb hlrt (fun _ z => by cases z)
        refine ⟨lr, _, _, rfl, rfl, hlrc, Nat.lt_of_le_of_lt (m := 5000) (by omega) (by decide), ?_⟩
        have sc' := sb.go sc.kt sc.tp
        refine ⟨_, rfl, sc'.lst tp8 nlr8, xs ++ [.ref qn], upd_same, by rw [List.length_append, List.length_singleton]; omega, ?_⟩
        refine RowsP.lst (ys := xs) ?_ hlrc
        exact ((hrows.k0 kb).kt sc.kt).app (.cons hqn hm .nil)
      · obtain ⟨y9, rfl, s', xs, hlr', _, hrows⟩ := h
        exact ⟨_, rfl, s', xs, hlr', hrows⟩
    rintro σ' H20 ⟨y9, rfl, s20, xs, hlr, hrows⟩
    have hN20 := (hN4.kt s8.kt).kt s20.kt
    have k120 : Kt t H1 H20 := (((k2.trans (kt3.trans k4)).trans s8.kt)).trans s20.kt
    have tb20 := tb1.kt k120
    have hpt20 : SqT K H20 pt (th.map V.int) := s20.kt.sqT hpt8
    have tp20 := s20.tp
    -- for some in rows
    refine ⟨fun σ' H' => ∃ y10 y11, σ' = [some (.ref a), some (.ref t), some (.int (0 + (i : Int))), some (.ref na), some (.int root), some (.ref pt), some (.ref pe), some (.ref po), some (.ref lr), y9, y10, y11, y12, y13, y14] ∧ K0 H20 H', ?_, ?_⟩
    · refine ⟨_, rfl, lr, rfl, ⟨_, .inl (.inl hlr)⟩, for_list (K := K) (a := lr) (xs := xs) (fun j σ' H' => ∃ y10 y11, σ' = [some (.ref a), some (.ref t), some (.int (0 + (i : Int))), some (.ref na), some (.int root), some (.ref pt), some (.ref pe), some (.ref po), some (.ref lr), y9, y10, y11, y12, y13, y14] ∧ K0 H20 H')
        ⟨_, _, rfl, K0.refl _⟩ (fun j σ' H' _ h => ?_) (fun j x σ' H' hx h => ?_) (fun σ' H' h => ?_)⟩
      · obtain ⟨_, _, _, k'⟩ := h
        exact k'.sqL (.inl (.inl hlr))
      · obtain ⟨y10, y11, rfl, k21⟩ := h
        obtain ⟨qs, l, rfl, hqs, hl⟩ := hrows x (List.mem_of_getElem? hx)
        have hl : l.length ≤ 30 := hl
        refine ⟨_, rfl, _, rfl, _, rfl, na, n, rs, root, qs, l, rfl, hN20.k0 k21, G, hlen, r0, r1, k21.sqT hqs, by omega, tb20.k0 k21, fun H22 b k22 hb => ?_⟩
        have k2022 := k21.trans k22
        refine ⟨_, rfl, .bl b, .ty "bool", .type "bool", _, true, rfl, .ty "bool", .base (.bl b), kit_ty (tys_bool (T := "bool") (by decide)), _, rfl, iteF ?_⟩
        refine ⟨_, rfl, _, rfl, _, rfl, _, rfl, na, n, rs, root, qs, l, rfl, hN20.k0 k2022, k2022.sqT hqs, by omega, fun H23 b' k23 hb' => ?_⟩
        have ebb : b = b' := by rw [Bool.eq_iff_iff, hb, hb']
        subst ebb
        refine ⟨rfl, _, rfl, ?_⟩
        show if (!decide (V.bl b = V.bl b)) = true then _ else _
        rw [decide_eq_true rfl]
        exact iteF ⟨_, _, rfl, k2022.trans k23⟩
      · obtain ⟨y10, y11, rfl, k21⟩ := h
        exact ⟨_, _, rfl, k21⟩
    rintro σ' H21 ⟨y10, y11, rfl, k21⟩
    -- those that earliest tells
    have hcl : ClosedP n rs root th := closed_reached G.ok r0 r1 hA hR
    refine ⟨fun σ' H' => σ' = [some (.ref a), some (.ref t), some (.int (0 + (i : Int))), some (.ref na), some (.int root), some (.ref pt), some (.ref pe), some (.ref po), some (.ref lr), y9, y10, y11, y12, y13, y14] ∧ K0 H20 H', ?_, ?_⟩
    · refine ⟨_, rfl, _, rfl, na, n, rs, root, rfl, hN20.k0 k21, G, hlen, r0, r1, k21.tab _ (tb20 Pn (by simp)), k21.tab _ (tb20 Pr (by simp)), fun p kvs H22 k22 np hp hD hkl => ?_⟩
      obtain ⟨ks, eks, ksn, ksm⟩ := hD.ints
      have ID := due_inv (root := root) G.ok r0 r1
      have hk12 : kvs.length ≤ 12 := hD.small fun v x e => by
        have := ID.rng v x e
        omega
      have hks : ks.length = kvs.length := by
        have := congrArg List.length eks
        rw [List.length_map, List.length_map] at this
        exact this.symm
      refine ⟨p, kvs, ks, rfl, .inl hp, eks, by omega, fun ys q5 hperm hsort nq5 => ?_⟩
      have k2022 := k21.trans k22
      have k23 := k2022.mut (o := .lst (ys.map V.int)) (k2022.dom q5 nq5)
      refine ⟨q5, _, rfl, .inl ⟨.inl (.inl upd_same), fun q6 nq6 => ?_⟩⟩
      have k24 := k23.mut (o := .tup (ys.map V.int)) (k23.dom q6 nq6)
      have hys : ys = th := rise_eq (strict_of hperm hsort ksn) hA.2 fun v => by rw [hperm.mem_iff, ksm v, hR v, Rk_due G.ok r0 r1]
      refine ⟨_, rfl, .tuple (ys.map PyData.int), .tuple (th.map PyData.int), dpT (.inl (.inl upd_same)), dpT (k24.sqT hpt20), shapedT ys, shapedT th, _, rfl, ?_⟩
      rw [eqv_intsT, decide_eq_true hys]
      refine iteF ⟨_, rfl, _, rfl, _, rfl, na, n, rs, root, pt, th, rfl, hN20.k0 k24, G, hlen, r0, r1, k24.sqT hpt20, by omega, tb20.k0 k24, fun H25 b k25 hb => ?_⟩
      have hbt : b = true := hb.mpr hcl
      subst hbt
      exact ⟨true, true, rfl, rfl, _, rfl, iteF ⟨rfl, k24.trans k25⟩⟩
    rintro σ' H22 ⟨rfl, k22⟩
    refine ⟨_, rfl, pt, rfl, ⟨_, k22.sqT hpt20⟩, for_tup (xs := th.map V.int) (fun j σ' H' => ∃ y12 y13 y14, σ' = [some (.ref a), some (.ref t), some (.int (0 + (i : Int))), some (.ref na), some (.int root), some (.ref pt), some (.ref pe), some (.ref po), some (.ref lr), y9, y10, y11, y12, y13, y14] ∧ K0 H20 H')
      ⟨_, _, _, rfl, k22⟩ (fun j σ' H' hj h => ?_) (fun j x σ' H' hx h => ?_) (fun σ' H' h => ?_)⟩
    · obtain ⟨_, _, _, _, k23⟩ := h
      exact k23.sqT hpt20
    · obtain ⟨y12, y13, y14, rfl, k23⟩ := h
      obtain ⟨pl, rfl, hplm⟩ : ∃ v : Int, x = .int v ∧ v ∈ th := by
        rw [List.getElem?_map] at hx
        cases e : th[j]? with
        | none => rw [e] at hx; cases hx
        | some v => rw [e] at hx; cases hx; exact ⟨v, rfl, List.mem_of_getElem? e⟩
      refine ⟨_, rfl, pt, rfl, ⟨_, k23.sqT hpt20⟩, fun D nD => ?_⟩
      refine lc_tup (K := K) (a := pt) (xs := th.map V.int) (fun i' H2 => K0 H' H2 ∧ ∃ l : List Int, H2 D = some (.lst (l.map V.int)) ∧ l.length ≤ i' ∧ ∀ v ∈ l, v ≠ pl) ⟨K0.new nD, [], upd_same, Nat.le_refl _, fun v hv => (by cases hv)⟩ (fun i' H2 _ h => h.1.sqT (k23.sqT hpt20)) (fun i' x H2 hx h => ?_) (fun H2 h => ?_)
      · obtain ⟨k24, l, hl, hll, hne⟩ := h
        rw [List.getElem?_map] at hx
        cases ev' : th[i']? with
        | none => rw [ev'] at hx; cases hx
        | some v =>
        rw [ev'] at hx
        cases hx
        have hi' : i' < th.length := (List.getElem?_eq_some_iff.mp ev').1
        refine ⟨rfl, _, rfl, _, rfl, rfl, _, rfl, ?_⟩
        by_cases hv : v = pl
        · subst hv
          show if (!decide (V.int v = V.int v)) = true then _ else _
          rw [decide_eq_true rfl]
          exact iteF ⟨k24, l, hl, by omega, hne⟩
        · show if (!decide (V.int v = V.int pl)) = true then _ else _
          rw [decide_eq_false (fun z => hv (by cases z; rfl))]
          refine iteT ⟨_, rfl, _, hl, Nat.lt_of_le_of_lt (m := 5000) (by rw [List.length_map]; omega) (by decide), k24.mut nD, l ++ [v], by rw [List.map_append]; exact upd_same, by rw [List.length_append, List.length_singleton]; omega, fun u hu => ?_⟩
          rcases List.mem_append.mp hu with hu | hu
          · exact hne u hu
          · rw [List.mem_singleton.mp hu]; exact hv
      · obtain ⟨k24, l, hl, hll, hne⟩ := h
        rw [List.length_map] at hll
        refine ⟨D, _, rfl, .inl ⟨.inl (.inl hl), fun q7 nq7 => ?_⟩⟩
        have k2024 := k23.trans k24
        have k25 := k2024.mut (o := .tup (l.map V.int)) (k2024.dom q7 nq7)
        refine ⟨_, rfl, _, rfl, rfl, _, rfl, ?_⟩
        by_cases hr' : pl = root
        · subst hr'
          show if (!decide (V.int pl = V.int pl)) = true then _ else _
          rw [decide_eq_true rfl]
          exact iteF ⟨_, _, _, rfl, k25⟩
        · show if (!decide (V.int pl = V.int root)) = true then _ else _
          rw [decide_eq_false (fun z => hr' (by cases z; rfl))]
          refine iteT ⟨_, rfl, _, rfl, _, rfl, na, n, rs, root, q7, l, rfl, hN20.k0 k25, G, hlen, r0, r1, .inl (.inl upd_same), by omega, tb20.k0 k25, fun H26 b k26 hb => ?_⟩
          have hbf : b = false := by
            rw [Bool.eq_false_iff]
            intro z
            exact hne pl (closed_has (hb.mp z) _ _ ((hR pl).mp hplm)) rfl
          subst hbf
          exact ⟨false, false, rfl, rfl, _, rfl, iteF ⟨_, _, _, rfl, k25.trans k26⟩⟩
    · obtain ⟨y12, y13, y14, rfl, k23⟩ := h
      exact ⟨_, _, _, _, _, _, _, _, _, _, _, _, _, rfl, k120.trans k23.kt, tp20.k0 k23⟩
end
end HK

set_option Elab.async false
set_option linter.all false
set_option maxRecDepth 100000
set_option maxHeartbeats 4000000
namespace HK
open PySem PySem.Spec PyProof.Rows L2 GAl GxR
/-- every def's table of code objects is empty at the law's entry -/
def Tabs (q : Program) (mg : Str → Option Value) (h : Heap) : Prop := ∀ nm : Str, ((recsOf q).any fun e => e.name == nm) = true → ∃ a o fd c P, mg nm = some (.ref a) ∧ h.get? a = some o ∧ o.data = .func fd ∧ fd.code = .ref c ∧ PySem.W.CodeHd h c P ∧ h.get? P = some { cls := .none, data := .fields #[] }
theorem walk_tabs {l : PySem.W.OpenLaw} {n k : Nat} {q : Program} {loose : List Str} {XP : (Str → Option Value) → Heap → Prop} {YP : World → Heap → Prop} {d : DefRec} {K : Params → PySem.W.Frag} {CX : World → CXT} {x : Str}
    (hn : l.most = some n) (hn2 : n ≤ sizeLine) (hdf : d.params.defaults = []) (hr : Room k callerA) (hY : ∀ (w : World) (h : Heap), YP w h → (K w.params).In h)
    (F : ∀ (w : World) (mg : Str → Option Value) (fa : Addr) (h : Heap), YP w h → (K w.params).In h → h.Ns mainGlobals mg → mg d.name = some (.ref fa) → Tabs q mg h → LamX.LawAtS l w (K w.params) (CX w) k n x mg fa h)
    (hCX : ∀ (w : World) (H : Hp) (s : Shared) (e : Value) (s' : Shared), CX w [] H s (fun _ _ _ => False) e s' → False) :
    PySem.W.WalkO q loose XP YP l.row.toRowW d [] (fun f vs => PySem.call f vs) := by
  refine Att.attach_callB hn hdf fun w s₀ s₁ mg mb fa o pm cd doc a vs ns G Y ho hd hcd hmg hobj hints hlen hbits hg => ?_
  have KX := hY w _ Y
  have tabs : Tabs q mg s₁.heap := fun nm h => by
    obtain ⟨e, he, hnm⟩ := List.any_eq_true.mp h
    obtain ⟨a', o', fd', c', P', h1, h2, h3, h4, h5, h6⟩ := G.T.tab e he
    exact ⟨a', o', fd', c', P', by rw [← (beq_iff_eq.mp hnm)]; exact h1, h2, h3, h4, PySem.W.CodeHd.of h5 h6, h6.2⟩
  obtain ⟨fd, cs, sp, hT, nT, C, hb, hsp, hF⟩ := F w mg fa _ Y KX G.T.g hmg tabs
  exact LamX.law_callTs KX G.T.g G.T.b G.T.builtins G.T.nolimit hg hT nT C G.T.bmain hobj hints (Nat.le_trans hlen hn2) hr hF hb (fun H hH hS => hsp H a ns hlen hbits hH hS) fun H e s' => hCX w H s₁ e s'
/-- a def's table, by its code object in the written part -/
theorem tab_of {K : PySem.W.Frag} {q : Program} {mg : Str → Option Value} {h : Heap} {nm : Str} {f c P0 : Addr} {o : Obj} {fd : FuncData} {e : Value} {dd : Option Addr} {vs : Array Value} {sl : Array (Option Value)} (X : K.In h) (T : Tabs q mg h) (hq : ((recsOf q).any fun e => e.name == nm) = true)
    (g : mg nm = some (.ref f)) (l : K.lookup f = some o) (hd : o.data = .func fd) (hc : fd.code = .ref c) (lc : K.lookup c = some ⟨e, dd, .fields vs, sl⟩) (hv : vs[11]? = some (.ref P0)) :
    PySem.W.CodeHd h c P0 ∧ h.get? P0 = some { cls := .none, data := .fields #[] } := by
  obtain ⟨a', o', fd', c', P', h1, h2, h3, h4, h5, h6⟩ := T nm hq
  rw [g] at h1; cases h1
  rw [X _ _ l] at h2; cases h2
  rw [hd] at h3; cases h3
  rw [hc] at h4; cases h4
  have h5' := h5
  obtain ⟨oc, vc, _, _, _, _, _, _, _, e1, _, e3, e4, _⟩ := h5'
  rw [X _ _ lc] at e1; cases e1
  cases e3
  rw [hv] at e4; cases e4
  exact ⟨h5, h6⟩
theorem all_mk {l : PySem.W.OpenLaw} {q : Program} {w : World} {K : PySem.W.Frag} {h : Heap} {mg : Str → Option Value} {fa f1 f2 f3 f4 f5 f6 f7 f8 f9 f10 f11 f12 f13 f15 f16 f17 f18 f19 f20 cc10 P10 cc9 P9 cc15 P15 cc16 P16 : Addr} (X : K.In h) (G : h.Ns mainGlobals mg) (hfa : mg "law" = some (.ref fa)) (T : Tabs q mg h) (hl : l.most = some 63)
    {od1 an1 od2 an2 od3 an3 od4 an4 od5 an5 od6 an6 od7 an7 od8 an8 od9 an9 od10 an10 od11 an11 od12 an12 od13 an13 od15 an15 od16 an16 od17 an17 od18 an18 od19 an19 od20 an20 dd10 dd9 dd15 dd16 : Option Addr} {sl1 sl2 sl3 sl4 sl5 sl6 sl7 sl8 sl9 sl10 sl11 sl12 sl13 sl15 sl16 sl17 sl18 sl19 sl20 sc10 sc9 sc15 sc16 : Array (Option Value)} {oc1 kV1 dc1 pm1 cd1 ct1 oc2 kV2 dc2 pm2 cd2 ct2 oc3 kV3 dc3 pm3 cd3 ct3 oc4 kV4 dc4 pm4 cd4 ct4 oc5 kV5 dc5 pm5 cd5 ct5 oc6 kV6 dc6 pm6 cd6 ct6 oc7 kV7 dc7 pm7 cd7 ct7 oc8 kV8 dc8 pm8 cd8 ct8 oc9 kV9 dc9 pm9 ct9 oc10 kV10 dc10 pm10 ct10 oc11 kV11 dc11 pm11 cd11 ct11 oc12 kV12 dc12 pm12 cd12 ct12 oc13 kV13 dc13 pm13 cd13 ct13 oc15 kV15 dc15 pm15 ct15 oc16 kV16 dc16 pm16 ct16 oc17 kV17 dc17 pm17 cd17 ct17 oc18 kV18 dc18 pm18 cd18 ct18 oc19 kV19 dc19 pm19 cd19 ct19 oc20 kV20 dc20 pm20 cd20 ct20 e10 e9 e15 e16 : Value} {t1 t2 t3 t4 : Tok} {vs10 vs9 vs15 vs16 : Array Value}
    (a1 : PySem.W.nsIn K mainGlobals "_law_b_spread" = some (some (.ref f1))) (l1 : K.lookup f1 = some ⟨oc1, od1, .func (PySem.W.fnOf "_law_b_spread" "_law_b_spread" (defArgs sSpread) (defBody sSpread) (defScope sSpread) .none kV1 dc1 pm1 an1 cd1 ct1), sl1⟩) (c1 : PySem.W.codeIn K cd1 "_law_b_spread" = true) (k1 : PySem.W.keepIn K (.ref f1) = true)
    (a2 : PySem.W.nsIn K mainGlobals "_law_b_digit" = some (some (.ref f2))) (l2 : K.lookup f2 = some ⟨oc2, od2, .func (PySem.W.fnOf "_law_b_digit" "_law_b_digit" (defArgs sDigit) (defBody sDigit) (defScope sDigit) .none kV2 dc2 pm2 an2 cd2 ct2), sl2⟩) (c2 : PySem.W.codeIn K cd2 "_law_b_digit" = true) (k2 : PySem.W.keepIn K (.ref f2) = true)
    (a3 : PySem.W.nsIn K mainGlobals "_law_b_net" = some (some (.ref f3))) (l3 : K.lookup f3 = some ⟨oc3, od3, .func (PySem.W.fnOf "_law_b_net" "_law_b_net" (defArgs sNet) (defBody sNet) (defScope sNet) .none kV3 dc3 pm3 an3 cd3 ct3), sl3⟩) (c3 : PySem.W.codeIn K cd3 "_law_b_net" = true) (k3 : PySem.W.keepIn K (.ref f3) = true)
    (a4 : PySem.W.nsIn K mainGlobals "_law_b_reached" = some (some (.ref f4))) (l4 : K.lookup f4 = some ⟨oc4, od4, .func (PySem.W.fnOf "_law_b_reached" "_law_b_reached" (defArgs sReached) (defBody sReached) (defScope sReached) .none kV4 dc4 pm4 an4 cd4 ct4), sl4⟩) (c4 : PySem.W.codeIn K cd4 "_law_b_reached" = true) (k4 : PySem.W.keepIn K (.ref f4) = true)
    (a5 : PySem.W.nsIn K mainGlobals "_law_b_bent" = some (some (.ref f5))) (l5 : K.lookup f5 = some ⟨oc5, od5, .func (PySem.W.fnOf "_law_b_bent" "_law_b_bent" (defArgs sBentR) (defBody sBentR) (defScope sBentR) .none kV5 dc5 pm5 an5 cd5 ct5), sl5⟩) (c5 : PySem.W.codeIn K cd5 "_law_b_bent" = true) (k5 : PySem.W.keepIn K (.ref f5) = true)
    (a6 : PySem.W.nsIn K mainGlobals "is_whole" = some (some (.ref f6))) (l6 : K.lookup f6 = some ⟨oc6, od6, .func (PySem.W.fnOf "is_whole" "is_whole" (defArgs sWhole) (defBody sWhole) (defScope sWhole) .none kV6 dc6 pm6 an6 cd6 ct6), sl6⟩) (c6 : PySem.W.codeIn K cd6 "is_whole" = true) (k6 : PySem.W.keepIn K (.ref f6) = true)
    (a7 : PySem.W.nsIn K mainGlobals "is_within" = some (some (.ref f7))) (l7 : K.lookup f7 = some ⟨oc7, od7, .func (PySem.W.fnOf "is_within" "is_within" (defArgs sWithin) (defBody sWithin) (defScope sWithin) .none kV7 dc7 pm7 an7 cd7 ct7), sl7⟩) (c7 : PySem.W.codeIn K cd7 "is_within" = true) (k7 : PySem.W.keepIn K (.ref f7) = true)
    (a8 : PySem.W.nsIn K mainGlobals "is_road" = some (some (.ref f8))) (l8 : K.lookup f8 = some ⟨oc8, od8, .func (PySem.W.fnOf "is_road" "is_road" (defArgs sIsRoad) (defBody sIsRoad) (defScope sIsRoad) .none kV8 dc8 pm8 an8 cd8 ct8), sl8⟩) (c8 : PySem.W.codeIn K cd8 "is_road" = true) (k8 : PySem.W.keepIn K (.ref f8) = true)
    (a9 : PySem.W.nsIn K mainGlobals "rises" = some (some (.ref f9))) (l9 : K.lookup f9 = some ⟨oc9, od9, .func (PySem.W.fnOf "rises" "rises" (defArgs sRises) (defBody sRises) (defScope sRises) .none kV9 dc9 pm9 an9 (.ref cc9) ct9), sl9⟩) (c9 : PySem.W.codeIn K (.ref cc9) "rises" = true) (k9 : PySem.W.keepIn K (.ref f9) = true)
    (a10 : PySem.W.nsIn K mainGlobals "is_net" = some (some (.ref f10))) (l10 : K.lookup f10 = some ⟨oc10, od10, .func (PySem.W.fnOf "is_net" "is_net" (defArgs sIsNet) (defBody sIsNet) (defScope sIsNet) .none kV10 dc10 pm10 an10 (.ref cc10) ct10), sl10⟩) (c10 : PySem.W.codeIn K (.ref cc10) "is_net" = true) (k10 : PySem.W.keepIn K (.ref f10) = true)
    (a11 : PySem.W.nsIn K mainGlobals "need_net" = some (some (.ref f11))) (l11 : K.lookup f11 = some ⟨oc11, od11, .func (PySem.W.fnOf "need_net" "need_net" (defArgs sNeedNet) (defBody sNeedNet) (defScope sNeedNet) .none kV11 dc11 pm11 an11 cd11 ct11), sl11⟩) (c11 : PySem.W.codeIn K cd11 "need_net" = true) (k11 : PySem.W.keepIn K (.ref f11) = true)
    (a12 : PySem.W.nsIn K mainGlobals "is_place" = some (some (.ref f12))) (l12 : K.lookup f12 = some ⟨oc12, od12, .func (PySem.W.fnOf "is_place" "is_place" (defArgs sIsPlace) (defBody sIsPlace) (defScope sIsPlace) .none kV12 dc12 pm12 an12 cd12 ct12), sl12⟩) (c12 : PySem.W.codeIn K cd12 "is_place" = true) (k12 : PySem.W.keepIn K (.ref f12) = true)
    (a13 : PySem.W.nsIn K mainGlobals "need_place" = some (some (.ref f13))) (l13 : K.lookup f13 = some ⟨oc13, od13, .func (PySem.W.fnOf "need_place" "need_place" (defArgs sNeedPlace) (defBody sNeedPlace) (defScope sNeedPlace) .none kV13 dc13 pm13 an13 cd13 ct13), sl13⟩) (c13 : PySem.W.codeIn K cd13 "need_place" = true) (k13 : PySem.W.keepIn K (.ref f13) = true)
    (a15 : PySem.W.nsIn K mainGlobals "are_places" = some (some (.ref f15))) (l15 : K.lookup f15 = some ⟨oc15, od15, .func (PySem.W.fnOf "are_places" "are_places" (defArgs sAreP) (defBody sAreP) (defScope sAreP) .none kV15 dc15 pm15 an15 (.ref cc15) ct15), sl15⟩) (c15 : PySem.W.codeIn K (.ref cc15) "are_places" = true) (k15 : PySem.W.keepIn K (.ref f15) = true)
    (a16 : PySem.W.nsIn K mainGlobals "is_closed" = some (some (.ref f16))) (l16 : K.lookup f16 = some ⟨oc16, od16, .func (PySem.W.fnOf "is_closed" "is_closed" (defArgs sIsClosed) (defBody sIsClosed) (defScope sIsClosed) .none kV16 dc16 pm16 an16 (.ref cc16) ct16), sl16⟩) (c16 : PySem.W.codeIn K (.ref cc16) "is_closed" = true) (k16 : PySem.W.keepIn K (.ref f16) = true)
    (a17 : PySem.W.nsIn K mainGlobals "_law_b_due" = some (some (.ref f17))) (l17 : K.lookup f17 = some ⟨oc17, od17, .func (PySem.W.fnOf "_law_b_due" "_law_b_due" (defArgs sDueR) (defBody sDueR) (defScope sDueR) .none kV17 dc17 pm17 an17 cd17 ct17), sl17⟩) (c17 : PySem.W.codeIn K cd17 "_law_b_due" = true) (k17 : PySem.W.keepIn K (.ref f17) = true)
    (a18 : PySem.W.nsIn K mainGlobals "undercuts" = some (some (.ref f18))) (l18 : K.lookup f18 = some ⟨oc18, od18, .func (PySem.W.fnOf "undercuts" "undercuts" (defArgs sUnder) (defBody sUnder) (defScope sUnder) .none kV18 dc18 pm18 an18 cd18 ct18), sl18⟩) (c18 : PySem.W.codeIn K cd18 "undercuts" = true) (k18 : PySem.W.keepIn K (.ref f18) = true)
    (a19 : PySem.W.nsIn K mainGlobals "earliest" = some (some (.ref f19))) (l19 : K.lookup f19 = some ⟨oc19, od19, .func (PySem.W.fnOf "earliest" "earliest" (defArgs sEarly) (defBody sEarly) (defScope sEarly) .none kV19 dc19 pm19 an19 cd19 ct19), sl19⟩) (c19 : PySem.W.codeIn K cd19 "earliest" = true) (k19 : PySem.W.keepIn K (.ref f19) = true)
    (a20 : PySem.W.nsIn K mainGlobals "law" = some (some (.ref f20))) (l20 : K.lookup f20 = some ⟨oc20, od20, .func (PySem.W.fnOf "law" "law" (defArgs sLaw) (defBody sLaw) (defScope sLaw) .none kV20 dc20 pm20 an20 cd20 ct20), sl20⟩) (c20 : PySem.W.codeIn K cd20 "law" = true) (k20 : PySem.W.keepIn K (.ref f20) = true)
    (z0 : PySem.W.nsIn K mainGlobals "len" = some none)
    (z1 : PySem.W.nsIn K mainGlobals "range" = some none)
    (z2 : PySem.W.nsIn K mainGlobals "tuple" = some none)
    (z3 : PySem.W.nsIn K mainGlobals "sorted" = some none)
    (z4 : PySem.W.nsIn K mainGlobals "set" = some none)
    (z5 : PySem.W.nsIn K mainGlobals "isinstance" = some none)
    (z6 : PySem.W.nsIn K mainGlobals "int" = some none)
    (z7 : PySem.W.nsIn K mainGlobals "bool" = some none)
    (z8 : PySem.W.nsIn K mainGlobals "zip" = some none)
    (z9 : PySem.W.nsIn K mainGlobals "all" = some none)
    (z10 : PySem.W.nsIn K mainGlobals "list" = some none)
    (y0 : PySem.W.nsIn K mainGlobals "MOST_PRICE" = some (some (.int 1000 t1)))
    (y1 : PySem.W.nsIn K mainGlobals "LEAST_LATE" = some (some (.int 1 t2)))
    (y2 : PySem.W.nsIn K mainGlobals "MOST_LATE" = some (some (.int 1000 t3)))
    (y3 : PySem.W.nsIn K mainGlobals "MOST_PLACES" = some (some (.int 12 t4)))
    (w10 : K.lookup cc10 = some ⟨e10, dd10, .fields vs10, sc10⟩) (v10 : vs10[11]? = some (.ref P10)) (n10 : K.lookup P10 = none) (q10 : ((recsOf q).any fun e => e.name == ("is_net" : Str)) = true) (w9 : K.lookup cc9 = some ⟨e9, dd9, .fields vs9, sc9⟩) (v9 : vs9[11]? = some (.ref P9)) (n9 : K.lookup P9 = none) (q9 : ((recsOf q).any fun e => e.name == ("rises" : Str)) = true) (w15 : K.lookup cc15 = some ⟨e15, dd15, .fields vs15, sc15⟩) (v15 : vs15[11]? = some (.ref P15)) (n15 : K.lookup P15 = none) (q15 : ((recsOf q).any fun e => e.name == ("are_places" : Str)) = true) (w16 : K.lookup cc16 = some ⟨e16, dd16, .fields vs16, sc16⟩) (v16 : vs16[11]? = some (.ref P16)) (n16 : K.lookup P16 = none) (q16 : ((recsOf q).any fun e => e.name == ("is_closed" : Str)) = true) :
    LamX.LawAtS l w K CX0 8 63 "script" mg fa h := by
  have e := hfa.symm.trans (PySem.W.mg_of X G a20)
  cases e
  have F1 := fun_mk (st := sSpread) l1 c1 k1
  have F2 := fun_mk (st := sDigit) l2 c2 k2
  have F3 := fun_mk (st := sNet) l3 c3 k3
  have F4 := fun_mk (st := sReached) l4 c4 k4
  have F5 := fun_mk (st := sBentR) l5 c5 k5
  have F6 := fun_mk (st := sWhole) l6 c6 k6
  have F7 := fun_mk (st := sWithin) l7 c7 k7
  have F8 := fun_mk (st := sIsRoad) l8 c8 k8
  have F9 := func_mk (st := sRises) l9 c9 k9
  have F10 := func_mk (st := sIsNet) l10 c10 k10
  have F11 := fun_mk (st := sNeedNet) l11 c11 k11
  have F12 := fun_mk (st := sIsPlace) l12 c12 k12
  have F13 := fun_mk (st := sNeedPlace) l13 c13 k13
  have F15 := func_mk (st := sAreP) l15 c15 k15
  have F16 := func_mk (st := sIsClosed) l16 c16 k16
  have F17 := fun_mk (st := sDueR) l17 c17 k17
  have F18 := fun_mk (st := sUnder) l18 c18 k18
  have F19 := fun_mk (st := sEarly) l19 c19 k19
  have F20 := fun_mk (st := sLaw) l20 c20 k20
  have b1 := F1.binds (ps := ["cell", "place"]) fun _ _ _ _ _ _ us hl => match us, hl with | [_, _], _ => rfl
  have b2 := F2.binds (ps := ["tape", "many"]) fun _ _ _ _ _ _ us hl => match us, hl with | [_, _], _ => rfl
  have b3 := F3.binds (ps := ["tape", "most"]) fun _ _ _ _ _ _ us hl => match us, hl with | [_, _], _ => rfl
  have b4 := F4.binds (ps := ["net", "root"]) fun _ _ _ _ _ _ us hl => match us, hl with | [_, _], _ => rfl
  have b5 := F5.binds (ps := ["tape", "net", "some"]) fun _ _ _ _ _ _ us hl => match us, hl with | [_, _, _], _ => rfl
  have b6 := F6.binds (ps := ["thing"]) fun _ _ _ _ _ _ us hl => match us, hl with | [_], _ => rfl
  have b7 := F7.binds (ps := ["thing", "least", "greatest"]) fun _ _ _ _ _ _ us hl => match us, hl with | [_, _, _], _ => rfl
  have b8 := F8.binds (ps := ["many", "thing"]) fun _ _ _ _ _ _ us hl => match us, hl with | [_, _], _ => rfl
  have b9 := F9.toFun.binds (ps := ["row"]) fun _ _ _ _ _ _ us hl => match us, hl with | [_], _ => rfl
  have b10 := F10.toFun.binds (ps := ["thing"]) fun _ _ _ _ _ _ us hl => match us, hl with | [_], _ => rfl
  have b11 := F11.binds (ps := ["net"]) fun _ _ _ _ _ _ us hl => match us, hl with | [_], _ => rfl
  have b12 := F12.binds (ps := ["net", "thing"]) fun _ _ _ _ _ _ us hl => match us, hl with | [_, _], _ => rfl
  have b13 := F13.binds (ps := ["net", "place"]) fun _ _ _ _ _ _ us hl => match us, hl with | [_, _], _ => rfl
  have b15 := F15.toFun.binds (ps := ["net", "thing"]) fun _ _ _ _ _ _ us hl => match us, hl with | [_, _], _ => rfl
  have b16 := F16.toFun.binds (ps := ["net", "root", "places"]) fun _ _ _ _ _ _ us hl => match us, hl with | [_, _, _], _ => rfl
  have b17 := F17.binds (ps := ["net", "root", "some"]) fun _ _ _ _ _ _ us hl => match us, hl with | [_, _, _], _ => rfl
  have b18 := F18.binds (ps := ["numbers", "start", "end", "more"]) fun _ _ _ _ _ _ us hl => match us, hl with | [_, _, _, _], _ => rfl
  have b19 := F19.binds (ps := ["net", "root"]) fun _ _ _ _ _ _ us hl => match us, hl with | [_, _], _ => rfl
  have g1 := PySem.W.mg_of X G a1
  have g2 := PySem.W.mg_of X G a2
  have g3 := PySem.W.mg_of X G a3
  have g4 := PySem.W.mg_of X G a4
  have g5 := PySem.W.mg_of X G a5
  have g6 := PySem.W.mg_of X G a6
  have g7 := PySem.W.mg_of X G a7
  have g8 := PySem.W.mg_of X G a8
  have g9 := PySem.W.mg_of X G a9
  have g10 := PySem.W.mg_of X G a10
  have g11 := PySem.W.mg_of X G a11
  have g12 := PySem.W.mg_of X G a12
  have g13 := PySem.W.mg_of X G a13
  have g15 := PySem.W.mg_of X G a15
  have g16 := PySem.W.mg_of X G a16
  have g17 := PySem.W.mg_of X G a17
  have g18 := PySem.W.mg_of X G a18
  have g19 := PySem.W.mg_of X G a19
  have g20 := PySem.W.mg_of X G a20
  have m0 := PySem.W.mg_none_of X G z0
  have m1 := PySem.W.mg_none_of X G z1
  have m2 := PySem.W.mg_none_of X G z2
  have m3 := PySem.W.mg_none_of X G z3
  have m4 := PySem.W.mg_none_of X G z4
  have m5 := PySem.W.mg_none_of X G z5
  have m6 := PySem.W.mg_none_of X G z6
  have m7 := PySem.W.mg_none_of X G z7
  have m8 := PySem.W.mg_none_of X G z8
  have m9 := PySem.W.mg_none_of X G z9
  have m10 := PySem.W.mg_none_of X G z10
  have u0 := PySem.W.mg_of X G y0
  have u1 := PySem.W.mg_of X G y1
  have u2 := PySem.W.mg_of X G y2
  have u3 := PySem.W.mg_of X G y3
  obtain ⟨hc10, hp10⟩ := tab_of X T q10 g10 l10 rfl rfl w10 v10
  obtain ⟨hc9, hp9⟩ := tab_of X T q9 g9 l9 rfl rfl w9 v9
  obtain ⟨hc15, hp15⟩ := tab_of X T q15 g15 l15 rfl rfl w15 v15
  obtain ⟨hc16, hp16⟩ := tab_of X T q16 g16 l16 rfl rfl w16 v16
  refine ⟨PySem.W.fnOf "law" "law" (defArgs sLaw) (defBody sLaw) (defScope sLaw) .none kV20 dc20 pm20 an20 cd20 ct20, [(cc10, P10), (cc9, P9), (cc15, P15), (cc16, P16)], spLaw K P10 P9 P15 P16, fun p hp => ?_, fun p hp => ?_, fun p hp => ?_, fun s v => .of_eq rfl, fun H a ns _ _ hH hS => ?_, fun base hK hN hB => ?_⟩
  · simp only [List.mem_cons, List.not_mem_nil, or_false] at hp
    rcases hp with rfl | rfl | rfl | rfl
    · exact hp10
    · exact hp9
    · exact hp15
    · exact hp16
  · simp only [List.mem_cons, List.not_mem_nil, or_false] at hp
    rcases hp with rfl | rfl | rfl | rfl
    · exact n10
    · exact n9
    · exact n15
    · exact n16
  · simp only [List.mem_cons, List.not_mem_nil, or_false] at hp
    rcases hp with rfl | rfl | rfl | rfl
    · exact hc10
    · exact hc9
    · exact hc15
    · exact hc16
  · have t10 : H P10 = some (.tbl #[]) := hH (cc10, P10) (by simp)
    have t9 : H P9 = some (.tbl #[]) := hH (cc9, P9) (by simp)
    have t15 : H P15 = some (.tbl #[]) := hH (cc15, P15) (by simp)
    have t16 : H P16 = some (.tbl #[]) := hH (cc16, P16) (by simp)
    exact ⟨a, ns, rfl, hS, ⟨_, t10, trivial⟩, ⟨_, t9, trivial⟩, ⟨_, t15, trivial⟩, ⟨_, t16, trivial⟩, fun _ => rfl⟩
  · obtain ⟨x10a, x10b, x10c⟩ := hB (cc10, P10) (by simp)
    have B10 : GxR.TabB base mg cc10 P10 := ⟨x10a, x10b, x10c⟩
    obtain ⟨x9a, x9b, x9c⟩ := hB (cc9, P9) (by simp)
    have B9 : GxR.TabB base mg cc9 P9 := ⟨x9a, x9b, x9c⟩
    obtain ⟨x15a, x15b, x15c⟩ := hB (cc15, P15) (by simp)
    have B15 : GxR.TabB base mg cc15 P15 := ⟨x15a, x15b, x15c⟩
    obtain ⟨x16a, x16b, x16c⟩ := hB (cc16, P16) (by simp)
    have B16 : GxR.TabB base mg cc16 P16 := ⟨x16a, x16b, x16c⟩
    have O1 := ok_spread (P := l.prog) (w := w) (mg := mg) (base := base) F1
    have O2 := ok_digit (P := l.prog) (w := w) (mg := mg) (base := base) F2 k1 b1 g1 O1 m0
    have O3 := ok_net (P := l.prog) (w := w) (mg := mg) (base := base) F3 k2 b2 g2 O2 m1 m2
    have O4 := ok_reached (P := l.prog) (w := w) (mg := mg) (base := base) F4 m1 m3 m4 m2
    have O5 := ok_bentR (P := l.prog) (w := w) (mg := mg) (base := base) F5 k2 b2 g2 O2 m0 m3 m4 m2
    have O6 := ok_whole (P := l.prog) (w := w) (mg := mg) (base := base) F6 m5 m6 m7
    have O7 := ok_within (P := l.prog) (w := w) (mg := mg) (base := base) F7 F6 b6 g6 O6
    have O8 := ok_road (P := l.prog) (w := w) (mg := mg) (base := base) F8 F7 b7 g7 O7 m5 m2 m0 u0 u1 u2
    have O9 := ok_rises (P := l.prog) (w := w) (mg := mg) (base := base) F9 B9 m8 m9
    have O10 := ok_isnet (P := l.prog) (w := w) (mg := mg) (base := base) F10 B10 k7 b7 g7 O7 k8 b8 g8 O8 k9 b9 g9 O9 m5 m2 m0 m9 u3
    have O11 := ok_neednet (P := l.prog) (w := w) (mg := mg) (base := base) F11 k10 b10 g10 O10
    have O12 := ok_isplace (P := l.prog) (w := w) (mg := mg) (base := base) F12 k7 b7 g7 O7
    have O13 := ok_needplace (P := l.prog) (w := w) (mg := mg) (base := base) F13 k12 b12 g12 O12
    have O14 := ok_risesI (P := l.prog) (w := w) (mg := mg) (base := base) F9 B9 m8 m9
    have O15 := ok_arep (P := l.prog) (w := w) (mg := mg) (base := base) F15 B15 k12 b12 g12 O12 k9 b9 g9 O14 m5 m2 m9
    have O16 := ok_isclosed (P := l.prog) (w := w) (mg := mg) (base := base) F16 B16 k11 b11 g11 O11 k13 b13 g13 O13 k15 b15 g15 O15 m9
    have O17 := ok_dueR (P := l.prog) (w := w) (mg := mg) (base := base) F17 m10 m3 m4
    have O18 := ok_under (P := l.prog) (w := w) (mg := mg) (base := base) F18
    have O19 := ok_early (P := l.prog) (w := w) (mg := mg) (base := base) F19 k11 b11 g11 O11 k13 b13 g13 O13 k18 b18 g18 O18 m1
    exact ok_law F20 k3 b3 g3 O3 k2 b2 g2 O2 k4 b4 g4 O4 k5 b5 g5 O5 k16 b16 g16 O16 k17 b17 g17 O17 k19 b19 g19 O19 m0 m1 m2 m3 m4 m5 m7
end HK

open PySem PySem.W PyProof.Rows
set_option Elab.async false
set_option maxRecDepth 100000
set_option maxHeartbeats 0 in
theorem PySem.Challenge.cw_hearkenway_k09_closed_places_holds : PySem.Challenge.rw_hearkenway_k09_closed_places.Holds := by
  w_on; o_law; k_head; (case hw => w_witness2)
  k_fill
  refine HK.walk_tabs (l := PySem.Challenge.rw_hearkenway_k09_closed_places) (n := 63) (k := 8) (x := "script") (CX := fun _ => L2.CX0) rfl (by decide) rfl ⟨rfl, by decide, by decide⟩ (fun w h Y => PySem.W.kIn_of Y) ?F (fun _ _ _ _ _ h => h)
  case F =>
    intro w mg fa h Y KX G hmg tabs
    refine' HK.all_mk KX G hmg tabs rfl ?a1 ?l1 ?c1 ?k1 ?a2 ?l2 ?c2 ?k2 ?a3 ?l3 ?c3 ?k3 ?a4 ?l4 ?c4 ?k4 ?a5 ?l5 ?c5 ?k5 ?a6 ?l6 ?c6 ?k6 ?a7 ?l7 ?c7 ?k7 ?a8 ?l8 ?c8 ?k8 ?a9 ?l9 ?c9 ?k9 ?a10 ?l10 ?c10 ?k10 ?a11 ?l11 ?c11 ?k11 ?a12 ?l12 ?c12 ?k12 ?a13 ?l13 ?c13 ?k13 ?a15 ?l15 ?c15 ?k15 ?a16 ?l16 ?c16 ?k16 ?a17 ?l17 ?c17 ?k17 ?a18 ?l18 ?c18 ?k18 ?a19 ?l19 ?c19 ?k19 ?a20 ?l20 ?c20 ?k20 ?z0 ?z1 ?z2 ?z3 ?z4 ?z5 ?z6 ?z7 ?z8 ?z9 ?z10 ?y0 ?y1 ?y2 ?y3 ?w10 ?v10 ?n10 ?q10 ?w9 ?v9 ?n9 ?q9 ?w15 ?v15 ?n15 ?q15 ?w16 ?v16 ?n16 ?q16
    (case a1 => k_is); (case l1 => k_is); (case c1 => k_is); (case k1 => k_is); (case a2 => k_is); (case l2 => k_is); (case c2 => k_is); (case k2 => k_is); (case a3 => k_is); (case l3 => k_is); (case c3 => k_is); (case k3 => k_is); (case a4 => k_is); (case l4 => k_is); (case c4 => k_is); (case k4 => k_is); (case a5 => k_is); (case l5 => k_is); (case c5 => k_is); (case k5 => k_is); (case a6 => k_is); (case l6 => k_is); (case c6 => k_is); (case k6 => k_is); (case a7 => k_is); (case l7 => k_is); (case c7 => k_is); (case k7 => k_is); (case a8 => k_is); (case l8 => k_is); (case c8 => k_is); (case k8 => k_is); (case a9 => k_is); (case l9 => k_is); (case c9 => k_is); (case k9 => k_is); (case a10 => k_is); (case l10 => k_is); (case c10 => k_is); (case k10 => k_is); (case a11 => k_is); (case l11 => k_is); (case c11 => k_is); (case k11 => k_is); (case a12 => k_is); (case l12 => k_is); (case c12 => k_is); (case k12 => k_is); (case a13 => k_is); (case l13 => k_is); (case c13 => k_is); (case k13 => k_is); (case a15 => k_is); (case l15 => k_is); (case c15 => k_is); (case k15 => k_is); (case a16 => k_is); (case l16 => k_is); (case c16 => k_is); (case k16 => k_is); (case a17 => k_is); (case l17 => k_is); (case c17 => k_is); (case k17 => k_is); (case a18 => k_is); (case l18 => k_is); (case c18 => k_is); (case k18 => k_is); (case a19 => k_is); (case l19 => k_is); (case c19 => k_is); (case k19 => k_is); (case a20 => k_is); (case l20 => k_is); (case c20 => k_is); (case k20 => k_is); (case z0 => k_is); (case z1 => k_is); (case z2 => k_is); (case z3 => k_is); (case z4 => k_is); (case z5 => k_is); (case z6 => k_is); (case z7 => k_is); (case z8 => k_is); (case z9 => k_is); (case z10 => k_is); (case y0 => k_is); (case y1 => k_is); (case y2 => k_is); (case y3 => k_is); (case w10 => k_is); (case w9 => k_is); (case w15 => k_is); (case w16 => k_is)
    (case v10 => rfl); (case n10 => rfl); (case v9 => rfl); (case n9 => rfl); (case v15 => rfl); (case n15 => rfl); (case v16 => rfl); (case n16 => rfl)
    (case q10 => decide +kernel); (case q9 => decide +kernel); (case q15 => decide +kernel); (case q16 => decide +kernel)
